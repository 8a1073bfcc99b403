/- Types that are told twice, and constructors: the program's answer. -/
import Derived.Test.YtecfknbhnhcioaaGreatDoorNt
import Derived.Test.YtecfknbhnhcioaaGreatDoorFErr
import Derived.IntWalk
import Derived.Deep.LoopGhost
import Derived.Deep.RegionWith
import Derived.Deep.RegionHeld3
namespace Go.Proofs.YtecfknbhnhcioaaGreatDoor
open Go.ChangeShapes Go.WideShapes Go.ChangeAt Go.RowKit Go.Maps
namespace Tx
set_option linter.unusedVariables false
set_option linter.unusedSimpArgs false
def hasN (ns : List ByteArray) (s : ByteArray) : Bool := ns.any fun x => decide (x = s)
theorem same_kl (x s : ByteArray) : (kl x).sameKey (kl s) = decide (x = s) := by
  by_cases h : x = s
  · subst h; simp [kl, Lit.sameKey]
  · have hne : ¬ x.data.toList = s.data.toList := fun e => h (by
      have := Array.toList_inj.1 e
      cases x; cases s
      simp_all)
    simp only [kl, Lit.sameKey, decide_eq_false h]
    exact beq_eq_false_iff_ne.2 hne
theorem has_sd (ns : List ByteArray) (s : ByteArray) : Maps.has (Sd ns) (kl s) = hasN ns s := by
  unfold Sd
  rw [has_setOf _ _ _ (fun x hx => by obtain ⟨y, _, rfl⟩ := List.mem_map.1 hx; trivial)]
  rw [List.any_map]
  have : ((fun x => x.sameKey (kl s)) ∘ kl) = fun x => decide (x = s) := by funext x; exact same_kl x s
  rw [this]
  rfl
/-- A type: its name, its constructors and where they lie, its place. -/
structure En where
  nm : ByteArray
  hnm : nm.size ≤ maxLen
  v : Value
  cs : List ByteArray
  line : Int
  col : Int
def enumV (t : En) : List Value := [.string t.nm, t.v, .int .i64 t.line, .int .i64 t.col]
/-- Types lie side by side. -/
def EnRow (B : Nat → Prop) (w : World) (v : Value) (ts : List En) : Prop :=
  ((∃ a c, v = .slice a 0 c) ∧ ts = []) ∨ ∃ b cap, v = .slice (some ⟨b, 0, none⟩) ts.length cap ∧ ts.length ≤ cap ∧ cap ≤ maxLen ∧ B b ∧ ∀ i t, ts[i]? = some t → (∀ j u, (enumV t)[j]? = some u → w.cell? ⟨b, i * 4 + j, none⟩ = some u) ∧ NamesIn B w t.v t.cs
theorem EnRow.keep {B : Nat → Prop} {w w' : World} (hb : ∀ b o v, B b → w.cell? ⟨b, o, none⟩ = some v → w'.cell? ⟨b, o, none⟩ = some v) {v : Value} {ts : List En} (h : EnRow B w v ts) : EnRow B w' v ts := by
  rcases h with h | ⟨b, cap, h1, h2, h3, h4, h5⟩
  · exact .inl h
  · exact .inr ⟨b, cap, h1, h2, h3, h4, fun i t hi => ⟨fun j u hj => hb _ _ _ h4 ((h5 i t hi).1 j u hj), (h5 i t hi).2.keep hb⟩⟩
theorem EnRow.form {B : Nat → Prop} {w : World} {v : Value} {ts : List En} (h : EnRow B w v ts) : ∃ ao c, v = .slice ao ts.length c := by
  rcases h with ⟨h, rfl⟩ | ⟨b, cap, e, _⟩
  · exact h
  · exact ⟨_, _, e⟩
theorem EnRow.le {B : Nat → Prop} {w : World} {v : Value} {ts : List En} (h : EnRow B w v ts) : ts.length ≤ maxLen := by
  rcases h with ⟨_, rfl⟩ | ⟨b, cap, e, h1, h2, _⟩
  · exact Nat.zero_le _
  · omega
theorem NamesIn.form {B : Nat → Prop} {w : World} {v : Value} {ns : List ByteArray} (h : NamesIn B w v ns) : ∃ ao c, v = .slice ao ns.length c := by
  rcases h with ⟨h, rfl⟩ | ⟨b, o, cap, e, _⟩
  · exact h
  · exact ⟨_, _, e⟩
theorem NamesIn.le {B : Nat → Prop} {w : World} {v : Value} {ns : List ByteArray} (h : NamesIn B w v ns) : ns.length ≤ maxLen := by
  rcases h with ⟨h, rfl⟩ | ⟨b, o, cap, e, h1, h2, _⟩
  · exact Nat.zero_le _
  · omega
theorem NamesIn.one {B : Nat → Prop} {w : World} {ao : Option Addr} {n c : Nat} {ns : List ByteArray} (h : NamesIn B w (.slice ao n c) ns) {i : Nat} (hi : i < ns.length) : ∃ b o s, ao = some ⟨b, o, none⟩ ∧ ns[i]? = some s ∧ s.size ≤ maxLen ∧ B b ∧ w.cell? ⟨b, o + i, none⟩ = some (.string s) := by
  rcases h with ⟨_, rfl⟩ | ⟨b, o, cap, e, h1, h2, h3, h4⟩
  · simp at hi
  · injection e with e1 _ _
    obtain ⟨q1, q2⟩ := h4 i _ (List.getElem?_eq_getElem hi)
    exact ⟨b, o, ns[i], e1, List.getElem?_eq_getElem hi, q1, h3, q2⟩
theorem EnRow.at {B : Nat → Prop} {w : World} {ao : Option Addr} {n c : Nat} {ts : List En} (h : EnRow B w (.slice ao n c) ts) {i : Nat} (hi : i < ts.length) :
    ∃ b t a1 c1, ao = some ⟨b, 0, none⟩ ∧ ts[i]? = some t ∧ B b ∧ w.cell? ⟨b, i * 4, none⟩ = some (.string t.nm) ∧ w.cell? ⟨b, i * 4 + 1, none⟩ = some (.slice a1 t.cs.length c1) ∧ w.cell? ⟨b, i * 4 + 2, none⟩ = some (.int .i64 t.line) ∧ w.cell? ⟨b, i * 4 + 3, none⟩ = some (.int .i64 t.col) ∧ NamesIn B w (.slice a1 t.cs.length c1) t.cs := by
  rcases h with ⟨_, rfl⟩ | ⟨b, cap, e, h1, h2, h3, h4⟩
  · simp at hi
  · injection e with e1 _ _
    obtain ⟨q1, q2⟩ := h4 i _ (List.getElem?_eq_getElem hi)
    obtain ⟨a1, c1, hv⟩ := q2.form
    exact ⟨b, ts[i], a1, c1, e1, List.getElem?_eq_getElem hi, h3, q1 0 _ rfl, by have := q1 1 _ rfl; rw [hv] at this; exact this, q1 2 _ rfl, q1 3 _ rfl, hv ▸ q2⟩
/-- Is one of some constructors there already? -/
def dupC (C : List ByteArray) : List ByteArray → Bool
  | [] => false
  | c :: r => hasN C c || dupC (C ++ [c]) r
def badE (T C : List ByteArray) (t : En) : Bool := hasN T t.nm || dupC C t.cs
def firstBad : List En → List ByteArray → List ByteArray → Option En
  | [], _, _ => none
  | t :: r, T, C => if badE T C t = true then some t else firstBad r (T ++ [t.nm]) (C ++ t.cs)
theorem firstBad_drop {ts : List En} {i : Nat} {t : En} (h : ts[i]? = some t) (T C : List ByteArray) : firstBad (ts.drop i) T C = if badE T C t = true then some t else firstBad (ts.drop (i + 1)) (T ++ [t.nm]) (C ++ t.cs) := by
  obtain ⟨hi, rfl⟩ := List.getElem?_eq_some_iff.1 h
  rw [List.drop_eq_getElem_cons hi]
  rfl
theorem firstBad_end {ts : List En} {i : Nat} (h : ts.length ≤ i) (T C : List ByteArray) : firstBad (ts.drop i) T C = none := by
  rw [List.drop_eq_nil_of_le h]
  rfl
theorem dupC_drop {cs : List ByteArray} {j : Nat} {c : ByteArray} (h : cs[j]? = some c) (C : List ByteArray) : dupC C (cs.drop j) = (hasN C c || dupC (C ++ [c]) (cs.drop (j + 1))) := by
  obtain ⟨hi, rfl⟩ := List.getElem?_eq_some_iff.1 h
  rw [List.drop_eq_getElem_cons hi]
  rfl
theorem dupC_end {cs : List ByteArray} {j : Nat} (h : cs.length ≤ j) (C : List ByteArray) : dupC C (cs.drop j) = false := by
  rw [List.drop_eq_nil_of_le h]
  rfl
/-- What Check answers of a first fault. -/
def FaultOut (k : Int) (o : Option (Int × Int)) (v : Value) (w : World) : Prop :=
  match o with
  | none => v = .nilIface
  | some (line, col) => ∃ b, v = .iface 98 (.pointer (some ⟨b, 0, none⟩)) ∧ IsErr w b k line col
end Tx
end Go.Proofs.YtecfknbhnhcioaaGreatDoor
