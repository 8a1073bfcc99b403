/- A name that is added to some. -/
import Derived.Test.YtggoejghnlgigaaTn2
namespace Go.Proofs.Ytggoejghnlgigaa
open Go.ChangeShapes Go.WideShapes Go.ChangeAt Go.RowKit Go.Maps
namespace Tx
set_option linter.unusedVariables false
set_option linter.unusedSimpArgs false
def hasN (ns : List ByteArray) (s : ByteArray) : Bool := ns.any fun x => decide (x = s)
def addN (ns : List ByteArray) (s : ByteArray) : List ByteArray := if hasN ns s then ns else ns ++ [s]
theorem same_kl (x s : ByteArray) : (kl x).sameKey (kl s) = decide (x = s) := by
  by_cases h : x = s
  · subst h; simp [kl, Lit.sameKey]
  · have hne : ¬ x.data.toList = s.data.toList := fun e => h (by
      have := Array.toList_inj.1 e
      cases x; cases s
      simp_all)
    simp only [kl, Lit.sameKey, decide_eq_false h]
    exact beq_eq_false_iff_ne.2 hne
theorem has_sd (ns : List ByteArray) (s : ByteArray) : Maps.has (Sd ns) (kl s) = hasN ns s := by
  unfold Sd
  rw [has_setOf _ _ _ (fun x hx => by obtain ⟨y, _, rfl⟩ := List.mem_map.1 hx; trivial)]
  rw [List.any_map]
  have : ((fun x => x.sameKey (kl s)) ∘ kl) = fun x => decide (x = s) := by funext x; exact same_kl x s
  rw [this]
  rfl
theorem NamesAt.lt {nb : Nat} {ns : List ByteArray} {lv mv : Value} {w : World} (h : NamesAt nb ns lv mv w) : ∀ k, Foot nb lv mv k → k < w.heap.size := by
  rintro k (rfl | e | e)
  · exact World.block_lt_of_cell? w _ h.c0
  · exact (h.own.lt k e).2
  · rcases h.map with ⟨e', _⟩ | ⟨mb, e', _, _, hown⟩
    · rw [e'] at e; cases e
    · rw [e'] at e; cases e; exact hown.lt
theorem NamesAt.keep {nb : Nat} {ns : List ByteArray} {lv mv : Value} {w w' : World} {S : Nat → Prop} (h : NamesAt nb ns lv mv w) (hk : Keeps S w w') (hS : ∀ k, S k → ¬ Foot nb lv mv k) : NamesAt nb ns lv mv w' := by
  have hnb : nb < w.heap.size := World.block_lt_of_cell? w _ h.c0
  have hn : ¬ S nb := fun e => hS nb e (.inl rfl)
  have hblk := hk.block nb hnb hn
  refine ⟨hk.cell h.c0 hn, hk.cell h.c1 hn, (World.frozen?_of_block (a := ⟨nb, 0, none⟩) hblk).trans h.f0, (World.frozen?_of_block (a := ⟨nb, 1, none⟩) hblk).trans h.f1, own_other h.own hk (fun k e hs => hS k hs (.inr (.inl e))), ?_⟩
  rcases h.map with ⟨e, e'⟩ | ⟨mb, e, h1, h2, hown⟩
  · exact .inl ⟨e, e'⟩
  · refine .inr ⟨mb, e, h1, h2, ?_⟩
    obtain ⟨es, clock, hb, r⟩ := hown
    exact ⟨es, clock, (hk.block mb (Array.getElem?_eq_some_iff.1 hb).1 (fun hs => hS mb hs (.inr (.inr e)))).trans hb, r⟩
theorem add_any (nb : Nat) (ns : List ByteArray) (lv mv : Value) (s : ByteArray) (hs : s.size ≤ maxLen) (hlen : ns.length ≤ 3000000) (w : World) (h : NamesAt nb ns lv mv w) :
    Calls Try.prog 54 #[.pointer (some ⟨nb, 0, none⟩), .string s] w (Added nb (addN ns s) lv mv w) := by
  unfold addN
  by_cases hm : hasN ns s = true
  · rw [if_pos hm]
    refine (add_has nb ns lv mv s hs w h (by rw [has_sd]; simpa using hm)).mono ?_
    rintro e w' ⟨rfl, hb⟩
    have hk : Keeps (fun _ => False) w w' := Keeps.below hb
    exact ⟨lv, mv, rfl, h.keep hk (fun _ e => e.elim), Keeps.below hb, fun k hk => .inl hk⟩
  · rw [if_neg hm]
    rcases h.map with ⟨rfl, rfl⟩ | ⟨mb, rfl, _⟩
    · exact add_first nb lv s hs w h
    · exact add_new nb ns lv mb s hs hlen w h (by rw [has_sd]; simpa using hm)
end Tx
end Go.Proofs.Ytggoejghnlgigaa
