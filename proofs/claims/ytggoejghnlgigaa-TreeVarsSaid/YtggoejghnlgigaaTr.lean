/- What an expression reads: what its walk calls. -/
import Derived.Test.YtggoejghnlgigaaTn3
namespace Go.Proofs.Ytggoejghnlgigaa
open Go.ChangeShapes Go.WideShapes Go.ChangeAt Go.RowKit Go.Maps
namespace Tx
set_option linter.unusedVariables false
set_option linter.unusedSimpArgs false
theorem ExAt.at (j : Nat) {P : Nat → Prop} {w : World} {b o : Nat} {d : Dt} {ks : Fo} {nv kv : Value} (h : ExAt P w b o d ks nv kv) {v : Value} (hv : (cells d nv kv)[j]? = some v) : w.cell? ⟨b, o + j, none⟩ = some v := h.cell j v hv
theorem KidsIn.slice {B : Nat → Prop} {w : World} {v : Value} {ks : Fo} (h : KidsIn B w v ks) : ∃ ao c, v = .slice ao ks.len c := by
  rcases h with ⟨h, rfl⟩ | ⟨b, o, cap, e, _⟩
  · exact h
  · exact ⟨_, _, e⟩
/-- A function that chooses kids. -/
structure Chooses (fk : FuncId) (selK : Dt → Fo → Nat) : Prop where
  call : ∀ (args : Array Value) (w : World), (callFunc fk args).run Try.prog w = .ok (.enter fk args) w
  kids : ∀ (P : Nat → Prop) (w : World) (b o : Nat) (d : Dt) (ks : Fo) (nv kv : Value), ExAt P w b o d ks nv kv →
    Calls Try.prog fk #[.pointer (some ⟨b, o, none⟩)] w fun e w' => ∃ v, e = .returned v ∧ KidSl P w' v ks (selK d ks) ∧ Below w.heap.size w w'
set_option maxHeartbeats 1000000 in
theorem all_chooses : Chooses 46 (fun _ ks => ks.len) := by
  refine ⟨fun args w => by kernel_rfl, fun P w b o d ks nv kv hx => ?_⟩
  have hc := hx.at 5 (v := kv) rfl
  have hs := hx.kids.sl
  obtain ⟨ao, c, rfl⟩ := hx.kids.slice
  clear hx
  go_enter Try.func46, Try.ntmps46
  go_wp2
  go_ret
  exact ⟨_, rfl, hs, Below.refl _ _⟩
/-- The names that are read so far, known to the walk. -/
def NamesR (kb : Nat) (fk : FuncId) (nb : Nat) (ns : List ByteArray) (F : Nat → Prop) (w : World) : Prop :=
  ∃ lv mv, NamesAt nb ns lv mv w ∧ (F = fun k => k = kb ∨ Foot nb lv mv k) ∧ kb < nb ∧ w.cell? ⟨kb, 0, none⟩ = some (.func (Fn.func fk) #[] #[])
theorem foot_ge {nb : Nat} {ns : List ByteArray} {lv mv : Value} {w : World} (h : NamesAt nb ns lv mv w) : ∀ k, Foot nb lv mv k → nb ≤ k := by
  rintro k (rfl | e | e)
  · exact Nat.le_refl _
  · have := (h.own.lt k e).1; omega
  · rcases h.map with ⟨e', _⟩ | ⟨mb, e', h1, _⟩
    · rw [e'] at e; cases e
    · rw [e'] at e; cases e; omega
theorem NamesR.lt {kb : Nat} {fk : FuncId} {nb : Nat} {ns : List ByteArray} {F : Nat → Prop} {w : World} (h : NamesR kb fk nb ns F w) : ∀ k, F k → k < w.heap.size := by
  obtain ⟨lv, mv, h, rfl, hlt, hc⟩ := h
  rintro k (rfl | e)
  · exact World.block_lt_of_cell? w _ hc
  · exact h.lt k e
theorem NamesR.keep {kb : Nat} {fk : FuncId} {nb : Nat} {ns : List ByteArray} {F S : Nat → Prop} {w w' : World} (h : NamesR kb fk nb ns F w) (hk : Keeps S w w') (hS : ∀ k, S k → ¬ F k) : NamesR kb fk nb ns F w' := by
  obtain ⟨lv, mv, h, rfl, hlt, hc⟩ := h
  exact ⟨lv, mv, h.keep hk (fun k hs hf => hS k hs (.inr hf)), rfl, hlt, hk.cell hc (fun hs => hS kb hs (.inl rfl))⟩
/-- Behind an addition: the walk knows the names still. -/
theorem NamesR.added {kb : Nat} {fk : FuncId} {nb : Nat} {ns ns' : List ByteArray} {lv mv : Value} {w w' : World} {e : Ending} (h : NamesAt nb ns lv mv w) (hlt : kb < nb) (hc : w.cell? ⟨kb, 0, none⟩ = some (.func (Fn.func fk) #[] #[])) (ha : Added nb ns' lv mv w e w') :
    e = .returned (.tuple #[]) ∧ After (NamesR kb fk nb) ns' (fun k => k = kb ∨ Foot nb lv mv k) w w' := by
  obtain ⟨lv', mv', he, hn, hk, hf⟩ := ha
  have hnf : ¬ Foot nb lv mv kb := fun e => by have := foot_ge h kb e; omega
  refine ⟨he, fun k => k = kb ∨ Foot nb lv' mv' k, ⟨lv', mv', hn, rfl, hlt, hk.cell hc hnf⟩, hk.mono fun k _ e => .inr e, ?_⟩
  rintro k (rfl | e)
  · exact .inl (.inl rfl)
  · rcases hf k e with e | e
    · exact .inl (.inr e)
    · exact .inr e
def lvR (s : List ByteArray) (d : Dt) : List ByteArray := if (d.k == 12) = true then addN s d.nm else s
def entR (s : List ByteArray) (d : Dt) : List ByteArray := if (d.k == 4 || d.k == 13) = true then addN s d.nm else s
set_option maxHeartbeats 1000000 in
theorem reads_leave (kb : Nat) (fk : FuncId) (nb : Nat) (ns : List ByteArray) (hlen : ns.length ≤ 3000000) (P F : Nat → Prop) (w : World) (b o : Nat) (d : Dt) (ks : Fo) (nv kv : Value) (hR : NamesR kb fk nb ns F w) (hF : ∀ k, F k → ¬ P k) (hx : ExAt P w b o d ks nv kv) :
    Calls Try.prog 55 #[.pointer (some ⟨b, o, none⟩), .pointer (some ⟨nb, 0, none⟩)] w (LeftOut true (NamesR kb fk nb) (lvR ns d) F w) := by
  have HR := Lib.hid hR
  obtain ⟨lv, mv, hn, rfl, hlt, hc⟩ := hR
  have c0 : w.cell? ⟨b, o, none⟩ = some (.int .u8 d.k) := hx.at 0 rfl
  have c3 := hx.at 3 (v := .string d.nm) rfl
  have HN := Lib.hid hn
  have HX := Lib.hid hc
  clear hx hF hn hc
  unfold lvR
  cases t12 : (d.k == 12)
  · rw [if_neg (by simp)]
    go_enter Try.func55, Try.ntmps55
    go_wp2_with fail
    go_ret
    exact ⟨rfl, _, HR.out, Keeps.refl _ _, fun k h => .inl h⟩
  · rw [if_pos rfl]
    go_enter Try.func55, Try.ntmps55
    go_wp2_with fail
    refine (add_any nb ns lv mv d.nm d.hnm hlen w HN.out).mono ?_
    rintro e w1 ha
    obtain ⟨rfl, hA⟩ := NamesR.added HN.out hlt HX.out ha
    go_wp2
    go_ret
    exact ⟨rfl, hA⟩
set_option maxHeartbeats 1000000 in
theorem reads_enter (kb : Nat) (fk : FuncId) (selK : Dt → Fo → Nat) (hk : Chooses fk selK) (nb : Nat) (ns : List ByteArray) (hlen : ns.length ≤ 3000000) (P F : Nat → Prop) (w : World) (b o : Nat) (d : Dt) (ks : Fo) (nv kv : Value) (hR : NamesR kb fk nb ns F w) (hF : ∀ k, F k → ¬ P k) (hx : ExAt P w b o d ks nv kv) :
    Calls Try.prog 53 #[.pointer (some ⟨b, o, none⟩), .pointer (some ⟨nb, 0, none⟩), .pointer (some ⟨kb, 0, none⟩)] w (EnterOut P (NamesR kb fk nb) (entR ns d) F ks (selK d ks) w) := by
  have HR := Lib.hid hR
  have HK := Lib.hid hk
  have HF := Lib.hid hF
  obtain ⟨lv, mv, hn, rfl, hlt, hc⟩ := hR
  have c0 : w.cell? ⟨b, o, none⟩ = some (.int .u8 d.k) := hx.at 0 rfl
  have c3 := hx.at 3 (v := .string d.nm) rfl
  have HN := Lib.hid hn
  have HE := Lib.hid hx
  have HX := Lib.hid hc
  have hcall := hk.call
  clear hx hF hn hc hk
  unfold entR
  cases t4 : (d.k == 4) <;> cases t13 : (d.k == 13)
  · rw [if_neg (by simp)]
    have hc := HX.out
    go_enter Try.func53, Try.ntmps53
    go_wp2_with fail
    refine (HK.out.kids P w b o d ks nv kv HE.out).mono ?_
    rintro e w2 ⟨v, rfl, hsl, hb⟩
    go_wp2
    go_ret
    exact ⟨v, rfl, hsl, _, HR.out.keep (S := fun _ => False) (Keeps.below hb) (fun _ h => h.elim), Keeps.below hb, fun k h => .inl h⟩
  all_goals
    rw [if_pos (by simp)]
    go_enter Try.func53, Try.ntmps53
    go_wp2_with fail
    refine (add_any nb ns lv mv d.nm d.hnm hlen w HN.out).mono ?_
    rintro e w1 ha
    obtain ⟨rfl, F', hR1, hk1, hf1⟩ := NamesR.added HN.out hlt HX.out ha
    have HR1 := Lib.hid hR1
    have HE1 := Lib.hid (HE.out.keep hk1 (fun k hp hf => HF.out k hf hp))
    have HK1 := Lib.hid hk1
    have hc1 : w1.cell? ⟨kb, 0, none⟩ = some (.func (Fn.func fk) #[] #[]) := by
      obtain ⟨_, _, _, _, _, hc1⟩ := hR1
      exact hc1
    clear hR1 hk1 ha
    go_wp2_with fail
    refine (HK.out.kids P w1 b o d ks nv kv HE1.out).mono ?_
    rintro e w2 ⟨v, rfl, hsl, hb⟩
    go_wp2
    go_ret
    exact ⟨v, rfl, hsl, F', HR1.out.keep (S := fun _ => False) (Keeps.below hb) (fun _ h => h.elim), HK1.out.trans (Keeps.below hb), hf1⟩
theorem addN_len (s : List ByteArray) (x : ByteArray) : (addN s x).length ≤ s.length + 1 := by
  unfold addN
  split
  · omega
  · simp
theorem entR_len (s : List ByteArray) (d : Dt) : (entR s d).length ≤ s.length + 1 := by
  unfold entR
  split
  · exact addN_len _ _
  · omega
theorem lvR_len (s : List ByteArray) (d : Dt) : (lvR s d).length ≤ s.length + 1 := by
  unfold lvR
  split
  · exact addN_len _ _
  · omega
theorem reads_visit (kb : Nat) (fk : FuncId) (selK : Dt → Fo → Nat) (hk : Chooses fk selK) (nb : Nat) :
    Visit entR (fun _ d ks => selK d ks) lvR (fun _ => false) List.length 3000000 53 55 #[.pointer (some ⟨nb, 0, none⟩), .pointer (some ⟨kb, 0, none⟩)] #[.pointer (some ⟨nb, 0, none⟩)] (NamesR kb fk nb) :=
  ⟨fun s F w h k hk => h.lt k hk, fun s F S w w' h hk hS => h.keep hk hS, entR_len, lvR_len, fun _ _ _ => rfl, fun P s F w b o d ks nv kv _ hl hR hF hx => reads_enter kb fk selK hk nb s hl P F w b o d ks nv kv hR hF hx, fun P s F w b o d ks nv kv _ hl hR hF hx => reads_leave kb fk nb s hl P F w b o d ks nv kv hR hF hx⟩
/-- What is read, in the order in which it comes. -/
def readsOf (selK : Dt → Fo → Nat) (d : Dt) (ks : Fo) : List ByteArray := wk entR (fun _ d ks => selK d ks) lvR (fun _ => false) (.cons d ks .nil) 1 []
end Tx
end Go.Proofs.Ytggoejghnlgigaa
