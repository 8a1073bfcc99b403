/- The finds of package tree. -/
import Derived.Test.YtggoejghnlgigaaTf
namespace Go.Proofs.Ytggoejghnlgigaa
open Go.ChangeShapes Go.WideShapes Go.ChangeAt Go.RowKit Go.Maps
namespace Tx
set_option linter.unusedVariables false
set_option linter.unusedSimpArgs false
def isS (s x : ByteArray) : Bool := x.toList == s.toList
theorem isS_comm (s x : ByteArray) : (s.toList == x.toList) = isS s x := by
  unfold isS
  rw [Bool.eq_iff_iff, beq_iff_eq, beq_iff_eq]
  exact ⟨fun h => h.symm, fun h => h.symm⟩
theorem Found.from {r : Int} {W W1 : World} {e : Ending} {w' : World} (h : Found r W1 e w') (hb : Below W.heap.size W W1) : Found r W e w' := ⟨h.1, bel hb hb.size h.2⟩
set_option maxHeartbeats 1000000 in
theorem find_any (s : ByteArray) (hs : s.size ≤ maxLen) (W : World) (v : Value) (xs : List ByteArray) (hr : RowIn 15 varV W v xs) : Calls Try.prog 11 #[v, .string s] W (Found (ixOf (isS s) xs 0) W) := by
  have hmf : ∀ (fn : Fn) (first cap : Array Value) (w : World), (Instr.makeFunc fn first cap).run Try.prog w = .ok (.func fn first cap) w := fun _ _ _ _ => rfl
  obtain ⟨ao, c, rfl⟩ := hr.form
  have HR := Lib.hid hr
  obtain ⟨N, hN⟩ : ∃ N, xs.length = N := ⟨_, rfl⟩
  rw [hN]
  have HN := Lib.hid hN
  clear hr hN
  go_enter Try.func11, Try.ntmps11
  go_wp2_with fail
  have hb1 : Below W.heap.size W (W.alloc (.cells #[.string s] 9)) := (Below.refl _ _).alloc (Nat.le_refl _) _
  refine (indexVar_any 35 _ _ _ _ xs (by have := HR.out.below hb1; rw [HN.out] at this; exact this) (find_closure s hs W.heap.size _ xs (by simp [go_sem]))).mono ?_
  rintro e w1 hf
  obtain ⟨rfl, hb⟩ := hf.from hb1
  clear hf hb1
  go_wp2
  go_ret
  exact ⟨rfl, hb⟩
set_option maxHeartbeats 1000000 in
theorem findNode_any (s : ByteArray) (hs : s.size ≤ maxLen) (W : World) (ev v : Value) (xs : List ByteArray) (hr : RowIn 7 nodeV W v xs) : Calls Try.prog 12 #[.agg #[ev, v], .string s] W (Found (ixOf (isS s) xs 0) W) := by
  have hmf : ∀ (fn : Fn) (first cap : Array Value) (w : World), (Instr.makeFunc fn first cap).run Try.prog w = .ok (.func fn first cap) w := fun _ _ _ _ => rfl
  obtain ⟨ao, c, rfl⟩ := hr.form
  have HR := Lib.hid hr
  obtain ⟨N, hN⟩ : ∃ N, xs.length = N := ⟨_, rfl⟩
  rw [hN]
  have HN := Lib.hid hN
  clear hr hN
  go_enter Try.func12, Try.ntmps12
  go_wp2_with fail
  have hb1 : Below W.heap.size W ((W.alloc (.cells #[ev, .slice ao N c] 42)).alloc (.cells #[.string s] 9)) := ((Below.refl _ _).alloc (Nat.le_refl _) _).alloc (by simp) _
  refine (indexNode_any 37 _ _ _ _ xs (by have := HR.out.below hb1; rw [HN.out] at this; exact this) (findNode_closure s hs (W.heap.size + 1) _ xs (by simp [go_sem]))).mono ?_
  rintro e w1 hf
  obtain ⟨rfl, hb⟩ := hf.from hb1
  clear hf hb1
  go_wp2
  go_ret
  exact ⟨rfl, hb⟩
/-- Types lie in memory. -/
structure EnsIn (B : Nat → Prop) (w : World) (v : Value) (ts : List En) : Prop where
  row : RowIn 4 enumV w v ts
  ctors : ∀ t ∈ ts, NamesIn B w t.v t.cs
  lt : ∀ k, B k → k < w.heap.size
theorem EnsIn.below {B : Nat → Prop} {w w' : World} {v : Value} {ts : List En} (h : EnsIn B w v ts) (hb : Below w.heap.size w w') : EnsIn B w' v ts :=
  ⟨h.row.below hb, fun t ht => (h.ctors t ht).keep fun b o u hB hc => (hb.cell (p := ⟨b, o, none⟩) (h.lt b hB)).trans hc, fun k hk => Nat.lt_of_lt_of_le (h.lt k hk) hb.size⟩
set_option maxHeartbeats 1000000 in
theorem findEnum_any (B : Nat → Prop) (s : ByteArray) (hs : s.size ≤ maxLen) (W : World) (v : Value) (ts : List En) (hr : EnsIn B W v ts) : Calls Try.prog 19 #[v, .string s] W (Found (ixOf (fun t => isS s t.nm) ts 0) W) := by
  have hmf : ∀ (fn : Fn) (first cap : Array Value) (w : World), (Instr.makeFunc fn first cap).run Try.prog w = .ok (.func fn first cap) w := fun _ _ _ _ => rfl
  obtain ⟨ao, c, rfl⟩ := hr.row.form
  have HR := Lib.hid hr.row
  obtain ⟨N, hN⟩ : ∃ N, ts.length = N := ⟨_, rfl⟩
  rw [hN]
  have HN := Lib.hid hN
  clear hr hN
  go_enter Try.func19, Try.ntmps19
  go_wp2_with fail
  have hb1 : Below W.heap.size W (W.alloc (.cells #[.string s] 9)) := (Below.refl _ _).alloc (Nat.le_refl _) _
  refine (indexEnum_any 43 _ _ _ _ ts (by have := HR.out.below hb1; rw [HN.out] at this; exact this) (findEnum_closure s hs W.heap.size _ ts (by simp [go_sem]))).mono ?_
  rintro e w1 hf
  obtain ⟨rfl, hb⟩ := hf.from hb1
  clear hf hb1
  go_wp2
  go_ret
  exact ⟨rfl, hb⟩
set_option maxHeartbeats 2000000 in
theorem index_any (B : Nat → Prop) (s : ByteArray) (w : World) (v : Value) (ns : List ByteArray) (h : NamesIn B w v ns) : Calls Try.prog 42 #[v, .string s] w fun e w' => e = .returned (.int .i64 (ixOf (isS s) ns 0)) ∧ w' = w := by
  obtain ⟨ao, c, rfl⟩ := h.form
  have H := Lib.hid h
  obtain ⟨N, hN⟩ : ∃ N, ns.length = N := ⟨_, rfl⟩
  have HN := Lib.hid hN
  have hle : N ≤ maxLen := by have := h.le; omega
  unfold maxLen at hle
  rw [hN]
  clear h hN
  go_enter Try.func42, Try.ntmps42
  go_wp2
  go_loopg [8] N (fun g iv wr => ∃ i : Nat, i + g = N ∧ iv = .int .i64 i ∧ wr = w ∧ ixOf (isS s) (ns.drop i) i = ixOf (isS s) ns 0)
  case atStart => exact ⟨0, by omega, rfl, rfl, rfl⟩
  case round =>
    obtain ⟨i, hi, rfl, rfl, hs⟩ := hrel
    have HS := Lib.hid hs
    clear hs
    by_cases hlt : i < N
    · obtain ⟨b, o, x, rfl, hx, hc⟩ := H.out.cellAt (i := i) (by have := HN.out; omega)
      have HX := Lib.hid hx
      clear hx
      cases hp : isS s x
      · have ht : (s.toList == x.toList) = false := by rw [isS_comm]; exact hp
        have ht2 : (x.toList == s.toList) = false := hp
        go_wp2
        go_roundg (N - (i + 1))
        case measure => omega
        case rel => exact ⟨i + 1, by omega, by go_num, rfl, by have h := HS.out; rw [ixOf_drop HX.out, hp, if_neg (by decide)] at h; exact h⟩
      · have ht : (s.toList == x.toList) = true := by rw [isS_comm]; exact hp
        have ht2 : (x.toList == s.toList) = true := hp
        go_wp2
        go_ret
        exact ⟨by have h := HS.out; rw [ixOf_drop HX.out, hp, if_pos rfl] at h; rw [← h]; rfl, rfl⟩
    · go_wp2
      go_ret
      exact ⟨by have h := HS.out; rw [ixOf_end (by have := HN.out; omega)] at h; rw [← h]; rfl, rfl⟩
def hasS (s : ByteArray) (ns : List ByteArray) : Bool := decide (0 ≤ ixOf (isS s) ns 0)
set_option maxHeartbeats 1000000 in
theorem contains_any (B : Nat → Prop) (s : ByteArray) (w : World) (v : Value) (ns : List ByteArray) (h : NamesIn B w v ns) : Calls Try.prog 40 #[v, .string s] w fun e w' => e = .returned (.bool (hasS s ns)) ∧ w' = w := by
  obtain ⟨ao, c, rfl⟩ := h.form
  have H := Lib.hid h
  obtain ⟨N, hN⟩ : ∃ N, ns.length = N := ⟨_, rfl⟩
  rw [hN]
  have HN := Lib.hid hN
  clear h hN
  have hd : (hasS s ns = true ∧ 0 ≤ ixOf (isS s) ns 0) ∨ (hasS s ns = false ∧ ¬ 0 ≤ ixOf (isS s) ns 0) := by
    by_cases hq : 0 ≤ ixOf (isS s) ns 0
    · exact .inl ⟨decide_eq_true hq, hq⟩
    · exact .inr ⟨decide_eq_false hq, hq⟩
  rcases hd with ⟨hd, hq⟩ | ⟨hd, hq⟩
  all_goals
    rw [hd]
    clear hd
    go_enter Try.func40, Try.ntmps40
    go_wp2_with fail
    refine (index_any B s w _ ns (by rw [← HN.out]; exact H.out)).mono ?_
    rintro e w1 ⟨rfl, rfl⟩
    generalize ixOf (isS s) ns 0 = q at hq ⊢
    go_wp2
    go_ret
    first
      | exact ⟨rfl, rfl⟩
      | exact ⟨(show Ending.returned (.bool (decide (0 ≤ q))) = _ by first | rw [decide_eq_false (show ¬ 0 ≤ q by omega)] | rw [decide_eq_true (show 0 ≤ q by omega)]), rfl⟩
set_option maxHeartbeats 2000000 in
theorem ctorEnum_closure (B : Nat → Prop) (s : ByteArray) (cb : Nat) (W : World) (ts : List En) (v : Value) (hr : EnsIn B W v ts) (hc : W.cell? ⟨cb, 0, none⟩ = some (.string s)) : IxEnum 39 #[.pointer (some ⟨cb, 0, none⟩)] (fun t => hasS s t.cs) W ts := by
  refine ⟨fun args w => by kernel_rfl, fun x w hx hb => ?_⟩
  have hcb : cb < W.heap.size := World.block_lt_of_cell? W _ hc
  have c1 : w.cell? ⟨cb, 0, none⟩ = some (.string s) := (hb.cell (p := ⟨cb, 0, none⟩) hcb).trans hc
  have c2 : ∀ o, (w.alloc o).cell? ⟨cb, 0, none⟩ = some (.string s) := fun o => (((Below.refl w.heap.size w).alloc (Nat.le_refl _) o).cell (p := ⟨cb, 0, none⟩) (World.block_lt_of_cell? w _ c1)).trans c1
  have hn := (hr.below hb).ctors x hx
  have hn2 := Lib.hid (show ∀ o, NamesIn B (w.alloc o) x.v x.cs from fun o => hn.keep fun b o' u hB hc => (((Below.refl w.heap.size w).alloc (Nat.le_refl _) o).cell (p := ⟨b, o', none⟩) ((hr.below hb).lt b hB)).trans hc)
  obtain ⟨nm, xv, cs⟩ := x
  obtain ⟨ao, c, hv⟩ := hn.form
  replace hv : xv = .slice ao cs.length c := hv
  subst hv
  clear hb hcb c1 hn hx hr
  show Calls _ _ (#[.agg #[.string nm, .slice ao cs.length c, .int .i64 0, .int .i64 0]] ++ _) _ _
  obtain ⟨N, hN⟩ : ∃ N, cs.length = N := ⟨_, rfl⟩
  have HN := Lib.hid hN
  rw [hN] at hn2 ⊢
  clear hN
  go_enter Try.func39, Try.ntmps39
  go_wp2_with fail
  refine (contains_any B s _ _ cs (hn2.out _)).mono ?_
  rintro e w1 ⟨rfl, rfl⟩
  go_wp2
  go_ret
  exact ⟨rfl, (Below.refl _ _).alloc (Nat.le_refl _) _⟩
set_option maxHeartbeats 1000000 in
theorem ctorEnum_any (B : Nat → Prop) (s : ByteArray) (W : World) (v : Value) (ts : List En) (hr : EnsIn B W v ts) : Calls Try.prog 13 #[v, .string s] W (Found (ixOf (fun t => hasS s t.cs) ts 0) W) := by
  have hmf : ∀ (fn : Fn) (first cap : Array Value) (w : World), (Instr.makeFunc fn first cap).run Try.prog w = .ok (.func fn first cap) w := fun _ _ _ _ => rfl
  obtain ⟨ao, c, rfl⟩ := hr.row.form
  have HR := Lib.hid hr
  obtain ⟨N, hN⟩ : ∃ N, ts.length = N := ⟨_, rfl⟩
  rw [hN]
  have HN := Lib.hid hN
  clear hr hN
  go_enter Try.func13, Try.ntmps13
  go_wp2_with fail
  have hb1 : Below W.heap.size W (W.alloc (.cells #[.string s] 9)) := (Below.refl _ _).alloc (Nat.le_refl _) _
  have hr1 := HR.out.below hb1
  rw [HN.out] at hr1
  refine (indexEnum_any 39 _ _ _ _ ts hr1.row (ctorEnum_closure B s W.heap.size _ ts _ hr1 (by simp [go_sem]))).mono ?_
  rintro e w1 hf
  obtain ⟨rfl, hb⟩ := hf.from hb1
  clear hf hb1 hr1
  go_wp2
  go_ret
  exact ⟨rfl, hb⟩
end Tx
end Go.Proofs.Ytggoejghnlgigaa
