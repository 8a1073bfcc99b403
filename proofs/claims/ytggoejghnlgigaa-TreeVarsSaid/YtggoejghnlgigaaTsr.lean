/- Two expressions compared, by the reference. -/
import Derived.Test.YtggoejghnlgigaaTsz
import Derived.Deep.RegionWith
namespace Go.Proofs.Ytggoejghnlgigaa
open Go.ChangeShapes Go.WideShapes Go.ChangeAt Go.RowKit Go.Maps
namespace Tx
set_option linter.unusedVariables false
set_option linter.unusedSimpArgs false
theorem drop_le : ∀ (f : Fo) (i : Nat), (f.drop i).size ≤ f.size
  | .nil, 0 => Nat.le_refl _
  | .nil, _ + 1 => Nat.le_refl _
  | .cons d ks r, 0 => Nat.le_refl _
  | .cons d ks r, i + 1 => by have := drop_le r i; simp only [Fo.drop, Fo.size]; omega
theorem get_size {f : Fo} {i : Nat} {d : Dt} {ks : Fo} (h : f.get i = some (d, ks)) : ks.size < f.size := by
  have h1 := drop_size h
  have h2 := drop_le f i
  omega
theorem two {W W2 : World} {o0 o1 : Obj} (h : (W.alloc o0).alloc o1 = W2) : W2.heap[W.heap.size]? = some o0 ∧ W2.heap[W.heap.size + 1]? = some o1 ∧ Below W.heap.size W W2 ∧ W2.heap.size = W.heap.size + 2 := by
  subst h
  have e : ((W.alloc o0).alloc o1).heap = (W.heap.push o0).push o1 := rfl
  refine ⟨?_, ?_, ((Below.refl _ _).alloc (Nat.le_refl _) _).alloc (by simp) _, by simp⟩
  · rw [e, Array.getElem?_push, if_neg (by simp only [Array.size_push]; omega), Array.getElem?_push, if_pos rfl]
  · rw [e, Array.getElem?_push, if_pos (by simp only [Array.size_push])]
theorem blk_cells8 {w : World} {b : Nat} {c0 c1 c2 c3 c4 c5 c6 c7 : Value} {t : TypeId} {fr : Nat × Nat} (h : w.heap[b]? = some (.cells #[c0, c1, c2, c3, c4, c5, c6, c7] t fr)) :
    w.cell? ⟨b, 0, none⟩ = some c0 ∧ w.cell? ⟨b, 1, none⟩ = some c1 ∧ w.cell? ⟨b, 2, none⟩ = some c2 ∧ w.cell? ⟨b, 3, none⟩ = some c3 ∧ w.cell? ⟨b, 4, none⟩ = some c4 ∧ w.cell? ⟨b, 5, none⟩ = some c5 := by
  refine ⟨?_, ?_, ?_, ?_, ?_, ?_⟩ <;> (rw [cell_of_row w b _ _ _ _ h]; rfl)
set_option maxRecDepth 100000 in
set_option maxHeartbeats 8000000 in
theorem refSame_any : ∀ (n : Nat) (k1 : Fo), k1.size ≤ n → ∀ (B : Nat → Prop) (W : World), (∀ k, B k → k < W.heap.size) → ∀ (d1 d2 : Dt) (k2 : Fo) (nv1 kv1 nv2 kv2 : Value), NamesIn B W nv1 d1.ns → KidsIn B W kv1 k1 → NamesIn B W nv2 d2.ns → KidsIn B W kv2 k2 →
    Calls Try.prog 33 #[exV d1 nv1 kv1, exV d2 nv2 kv2] W (Ans W (sameE d1 k1 d2 k2)) := by
  intro n
  induction n using Nat.strongRecOn with
  | _ n ih =>
  intro k1 hk1n B W hB d1 d2 k2 nv1 kv1 nv2 kv2 hn1 hk1 hn2 hk2
  obtain ⟨na1, nc1, rfl⟩ := hn1.form
  obtain ⟨na2, nc2, rfl⟩ := hn2.form
  obtain ⟨ka1, kc1, rfl⟩ := hk1.shape
  obtain ⟨ka2, kc2, rfl⟩ := hk2.shape
  have hle := hk1.le
  unfold maxLen at hle
  have IH := Lib.hid ih
  have HKN := Lib.hid hk1n
  have HN1 := Lib.hid hn1
  have HN2 := Lib.hid hn2
  have HK1 := Lib.hid hk1
  have HK2 := Lib.hid hk2
  have HB := Lib.hid hB
  generalize hL1 : k1.len = L1 at *
  generalize hL2 : k2.len = L2 at *
  have HL1 := Lib.hid hL1
  have HL2 := Lib.hid hL2
  clear hn1 hn2 hk1 hk2 hB ih hk1n hL1 hL2
  have ndec : ∀ x y : Bool, (x && y) = true → x = true ∧ y = true := by simp
  unfold sameE sameD exV
  cases t0 : (d1.k == d2.k)
  · simp only [Bool.false_and]
    have t0' : (d1.k != d2.k) = true := by rw [bne, t0]; rfl
    go_enter Try.func33, Try.ntmps33
    go_wp2
    go_ret
    exact ⟨rfl, ((Below.refl _ _).alloc (Nat.le_refl _) _).alloc (by simp) _⟩
  have t0' : (d1.k != d2.k) = false := by rw [bne, t0]; rfl
  cases t1 : (d1.op == d2.op)
  · simp only [Bool.false_and, Bool.true_and]
    have t1' : (d1.op != d2.op) = true := by rw [bne, t1]; rfl
    go_enter Try.func33, Try.ntmps33
    go_wp2
    go_ret
    exact ⟨rfl, ((Below.refl _ _).alloc (Nat.le_refl _) _).alloc (by simp) _⟩
  have t1' : (d1.op != d2.op) = false := by rw [bne, t1]; rfl
  cases t2 : (d1.n == d2.n)
  · simp only [Bool.false_and, Bool.true_and]
    have t2' : (d1.n != d2.n) = true := by rw [bne, t2]; rfl
    go_enter Try.func33, Try.ntmps33
    go_wp2
    go_ret
    exact ⟨rfl, ((Below.refl _ _).alloc (Nat.le_refl _) _).alloc (by simp) _⟩
  have t2' : (d1.n != d2.n) = false := by rw [bne, t2]; rfl
  cases t3 : (d1.nm.toList == d2.nm.toList)
  · simp only [Bool.false_and, Bool.true_and]
    have t3' : (d1.nm.toList != d2.nm.toList) = true := by rw [bne, t3]; rfl
    go_enter Try.func33, Try.ntmps33
    go_wp2
    go_ret
    exact ⟨rfl, ((Below.refl _ _).alloc (Nat.le_refl _) _).alloc (by simp) _⟩
  have t3' : (d1.nm.toList != d2.nm.toList) = false := by rw [bne, t3]; rfl
  simp only [Bool.true_and]
  generalize hres : sameF k1 k2 = res
  have HRES := Lib.hid hres
  generalize hN : sameN d1.ns d2.ns = qn
  have HNQ := Lib.hid hN
  clear hres hN
  have hmain : ∀ r : Bool, (qn && res) = r → Calls Try.prog 33 #[.agg #[.int .u8 d1.k, .int .u8 d1.op, .int .i32 d1.n, .string d1.nm, .slice na1 d1.ns.length nc1, .slice ka1 L1 kc1, .int .i64 d1.line, .int .i64 d1.col], .agg #[.int .u8 d2.k, .int .u8 d2.op, .int .i32 d2.n, .string d2.nm, .slice na2 d2.ns.length nc2, .slice ka2 L2 kc2, .int .i64 d2.line, .int .i64 d2.col]] W (Ans W r) := by
   intro r hr
   have HR := Lib.hid hr
   clear hr
   go_enter Try.func33, Try.ntmps33
   go_wp2_with fail
   clear t0 t1 t2 t3 t0' t1' t2' t3'
   generalize hW2 : (W.alloc _).alloc _ = W2
   obtain ⟨g1, g2, bl, z2⟩ := two hW2
   clear hW2
   have kp : ∀ b o v, B b → W.cell? ⟨b, o, none⟩ = some v → W2.cell? ⟨b, o, none⟩ = some v := fun b o v hb hc => (bl.cell (p := ⟨b, o, none⟩) (HB.out b hb)).trans hc
   refine (rnames_any B W2 _ _ d1.ns d2.ns (HN1.out.keep kp) (HN2.out.keep kp)).mono ?_
   rw [HNQ.out]
   rintro e w' ⟨rfl, q, rfl⟩
   have be : ∀ (w3 : World), Below (W.heap.size + 2) W2 w3 → Below W.heap.size W w3 := fun w3 h => bl.trans (h.mono (by omega))
   have BE := Lib.hid be
   clear be
   cases qn
   · have hr : r = false := HR.out.symm
     subst hr
     go_wp2
     go_ret
     exact ⟨rfl, BE.out _ ⟨rfl, rfl, rfl, Nat.le_refl _, fun _ _ => rfl⟩⟩
   have hr : r = res := by rw [← HR.out, Bool.true_and]
   subst hr
   obtain ⟨_, _, _, _, _, x5⟩ := blk_cells8 g1
   obtain ⟨_, _, _, _, _, y5⟩ := blk_cells8 g2
   by_cases hl : L1 = L2
   · subst hl
     have BL := Lib.hid bl
     have Z2 := Lib.hid z2
     have KP := Lib.hid kp
     clear g1 g2 bl z2 kp
     go_wp2
     go_loopg [5] L1 (fun g iv wr => ∃ i : Nat, i + g = L1 ∧ iv = .int .i64 i ∧ Below (W.heap.size + 2) W2 wr ∧ sameF (k1.drop i) (k2.drop i) = r)
     case atStart => exact ⟨0, by omega, rfl, ⟨rfl, rfl, rfl, Nat.le_refl _, fun _ _ => rfl⟩, by rw [drop_zero, drop_zero]; exact HRES.out⟩
     case round =>
       obtain ⟨i, hig, rfl, hbw, hs⟩ := hrel
       have c5 : wr.cell? ⟨W.heap.size, 5, none⟩ = some (.slice ka1 L1 kc1) := (hbw.cell (p := ⟨W.heap.size, 5, none⟩) (by show W.heap.size < W.heap.size + 2; omega)).trans x5
       have c6 : wr.cell? ⟨W.heap.size + 1, 5, none⟩ = some (.slice ka2 L1 kc2) := (hbw.cell (p := ⟨W.heap.size + 1, 5, none⟩) (by show W.heap.size + 1 < W.heap.size + 2; omega)).trans y5
       have HBW := Lib.hid hbw
       have HS := Lib.hid hs
       have hzr : W.heap.size + 2 ≤ wr.heap.size := by have := hbw.size; have := Z2.out; omega
       have kp2 : ∀ b o v, B b → W.cell? ⟨b, o, none⟩ = some v → wr.cell? ⟨b, o, none⟩ = some v := fun b o v hb hc => (hbw.cell (p := ⟨b, o, none⟩) (by have := HB.out b hb; show b < W.heap.size + 2; omega)).trans (KP.out b o v hb hc)
       have ka := HK1.out.keep kp2
       have kb := HK2.out.keep kp2
       clear x5 y5 hbw hs kp2
       by_cases hi : i < L1
       · obtain ⟨b1, o1, e1, m1, nv1, kv1, rfl, g1, x1⟩ := ka.one (i := i) (by rw [HL1.out]; exact hi)
         obtain ⟨b2, o2, e2, m2, nv2, kv2, rfl, g2, x2⟩ := kb.one (i := i) (by rw [HL2.out]; exact hi)
         have u0 : wr.cell? ⟨b1, o1 + i * 8, none⟩ = some (.int .u8 e1.k) := x1.e 0 (v := .int .u8 e1.k) rfl
         have u1 := x1.e 1 (v := .int .u8 e1.op) rfl
         have u2 := x1.e 2 (v := .int .i32 e1.n) rfl
         have u3 := x1.e 3 (v := .string e1.nm) rfl
         have u4 := x1.e 4 (v := nv1) rfl
         have u5 := x1.e 5 (v := kv1) rfl
         have u6 := x1.e 6 (v := .int .i64 e1.line) rfl
         have u7 := x1.e 7 (v := .int .i64 e1.col) rfl
         have v0 : wr.cell? ⟨b2, o2 + i * 8, none⟩ = some (.int .u8 e2.k) := x2.e 0 (v := .int .u8 e2.k) rfl
         have v1 := x2.e 1 (v := .int .u8 e2.op) rfl
         have v2 := x2.e 2 (v := .int .i32 e2.n) rfl
         have v3 := x2.e 3 (v := .string e2.nm) rfl
         have v4 := x2.e 4 (v := nv2) rfl
         have v5 := x2.e 5 (v := kv2) rfl
         have v6 := x2.e 6 (v := .int .i64 e2.line) rfl
         have v7 := x2.e 7 (v := .int .i64 e2.col) rfl
         have hd := sameF_drop g1 g2
         have HC : Hid (∀ w', Keeps (fun _ => False) wr w' → Calls Try.prog 33 #[exV e1 nv1 kv1, exV e2 nv2 kv2] w' (Ans w' (sameE e1 m1 e2 m2))) := Lib.hid fun w' hw' =>
           IH.out m1.size (Nat.lt_of_lt_of_le (get_size g1) HKN.out) m1 (Nat.le_refl _) B w' (fun k hk => by have := HB.out k hk; have := hw'.size; omega) e1 e2 m2 nv1 kv1 nv2 kv2 (x1.names.keep (fun b o v hb hc => hw'.cell hc id)) (x1.kids.keep (fun b o v hb hc => hw'.cell hc id)) (x2.names.keep (fun b o v hb hc => hw'.cell hc id)) (x2.kids.keep (fun b o v hb hc => hw'.cell hc id))
         rw [← Bool.and_assoc] at hd
         change _ = (sameE e1 m1 e2 m2 && _) at hd
         have HD := Lib.hid hd
         unfold exV at HC
         clear g1 g2 x1 x2 ka kb hd
         cases hr : sameE e1 m1 e2 m2
         · rw [hr] at HC HD
           have hf : r = false := by have h1 := HD.out; rw [HS.out, Bool.false_and] at h1; exact h1
           subst hf
           clear hr HD
           go_wp2
           go_region_with (go_at_call 33; refine (HC.out _ (by exact ⟨rfl, rfl, rfl, Nat.le_refl _, fun _ _ _ => rfl⟩)).mono ?_; rintro e w3 ⟨rfl, hb3⟩; have HB3 := Lib.hid (HBW.out.drew.trans (hb3.mono hzr)); clear hb3)
           all_goals
             go_wp2
             go_ret
             exact ⟨rfl, BE.out _ HB3.out⟩
         · rw [hr] at HC HD
           have hf : sameF (k1.drop (i + 1)) (k2.drop (i + 1)) = r := by have h1 := HD.out; rw [HS.out, Bool.true_and] at h1; exact h1.symm
           have HF := Lib.hid hf
           clear hr HD hf
           go_wp2
           go_region_with (go_at_call 33; refine (HC.out _ (by exact ⟨rfl, rfl, rfl, Nat.le_refl _, fun _ _ _ => rfl⟩)).mono ?_; rintro e w3 ⟨rfl, hb3⟩; have HB3 := Lib.hid (HBW.out.drew.trans (hb3.mono hzr)); clear hb3)
           all_goals
             go_wp2
             go_roundg (L1 - (i + 1))
             case measure => omega
             case rel => exact ⟨i + 1, by omega, by go_num, HB3.out, HF.out⟩
       · have hf : r = true := by
           rw [← HS.out]
           exact sameF_done i (by rw [HL1.out]; omega) (by rw [HL2.out]; omega)
         subst hf
         clear ka kb
         go_wp2
         go_ret
         exact ⟨rfl, BE.out _ HBW.out⟩
   · have h1 : (((L1 : Nat) : Int) == ((L2 : Nat) : Int)) = false := by rw [beq_eq_false_iff_ne]; omega
     have h2 : (((L1 : Nat) : Int) != ((L2 : Nat) : Int)) = true := by rw [bne, h1]; rfl
     have hr : r = false := by rw [← HRES.out]; exact sameF_ne (by rw [HL1.out, HL2.out]; exact hl)
     subst hr
     go_wp2
     go_ret
     exact ⟨rfl, BE.out _ ⟨rfl, rfl, rfl, Nat.le_refl _, fun _ _ => rfl⟩⟩
  exact hmain _ rfl
end Tx
end Go.Proofs.Ytggoejghnlgigaa
