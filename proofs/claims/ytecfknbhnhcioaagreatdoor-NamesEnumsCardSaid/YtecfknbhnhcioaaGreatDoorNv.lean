/- Types that are told twice, and constructors: the program's loops. -/
import Derived.Test.YtecfknbhnhcioaaGreatDoorNu
namespace Go.Proofs.YtecfknbhnhcioaaGreatDoor
open Go.ChangeShapes Go.WideShapes Go.ChangeAt Go.RowKit Go.Maps
namespace Tx
set_option linter.unusedVariables false
set_option linter.unusedSimpArgs false
theorem SetAt.keep {S : Nat → Prop} {mb : Nat} {ns : List ByteArray} {w w' : World} (h : SetAt mb ns w) (hk : Keeps S w w') (hS : ¬ S mb) : SetAt mb ns w' := by
  obtain ⟨es, clock, h1, h2, h3, h4⟩ := h
  exact ⟨es, clock, (hk.block mb (Array.getElem?_eq_some_iff.1 h1).1 hS).trans h1, h2, h3, h4⟩
def Sets (tb cb k : Nat) : Prop := k = tb ∨ k = cb
/-- Where the sets of types and constructors lie, and what they hold; what else is untouched. -/
structure ChkAt (B : Nat → Prop) (W : World) (pb tb cb : Nat) (T C : List ByteArray) (w : World) : Prop where
  c0 : w.cell? ⟨pb, 0, none⟩ = some (.map (some tb))
  c1 : w.cell? ⟨pb, 1, none⟩ = some (.map (some cb))
  t : SetAt tb T w
  c : SetAt cb C w
  ne : tb ≠ cb
  pt : pb ≠ tb
  pc : pb ≠ cb
  bt : ¬ B tb
  bc : ¬ B cb
  keeps : Keeps (Sets tb cb) W w
theorem ChkAt.below {B : Nat → Prop} {W w w' : World} {pb tb cb : Nat} {T C : List ByteArray} (h : ChkAt B W pb tb cb T C w) (hb : Below w.heap.size w w') : ChkAt B W pb tb cb T C w' :=
  have k : Keeps (fun _ => False) w w' := Keeps.below hb
  ⟨k.cell h.c0 id, k.cell h.c1 id, h.t.keep k id, h.c.keep k id, h.ne, h.pt, h.pc, h.bt, h.bc, h.keeps.trans (k.mono fun _ _ e => e.elim)⟩
theorem ChkAt.addT {B : Nat → Prop} {W w w' : World} {pb tb cb : Nat} {T T' C : List ByteArray} (h : ChkAt B W pb tb cb T C w) (k : Keeps (fun k => k = tb) w w') (ht : SetAt tb T' w') : ChkAt B W pb tb cb T' C w' :=
  ⟨k.cell h.c0 h.pt, k.cell h.c1 h.pt, ht, h.c.keep k (fun e => h.ne e.symm), h.ne, h.pt, h.pc, h.bt, h.bc, h.keeps.trans (k.mono fun _ _ e => .inl e)⟩
theorem ChkAt.addC {B : Nat → Prop} {W w w' : World} {pb tb cb : Nat} {T C C' : List ByteArray} (h : ChkAt B W pb tb cb T C w) (k : Keeps (fun k => k = cb) w w') (hc : SetAt cb C' w') : ChkAt B W pb tb cb T C' w' :=
  ⟨k.cell h.c0 h.pc, k.cell h.c1 h.pc, h.t.keep k h.ne, hc, h.ne, h.pt, h.pc, h.bt, h.bc, h.keeps.trans (k.mono fun _ _ e => .inr e)⟩
theorem ChkAt.cell {B : Nat → Prop} {W w : World} {pb tb cb : Nat} {T C : List ByteArray} (h : ChkAt B W pb tb cb T C w) (b o : Nat) (v : Value) (hB : B b) (hc : W.cell? ⟨b, o, none⟩ = some v) : w.cell? ⟨b, o, none⟩ = some v :=
  h.keeps.cell hc (fun hs => by rcases hs with rfl | rfl; exact h.bt hB; exact h.bc hB)
theorem take_names {ts : List En} {i : Nat} {t : En} (h : ts[i]? = some t) : (ts.take (i + 1)).map En.nm = (ts.take i).map En.nm ++ [t.nm] ∧ (ts.take (i + 1)).flatMap En.cs = (ts.take i).flatMap En.cs ++ t.cs := by
  obtain ⟨hi, rfl⟩ := List.getElem?_eq_some_iff.1 h
  rw [List.take_succ_eq_append_getElem hi, List.map_append, List.flatMap_append]
  exact ⟨by simp, by simp⟩
theorem flat_le (ts : List En) (i : Nat) : ((ts.take i).flatMap En.cs).length ≤ (ts.flatMap En.cs).length := by
  conv => rhs; rw [← List.take_append_drop i ts]
  rw [List.flatMap_append, List.length_append]
  omega
theorem flat_le2 {ts : List En} {i : Nat} {t : En} (h : ts[i]? = some t) : ((ts.take i).flatMap En.cs).length + t.cs.length ≤ (ts.flatMap En.cs).length := by
  have h1 := flat_le ts (i + 1)
  rw [(take_names h).2, List.length_append] at h1
  exact h1
theorem alloc_at (W : World) (o : Obj) : (W.alloc o).heap[W.heap.size]? = some o := by
  have key : ∀ (a : Array Obj) (o : Obj), (a.push o)[a.size]? = some o := by intro a o; simp
  exact key _ _
theorem cells4 {w : World} {g : Nat} {v0 v1 v2 v3 : Value} {t : TypeId} (h : w.heap[g]? = some (.cells #[v0, v1, v2, v3] t (0, 0))) :
    w.cell? ⟨g, 0, none⟩ = some v0 ∧ w.cell? ⟨g, 1, none⟩ = some v1 ∧ w.cell? ⟨g, 2, none⟩ = some v2 ∧ w.cell? ⟨g, 3, none⟩ = some v3 := by
  refine ⟨?_, ?_, ?_, ?_⟩ <;> (rw [cell_of_row w g _ _ _ _ h]; rfl)
/-- What the loops leave. -/
def EnumsOut (W : World) (tb cb : Nat) (ts : List En) (e : Ending) (w' : World) : Prop :=
  ∃ v, e = .returned v ∧ FaultOut 4 ((firstBad ts [] []).map fun t => (t.line, t.col)) v w' ∧ Keeps (Sets tb cb) W w'
set_option maxRecDepth 100000 in
set_option maxHeartbeats 4000000 in
theorem enums_any (B : Nat → Prop) (W : World) (pb tb cb : Nat) (v : Value) (ts : List En) (hr : EnRow B W v ts) (hc : ChkAt B W pb tb cb [] [] W) (h1 : ts.length ≤ 1000) (h2 : (ts.flatMap En.cs).length ≤ 1000) :
    Calls Tryz.prog 22 #[.pointer (some ⟨pb, 0, none⟩), v] W (EnumsOut W tb cb ts) := by
  obtain ⟨ao, ac, rfl⟩ := hr.form
  have HR := Lib.hid hr
  have HC := Lib.hid hc
  obtain ⟨N, hN⟩ : ∃ N, ts.length = N := ⟨_, rfl⟩
  have HN := Lib.hid hN
  rw [hN] at h1 ⊢
  clear hr hc hN
  go_enter Tryz.func22, Tryz.ntmps22
  go_wp2
  go_loopg [11] N (fun g iv wr => ∃ i : Nat, i + g = N ∧ iv = .int .i64 i ∧ ChkAt B W pb tb cb ((ts.take i).map En.nm) ((ts.take i).flatMap En.cs) wr ∧ firstBad (ts.drop i) ((ts.take i).map En.nm) ((ts.take i).flatMap En.cs) = firstBad ts [] [])
  case atStart => exact ⟨0, by omega, rfl, HC.out, rfl⟩
  case round =>
    obtain ⟨i, hig, rfl, hch, hfb⟩ := hrel
    have HCH := Lib.hid hch
    have HFB := Lib.hid hfb
    clear hfb
    by_cases hi : i < N
    · obtain ⟨b, t, a1, c1, rfl, ht, hBb, y0, y1, y2, y3, hns⟩ := HR.out.at (i := i) (by have := HN.out; omega)
      have x0 := hch.cell _ _ _ hBb y0
      have x1 := hch.cell _ _ _ hBb y1
      have x2 := hch.cell _ _ _ hBb y2
      have x3 := hch.cell _ _ _ hBb y3
      have HT := Lib.hid ht
      have HNS := Lib.hid hns
      have HF2 := Lib.hid (firstBad_drop ht ((ts.take i).map En.nm) ((ts.take i).flatMap En.cs))
      have hfl := flat_le2 ht
      have htl : ((ts.take i).map En.nm).length ≤ 1000 := by rw [List.length_map, List.length_take]; omega
      have htn := take_names ht
      have htb : tb < wr.heap.size := World.ownsMap.lt hch.t
      have hcb : cb < wr.heap.size := World.ownsMap.lt hch.c
      generalize ((ts.take i).map En.nm) = T at HCH HF2 HFB htl hch htn ⊢
      generalize ((ts.take i).flatMap En.cs) = C at HCH HF2 HFB hfl hch htn ⊢
      have HTN := Lib.hid htn
      obtain ⟨M, hM⟩ : ∃ M, t.cs.length = M := ⟨_, rfl⟩
      have HM := Lib.hid hM
      rw [hM] at x1 hfl
      clear ht hns htn y0 y1 y2 y3 hM
      go_wp2_with fail
      generalize hW2 : wr.alloc (.cells #[.string t.nm, .slice a1 M c1, .int .i64 t.line, .int .i64 t.col] 32) = W2
      have hb2 : Below wr.heap.size wr W2 := by rw [← hW2]; exact (Below.refl _ _).alloc (Nat.le_refl _) _
      have g2 : W2.heap[wr.heap.size]? = some (.cells #[.string t.nm, .slice a1 M c1, .int .i64 t.line, .int .i64 t.col] 32 (0, 0)) := by rw [← hW2]; exact alloc_at wr _
      have hch2 := hch.below hb2
      have HC2 := Lib.hid hch2
      obtain ⟨y0, y1, y2, y3⟩ := cells4 g2
      generalize wr.heap.size = eb at g2 y0 y1 y2 y3 htb hcb ⊢
      have d0 := hch2.c0
      clear hW2 x0 x1 x2 x3 hch hch2 HCH hb2 g2
      cases hT : hasN T t.nm
      · have hadd := Lib.hid (show ∀ w', Below W2.heap.size W2 w' → Calls Tryz.prog 23 #[.map (some tb), .string t.nm] w' (fun e w'' => e = .returned (.bool true) ∧ SetAt tb (T ++ [t.nm]) w'' ∧ Keeps (fun k => k = tb) W2 w'') from fun w' hb => by
          have h := HC2.out.below hb
          refine (setAdd_new tb T t.nm t.hnm (by omega) w' h.t (by rw [has_sd]; exact hT)).mono fun e w'' ⟨q1, q2, q3⟩ => ⟨q1, q2, (Keeps.below hb).trans q3⟩)
        go_region_with (refine (hadd.out _ (by exact (Below.refl _ _).drew)).mono ?_; rintro e w3 ⟨rfl, hs3, hk3⟩; have hc3 := Lib.hid (HC2.out.addT hk3 hs3); have z1 := hk3.cell y1 (by omega); have z2 := hk3.cell y2 (by omega); have z3 := hk3.cell y3 (by omega); clear hs3 hk3)
        all_goals
          clear hadd y0 y1 y2 y3 d0
          go_wp2_with fail
          clear z1
          go_loopg [29] M (fun g jv wq => ∃ j : Nat, j + g = M ∧ jv = .int .i64 j ∧ ChkAt B W pb tb cb (T ++ [t.nm]) (C ++ t.cs.take j) wq ∧ dupC (C ++ t.cs.take j) (t.cs.drop j) = dupC C t.cs ∧ wq.cell? ⟨eb, 2, none⟩ = some (.int .i64 t.line) ∧ wq.cell? ⟨eb, 3, none⟩ = some (.int .i64 t.col))
          case atStart => exact ⟨0, by omega, rfl, by simpa using hc3.out, by simp, z2, z3⟩
          case round =>
            clear z2 z3 hc3
            obtain ⟨j, hjg, rfl, hq, hdu, q2, q3⟩ := hrel
            have HQ := Lib.hid hq
            have HDU := Lib.hid hdu
            have d1 := hq.c1
            clear hdu
            by_cases hj : j < M
            · obtain ⟨b2, o2, sj, rfl, hsj, hsz, hB2, hcs⟩ := HNS.out.one (i := j) (by have := HM.out; omega)
              have x5 := hq.cell _ _ _ hB2 hcs
              have HSJ := Lib.hid hsj
              have HDD := Lib.hid (dupC_drop hsj (C ++ t.cs.take j))
              have htk : C ++ t.cs.take (j + 1) = (C ++ t.cs.take j) ++ [sj] := by
                obtain ⟨hjl, hje⟩ := List.getElem?_eq_some_iff.1 hsj
                rw [List.take_succ_eq_append_getElem hjl, hje, List.append_assoc]
              have HTK := Lib.hid htk
              have hcl : (C ++ t.cs.take j).length ≤ 1000 := by rw [List.length_append, List.length_take]; omega
              have hcb2 : cb < eb := hcb
              clear hsj hcs htk hq
              generalize (C ++ t.cs.take j) = Cj at HQ HDU HDD HTK hcl
              cases hC : hasN Cj sj
              · have hadd := Lib.hid (show ∀ w', Below wr.heap.size wr w' → Calls Tryz.prog 23 #[.map (some cb), .string sj] w' (fun e w'' => e = .returned (.bool true) ∧ SetAt cb (Cj ++ [sj]) w'' ∧ Keeps (fun k => k = cb) wr w'') from fun w' hb => by
                  have h := HQ.out.below hb
                  refine (setAdd_new cb Cj sj hsz (by omega) w' h.c (by rw [has_sd]; exact hC)).mono fun e w'' ⟨q1, q2, q3⟩ => ⟨q1, q2, (Keeps.below hb).trans q3⟩)
                go_wp2_with fail
                refine (hadd.out _ (Below.refl _ _)).mono ?_
                rintro e w5 ⟨rfl, hs5, hk5⟩
                have hc5 := Lib.hid (HQ.out.addC hk5 hs5)
                have p2 := hk5.cell q2 (by omega)
                have p3 := hk5.cell q3 (by omega)
                clear hs5 hk5
                all_goals
                  clear hadd x5 d1 q2 q3
                  go_wp2
                  go_roundg (M - (j + 1))
                  case measure => omega
                  case rel => exact ⟨j + 1, by omega, by go_num, by rw [HTK.out]; exact hc5.out, by have h := HDD.out; rw [HDU.out, hC, Bool.false_or] at h; rw [HTK.out]; exact h.symm, p2, p3⟩
              · have hadd := Lib.hid (show ∀ w', Below wr.heap.size wr w' → Calls Tryz.prog 23 #[.map (some cb), .string sj] w' (fun e w'' => e = .returned (.bool false) ∧ Below wr.heap.size wr w'') from fun w' hb => by
                  have h := HQ.out.below hb
                  refine (setAdd_has cb Cj sj hsz w' h.c (by rw [has_sd]; exact hC)).mono fun e w'' ⟨q1, q2⟩ => ⟨q1, hb.trans (q2.mono hb.size)⟩)
                have hlt := World.block_lt_of_cell? wr _ q2
                go_wp2_with fail
                refine (hadd.out _ (Below.refl _ _)).mono ?_
                rintro e w5 ⟨rfl, hb5⟩
                have hc5 := Lib.hid (HQ.out.below hb5)
                have p2 := (hb5.cell (p := ⟨eb, 2, none⟩) hlt).trans q2
                have p3 := (hb5.cell (p := ⟨eb, 3, none⟩) hlt).trans q3
                clear hb5
                all_goals
                  clear hadd x5 d1 q2 q3
                  go_wp2_with fail
                  refine (new_any 4 t.line t.col (by decide) w5).mono ?_
                  rintro e w4 ⟨eb4, rfl, her, _, hb4⟩
                  have HE := Lib.hid her
                  have HK := Lib.hid ((hc5.out.keeps).trans (Keeps.below hb4) : Keeps (Sets tb cb) W w4)
                  clear her hb4 p2 p3
                  go_wp2
                  go_ret
                  refine ⟨_, rfl, ?_, HK.out⟩
                  have h := HF2.out
                  have hd := HDD.out
                  rw [hC, Bool.true_or, HDU.out] at hd
                  rw [HFB.out, if_pos (by unfold badE; rw [hd, Bool.or_true])] at h
                  rw [h]
                  exact ⟨eb4, rfl, HE.out⟩
            · have hd : dupC C t.cs = false := by rw [← HDU.out, dupC_end (by have := HM.out; omega)]
              have hfull : t.cs.take j = t.cs := List.take_of_length_le (by have := HM.out; omega)
              rw [hfull] at HQ
              have HD := Lib.hid hd
              clear hd hfull hq d1 q2 q3
              go_wp2
              go_roundg (N - (i + 1))
              case measure => omega
              case rel => exact ⟨i + 1, by omega, by go_num, by rw [HTN.out.1, HTN.out.2]; exact HQ.out, by
                have h := HF2.out
                rw [HFB.out, if_neg (by unfold badE; rw [hT, HD.out]; decide)] at h
                rw [HTN.out.1, HTN.out.2]; exact h.symm⟩
      · have hadd := Lib.hid (show ∀ w', Below W2.heap.size W2 w' → Calls Tryz.prog 23 #[.map (some tb), .string t.nm] w' (fun e w'' => e = .returned (.bool false) ∧ Below W2.heap.size W2 w'') from fun w' hb => by
          have h := HC2.out.below hb
          refine (setAdd_has tb T t.nm t.hnm w' h.t (by rw [has_sd]; exact hT)).mono fun e w'' ⟨q1, q2⟩ => ⟨q1, hb.trans (q2.mono hb.size)⟩)
        have hlt := World.block_lt_of_cell? W2 _ y2
        go_region_with (refine (hadd.out _ (by exact (Below.refl _ _).drew)).mono ?_; rintro e w3 ⟨rfl, hb3⟩; have hc3 := Lib.hid (HC2.out.below hb3); have z2 := (hb3.cell (p := ⟨eb, 2, none⟩) hlt).trans y2; have z3 := (hb3.cell (p := ⟨eb, 3, none⟩) hlt).trans y3; clear hb3)
        all_goals
          clear hadd y0 y1 y2 y3 d0
          go_wp2_with fail
          refine (new_any 4 t.line t.col (by decide) w3).mono ?_
          rintro e w4 ⟨eb4, rfl, her, _, hb4⟩
          have HE := Lib.hid her
          have HK := Lib.hid ((hc3.out.keeps).trans (Keeps.below hb4) : Keeps (Sets tb cb) W w4)
          clear her hb4 z2 z3
          go_wp2
          go_ret
          refine ⟨_, rfl, ?_, HK.out⟩
          have h := HF2.out
          rw [HFB.out, if_pos (by unfold badE; rw [hT]; rfl)] at h
          rw [h]
          exact ⟨eb4, rfl, HE.out⟩
    · have hfin : firstBad ts [] [] = none := by rw [← HFB.out, firstBad_end (by have := HN.out; omega)]
      have HFIN := Lib.hid hfin
      have HK := Lib.hid hch.keeps
      clear hfin hch
      go_wp2
      go_ret
      refine ⟨_, rfl, ?_, HK.out⟩
      rw [HFIN.out]
      rfl
end Tx
end Go.Proofs.YtecfknbhnhcioaaGreatDoor
