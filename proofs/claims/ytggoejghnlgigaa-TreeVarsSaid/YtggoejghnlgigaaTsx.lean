/- The program's comparison of two lists of expressions. -/
import Derived.Test.YtggoejghnlgigaaTse
import Derived.Deep.AppendLies
import Derived.Deep.RegionLaw
import Derived.Deep.RegionHeld3
namespace Go.Proofs.Ytggoejghnlgigaa
open Go.ChangeShapes Go.WideShapes Go.ChangeAt Go.RowKit Go.Maps
namespace Tx
set_option linter.unusedVariables false
set_option linter.unusedSimpArgs false
theorem infoPr : (Try.prog.info? 97).map (fun i => (i.zero, i.size, i.bytes)) = some (some (Value.agg #[.slice none 0 0, .slice none 0 0]), 2, 48) := by kernel_rfl
theorem blk_cells2 {w : World} {b : Nat} {u v : Value} {t : TypeId} {fr : Nat × Nat} (h : w.heap[b]? = some (.cells #[u, v] t fr)) : w.cell? ⟨b, 0, none⟩ = some u ∧ w.cell? ⟨b, 1, none⟩ = some v :=
  ⟨by rw [cell_of_row w b 0 _ _ _ h]; rfl, by rw [cell_of_row w b 1 _ _ _ h]; rfl⟩
theorem own_law {base : Nat} {e : TypeId} {w : World} {n k : Nat} {tb : Option Addr} {tc : Nat} {xs : List Value} (hk : n = k) (h : w.ownsRow base e 2 (.slice tb n tc) n xs) (o : Obj) : (w.alloc o).drew.ownsRow base e 2 (.slice tb k tc) k xs := by
  subst hk
  exact (show (w.alloc o).ownsRow base e 2 (.slice tb n tc) n xs from h.alloc o)
theorem alloc_law (w : World) (o : Obj) : (w.alloc o).drew.heap[w.heap.size]? = some o := by
  have key : ∀ (a : Array Obj) (o : Obj), (a.push o)[a.size]? = some o := by intro a o; simp
  exact key _ _
def Ans (W : World) (r : Bool) (e : Ending) (w' : World) : Prop := e = .returned (.bool r) ∧ Below W.heap.size W w'
set_option maxRecDepth 100000 in
set_option maxHeartbeats 8000000 in
theorem sameExprs_any (B : Nat → Prop) (W : World) (hB : ∀ k, B k → k < W.heap.size) (va vb : Value) (a b : Fo) (ha : KidsIn B W va a) (hb : KidsIn B W vb b) (hsz : a.size ≤ 1000000) :
    Calls Try.prog 52 #[va, vb] W (Ans W (sameF a b)) := by
  obtain ⟨va1, ca1, rfl⟩ := ha.shape
  obtain ⟨vb1, cb1, rfl⟩ := hb.shape
  have hst := SeAt.start hB ha hb hsz
  generalize sameF a b = res at hst ⊢
  have HB := Lib.hid hB
  have HST := Lib.hid hst
  clear ha hb hB hst
  generalize hM : a.size + 1 = M at HST
  clear hM hsz
  go_enter Try.func52, Try.ntmps52
  go_wp2
  go_loopg [5] M (fun k v wr => ∃ st, SeAt B W res k v wr st)
  case atStart => exact ⟨_, HST.out⟩
  case round =>
    clear HST
    obtain ⟨st, hw⟩ := hrel
    cases st with
    | nil =>
      obtain ⟨ao, c, rfl⟩ := own_form hw.own
      have hr : res = true := hw.fin.symm
      subst hr
      have HW := Lib.hid hw
      clear hw
      go_wp2
      go_ret
      exact ⟨rfl, HW.out.below⟩
    | cons p st =>
      obtain ⟨g, cap, rfl, hcap, hmax, hgb, hgl, c0, c1⟩ := hw.top
      obtain ⟨N, hN⟩ : ∃ N, st.length = N := ⟨_, rfl⟩
      have hNb : N ≤ 1000001 := by
        have h1 := left_len (p :: st)
        have h2 := hw.bd
        simp only [List.length_cons] at h1
        omega
      obtain ⟨ao, ac, hva⟩ := (hw.each p (by simp)).a.shape
      obtain ⟨bo, bc, hvb⟩ := (hw.each p (by simp)).b.shape
      have hla := (hw.each p (by simp)).a.le
      unfold maxLen at hmax hla
      have HW := Lib.hid hw
      have HNN := Lib.hid hN
      have HVA := Lib.hid hva
      have HVB := Lib.hid hvb
      rw [hN, hva] at c0
      rw [hN, hvb] at c1
      rw [hN] at hcap
      rw [hN]
      clear hw hva hvb
      obtain ⟨La, hLa⟩ : ∃ L, p.a.len = L := ⟨_, rfl⟩
      obtain ⟨Lb, hLb⟩ : ∃ L, p.b.len = L := ⟨_, rfl⟩
      have HLA := Lib.hid hLa
      have HLB := Lib.hid hLb
      rw [hLa] at c0 hla
      rw [hLb] at c1
      clear hN hLa hLb
      by_cases hl : La = Lb
      · subst hl
        have hin := HW.out.pop HB.out (by rw [HLA.out, HLB.out]) _ rfl
        rw [HVA.out, HVB.out, HLA.out, HLB.out, HNN.out] at hin
        have HIN := Lib.hid hin
        clear hin
        go_wp2
        go_loopg [5, 38] La (fun g2 v iv wi => ∃ (i : Nat) (s2 : List Pr), i + g2 = La ∧ iv = .int .i64 i ∧ SeIn B W res (Tx.left (p :: st) - 1) wr.heap.size p i v wi s2)
        case atStart => exact ⟨0, st, by omega, rfl, HIN.out⟩
        case round =>
          clear HIN c0 c1
          obtain ⟨i, s2, hig, rfl, hi⟩ := hrel
          obtain ⟨tb, tc, rfl⟩ := own_form hi.own
          obtain ⟨N2, hN2⟩ : ∃ N, s2.length = N := ⟨_, rfl⟩
          have hN2b : N2 ≤ 1000000 := by have h1 := left_len s2; have h2 := hi.bd; omega
          have HN2 := Lib.hid hN2
          obtain ⟨c0, c1⟩ := blk_cells2 hi.blk
          rw [HVA.out, HLA.out] at c0
          rw [HVB.out, HLB.out] at c1
          have ka := hi.pr.a
          have kb := hi.pr.b
          rw [HVA.out, HLA.out] at ka
          rw [HVB.out, HLB.out] at kb
          have HI := Lib.hid hi
          rw [hN2]
          clear hi hN2
          by_cases hlt : i < La
          · obtain ⟨b1, o1, d1, k1, nv1, kv1, rfl, g1, x1⟩ := ka.one (i := i) (by rw [HLA.out]; exact hlt)
            obtain ⟨b2, o2, d2, k2, nv2, kv2, rfl, g2, x2⟩ := kb.one (i := i) (by rw [HLB.out]; exact hlt)
            have HG1 := Lib.hid g1
            have HG2 := Lib.hid g2
            have HX1 := Lib.hid x1
            have HX2 := Lib.hid x2
            clear ka kb g1 g2 x1 x2
            go_wp2
            go_quiet (fail)
            go_wp2_with fail
            have k1' : Keeps (fun _ => False) wr (wr.drewN nq) := (Keeps.refl _ wr).drewN nq
            refine (butKids_any B _ b1 (o1 + i * 8) b2 (o2 + i * 8) d1 d2 k1 k2 nv1 kv1 nv2 kv2 (HX1.out.keep k1' (fun _ _ h => h)) (HX2.out.keep k1' (fun _ _ h => h))).mono ?_
            rintro e w' ⟨rfl, m, rfl⟩
            clear k1'
            cases hq : sameD d1 d2
            · have hr := HI.out.differ HG1.out HG2.out hq
              subst hr
              go_wp2
              go_ret
              exact ⟨rfl, (HI.out.drew (nq + m)).below⟩
            · obtain ⟨a1, c3, rfl⟩ := HX1.out.kids.shape
              obtain ⟨a2, c4, rfl⟩ := HX2.out.kids.shape
              have x5 := HX1.out.e 5 (v := .slice a1 k1.len c3) rfl
              have y5 := HX2.out.e 5 (v := .slice a2 k2.len c4) rfl
              obtain ⟨m1, hm1⟩ : ∃ m, k1.len = m := ⟨_, rfl⟩
              obtain ⟨m2, hm2⟩ : ∃ m, k2.len = m := ⟨_, rfl⟩
              have HM1 := Lib.hid hm1
              have HM2 := Lib.hid hm2
              rw [hm1] at x5
              rw [hm2] at y5
              have HQ := Lib.hid hq
              clear hm1 hm2 hq
              by_cases hz : m1 = 0 ∧ m2 = 0
              · obtain ⟨rfl, rfl⟩ := hz
                have hn := (HI.out.next HG1.out HG2.out HQ.out HM1.out HM2.out).drew (nq + m)
                rw [HN2.out] at hn
                have HNX := Lib.hid hn
                clear hn
                go_wp2
                go_roundg (La - (i + 1))
                case measure => omega
                case rel => exact ⟨i + 1, s2, by omega, by go_num, HNX.out⟩
              · have ht : 0 < m1 ∨ ((0 < m1) = False ∧ 0 < m2) := by
                  by_cases h1 : 0 < m1
                  · exact .inl h1
                  · exact .inr ⟨eq_false h1, by omega⟩
                clear hz
                obtain ⟨i0, hi0, hz0', hz1', hz2'⟩ := info_parts infoPr
                rcases ht with t1 | ⟨t1, t2⟩
                all_goals
                  go_wp2
                  have x5' : (wr.drewN (nq + m)).cell? ⟨b1, o1 + i * 8 + 5, none⟩ = some (.slice a1 m1 c3) := x5
                  have y5' : (wr.drewN (nq + m)).cell? ⟨b2, o2 + i * 8 + 5, none⟩ = some (.slice a2 m2 c4) := y5
                  have HI2 := Lib.hid (HI.out.drew (nq + m))
                  have HK1 := Lib.hid (HX1.out.keep ((Keeps.refl (fun _ => False) wr).drewN (nq + m)) (fun _ _ h => h)).kids
                  have HK2 := Lib.hid (HX2.out.keep ((Keeps.refl (fun _ => False) wr).drewN (nq + m)) (fun _ _ h => h)).kids
                  generalize wr.drewN (nq + m) = w2 at x5' y5' HI2 HK1 HK2 ⊢
                  clear x5 y5 c0 c1
                  have hbz := HI2.out.below.size
                  have HBZ := Lib.hid hbz
                  clear hbz
                  have B1 : b1 < w2.heap.size := World.block_lt_of_cell? w2 _ x5'
                  have B2 : b2 < w2.heap.size := World.block_lt_of_cell? w2 _ y5'
                  have hf1 : some b1 ≠ (Value.slice tb N2 tc).ownBlock := fun e => by
                    have h1 := HI2.out.own.lt b1 (by rw [HN2.out]; exact e.symm)
                    have h2 := HB.out b1 HX1.out.blk
                    omega
                  have hf2 : some b2 ≠ (Value.slice tb N2 tc).ownBlock := fun e => by
                    have h1 := HI2.out.own.lt b2 (by rw [HN2.out]; exact e.symm)
                    have h2 := HB.out b2 HX2.out.blk
                    omega
                  go_region_held3 (fun w' => w'.cell? ⟨b1, o1 + i * 8 + 5, none⟩ = some (.slice a1 m1 c3) ∧ w'.cell? ⟨b2, o2 + i * 8 + 5, none⟩ = some (.slice a2 m2 c4))
                    (first
                      | go_keep
                      | (go_split_ands; refine ⟨?_, ?_⟩; (rw [hgrow.cell_far _ (by simp; omega) hf1]; assumption); (rw [hgrow.cell_far _ (by simp; omega) hf2]; assumption)))
                    ((first
                      | (refine step_append_lies _ (by rfl) _ _ _ (by rfl) W.heap.size 97 i0 _ 2 48 Try.underlying98 hi0 hz0' hz1' hz2' rfl (by decide) (.slice tb N2 tc) N2 (s2.reverse.flatMap pc) (by rfl) (by exact own_law HN2.out HI2.out.own _) ⟨w2.heap.size, 0, none⟩ 1 1 [.slice a1 m1 c3, .slice a2 m2 c4] (by rfl) (by rfl) (World.news_of_block (cs := #[.slice a1 m1 c3, .slice a2 m2 c4]) (t := 97) (fr := (0, 0)) (by exact alloc_law w2 _)) (by simp [Value.oneCell']) (by omega) (by unfold maxLen; omega) (by omega) (by have := HBZ.out; simp; omega) (w2.heap.size + 1) (by simp) ?_; intro g5 cap5 w5 hown hgrow hat hlt2)))
                  have hgrow' : (w2.alloc (.cells #[.slice a1 m1 c3, .slice a2 m2 c4] 97)).grownBy w5 (Value.slice tb s2.length tc).ownBlock := by
                    have e : (Value.slice tb s2.length tc).ownBlock = (Value.slice tb N2 tc).ownBlock := by cases tb <;> rfl
                    rw [e]
                    exact ⟨hgrow.os, hgrow.tape, hgrow.output, hgrow.size, hgrow.block⟩
                  have hp := HI2.out.push HB.out HG1.out HG2.out HQ.out HK1.out HK2.out (w5 := w5) (g := g5) (cap := cap5) (by rw [HN2.out, HM1.out, HM2.out]; exact hown) hgrow' (by
                    have e : (Value.slice tb s2.length tc).ownBlock = (Value.slice tb N2 tc).ownBlock := by cases tb <;> rfl
                    rw [e]
                    exact hat)
                  have HP := Lib.hid hp
                  clear hp hown hgrow hgrow' hat
                  go_wp2
                  go_roundg (La - (i + 1))
                  case measure => omega
                  case rel => exact ⟨i + 1, _, by omega, by go_num, by rw [HN2.out] at HP; exact HP.out⟩
          · have hdone := HI.out.done (by rw [HLA.out]; omega)
            have HD := Lib.hid hdone
            clear hdone ka kb
            go_wp2
            go_roundg (Tx.left s2)
            case measure =>
              have h1 := HW.out.lf
              have h2 := HI.out.lf
              simp only [Tx.left] at h1 h2
              omega
            case rel => exact ⟨s2, by rw [HN2.out] at HD; exact HD.out⟩
      · have h1 : (((La : Nat) : Int) == ((Lb : Nat) : Int)) = false := by rw [beq_eq_false_iff_ne]; omega
        have h2 : (((La : Nat) : Int) != ((Lb : Nat) : Int)) = true := by rw [bne, h1]; rfl
        have hr : res = false := by
          have := HW.out.fin
          simp only [allSame] at this
          rw [← this, sameF_ne (by rw [HLA.out, HLB.out]; exact hl), Bool.false_and]
        subst hr
        go_wp2
        go_ret
        exact ⟨rfl, HW.out.below.alloc HW.out.below.size _⟩
end Tx
end Go.Proofs.Ytggoejghnlgigaa
