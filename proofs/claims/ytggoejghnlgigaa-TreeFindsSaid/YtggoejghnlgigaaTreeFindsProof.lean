/-
  TreeFinds returns true. No condition.
-/
import Derived.Test.YtggoejghnlgigaaTl
import Derived.WalkKit
import Derived.ProofKit
import Derived.OpenShut
import Derived.ShutString
import Derived.ChangeOld
import Derived.Below
import Derived.SliceStrings
import Derived.Lib.SmallJoins
import Derived.Lib.Hide
namespace Go.Proofs.Ytggoejghnlgigaa.treeFinds
open Go.ChangeShapes Go.WideShapes Go.ChangeAt Go.RowKit
open Go.ChangeMaps (open_string shut_string)
open Go.Joins
set_option linter.unusedVariables false

theorem own : ownKnob Try.prog.godebug = none := by kernel_rfl
theorem laidOut : laidOutB Try.prog = true := by kernel_rfl

/-- What is known of a slice of strings that came in. -/
def IsStrs (w : World) (a : Option Addr) (len cap : Nat) (zs : List ByteArray) : Prop :=
  (a = none ∧ len = 0 ∧ cap = 0 ∧ zs = []) ∨
  ∃ x, a = some x ∧ len ≤ cap ∧ cap ≤ maxLen ∧ zs.length = cap ∧ (∀ i, i < zs.length → w.cell? (x.add i) = some (.string (zs.getD i ByteArray.empty))) ∧ ∀ s ∈ zs, s.size ≤ maxLen

open Tx
theorem bt {n : Nat} {w W1 w2 : World} (hn : n = w.heap.size) (a : Below n w W1) (b : Below W1.heap.size W1 w2) : Below n w w2 := a.trans (b.mono (by subst hn; exact a.size))

set_option maxHeartbeats 8000000 in
set_option maxRecDepth 100000 in
theorem walk (nv0 : Value) (ns0 : List ByteArray) (lv1 : Value) (ls1 : List (Value × List ByteArray)) (a2 : ByteArray) (a3 : Int) (w : World) (hn0 : Tx.NamesIn (fun k => k < w.heap.size) w nv0 ns0) (hl1 : Tx.ListsIn (fun k => k < w.heap.size) w lv1 ls1) (w2 : a2.size ≤ maxLen) (w3 : (Lit.int .u8 a3).wf = true) :
    Calls Try.prog 4 #[nv0, lv1, .string a2, .int .u8 a3] w fun e w' => e = .returned (.bool true) ∧ Below w.heap.size w w' := by
  have HNS := Lib.hid hn0
  have HLS := Lib.hid hl1
  obtain ⟨ao, ac, rfl⟩ := hn0.form
  obtain ⟨bo, bc, rfl⟩ := hl1.form
  clear hn0 hl1
  obtain ⟨N, hN⟩ : ∃ N, ns0.length = N := ⟨_, rfl⟩
  obtain ⟨M, hM⟩ : ∃ M, ls1.length = M := ⟨_, rfl⟩
  have HN := Lib.hid hN
  have HM := Lib.hid hM
  rw [hN, hM]
  clear hN hM
  go_enter Try.func4, Try.ntmps4
  go_wp2_with fail
  refine (awake_any w).mono ?_
  rintro e w1 ⟨rfl, hb1⟩
  have HB1 := Lib.hid hb1
  clear hb1
  by_cases hN40 : 40 < N
  · go_wp2_with fail
    refine (awake_any w1).mono ?_
    rintro e w2 ⟨rfl, hb2⟩
    have HB2 := Lib.hid (bt rfl HB1.out hb2)
    clear hb2
    go_wp2
    go_ret
    exact ⟨rfl, HB2.out⟩
  · by_cases hM20 : 20 < M
    · go_wp2_with fail
      refine (awake_any w1).mono ?_
      rintro e w2 ⟨rfl, hb2⟩
      have HB2 := Lib.hid (bt rfl HB1.out hb2)
      clear hb2
      go_wp2
      go_ret
      exact ⟨rfl, HB2.out⟩
    · go_wp2_with fail
      have hl10 : L1 w1 ns0 0 0 (.slice none 0 0) (.slice none 0 0) (w1.alloc (.cells #[.slice none 0 0, .slice none 0 0] 42)) :=
        ⟨(Below.refl _ _).alloc (Nat.le_refl _) _, by simp, by simp [go_sem], by simp [go_sem], by simp [go_sem], by simp [go_sem], ⟨rfl, .inl ⟨rfl, rfl⟩⟩, ⟨rfl, .inl ⟨rfl, rfl⟩⟩, fun g hg => by cases hg⟩
      generalize w1.alloc (.cells #[.slice none 0 0, .slice none 0 0] 42) = wp at hl10 ⊢
      have HL10 := Lib.hid hl10
      clear hl10
      go_loopg [9, 11, 12] N (fun g v9 v11 v12 wr => ∃ (i : Nat) (z : Int) (nv : Value), i + g = N ∧ v12 = .int .i64 i ∧ v11 = .int .i64 z ∧ Want a2 ns0 i z ∧ L1 w1 ns0 i i v9 nv wr)
      case atStart => exact ⟨0, -1, _, by omega, rfl, rfl, .inl ⟨rfl, rfl⟩, HL10.out⟩
      case round =>
        clear HL10
        obtain ⟨i, z, nv, hig, rfl, rfl, hwant, hl⟩ := hrel
        have HW := Lib.hid hwant
        clear hwant
        by_cases hlt : i < N
        · have hns := HNS.out.keep (w' := wr) (fun b o v hb hc => by
            have h1 := (HB1.out.cell (p := ⟨b, o, none⟩) hb).trans hc
            exact (hl.below.cell (p := ⟨b, o, none⟩) (by have := HB1.out.size; show b < w1.heap.size; omega)).trans h1)
          obtain ⟨b, o, x, rfl, hx, hcx⟩ := hns.cellAt (i := i) (by have := HN.out; omega)
          have HX := Lib.hid hx
          have HL := Lib.hid hl
          obtain ⟨i0, hi0, hz0', hz1', hz2'⟩ := info_parts infoVar
          have hbx : b < w1.heap.size := by
            have h1 := World.block_lt_of_cell? wr _ hcx
            rcases HNS.out with ⟨⟨_, _, e⟩, h0⟩ | ⟨b', o', cap', e, _, _, hb', _⟩
            · rw [h0] at hx; simp at hx
            · cases e; have := HB1.out.size; omega
          have hzr := hl.z
          clear hl hns hx
          go_wp2_with (at_builtin; refine wpList_append_lies _ rfl (.tmp 39) (.tmp 45) 37 rfl (w1.heap.size + 1) 32 i0 _ 15 176 Try.underlying37 hi0 hz0' hz1' hz2' rfl (by decide) u9 _ _ rfl (HL.out.vars.alloc _) ⟨wr.heap.size, 0, none⟩ 1 1 (varV x) rfl rfl ?_ ?_ (by omega) ?_ ?_ ?_ _ rfl ?_; rotate_left 5; intro g2 cap2 w3 hown hgrow hat hlt2; have HP := Lib.hid (HL.out.pushVar HX.out hown hgrow (by simpa using hat)); clear hown hgrow hat)
          · have c3 : w3.cell? ⟨b, o + i, none⟩ = some (.string x) := by
              rw [HP.out.below.cell (p := ⟨b, o + i, none⟩) hbx, ← HL.out.below.cell (p := ⟨b, o + i, none⟩) hbx]
              exact hcx
            have d1 := HP.out.c1
            have f1 := HP.out.f1
            have hz3 := HP.out.z
            obtain ⟨j0, hj0, hjz, hjs, hjb⟩ := info_parts infoNode
            clear hi0 hz0' hz1' hz2' i0 hcx
            go_region_law ((refine step_append_lies _ (by rfl) _ _ _ (by rfl) (w1.heap.size + 1) 47 j0 _ 7 128 Try.underlying40 hj0 hjz hjs hjb rfl (by decide) nv i _ (by rfl) (by exact own_drew (HP.out.nodes.alloc _)) ⟨w3.heap.size, 0, none⟩ 1 1 (nodeV x) (by rfl) (by rfl) (World.news_of_block (cs := (nodeV x).toArray) (t := 47) (fr := (0, 0)) (by exact alloc_law w3 _)) (by simp [Value.oneCell', nodeV]) (by omega) (by unfold maxLen; omega) (by omega) (by simp; omega) (w3.heap.size + 1) (by simp) ?_; intro g4 cap4 w4 hown hgrow0 hat hlt4; have hgrow := grow_drew hgrow0; have hgc := HP.out.grown hgrow; have e1 := hgc.1; have e2 := hgc.2; have HG := Lib.hid (And.intro hown (And.intro hgrow hat)); clear hown hgrow hgrow0 hat hgc))
            all_goals
              have hq : L1 w1 ns0 (i + 1) (i + 1) (.slice (some ⟨g2, 0, none⟩) (i + 1) cap2) (.slice (some ⟨g4, 0, none⟩) (i + 1) cap4) (w4.setCell ⟨w1.heap.size, 1, none⟩ (.slice (some ⟨g4, 0, none⟩) (i + 1) cap4)) := HP.out.pushNode HX.out HG.out.1 HG.out.2.1 HG.out.2.2 0
              generalize w4.setCell ⟨w1.heap.size, 1, none⟩ (.slice (some ⟨g4, 0, none⟩) (i + 1) cap4) = w5 at hq ⊢
              have HQ := Lib.hid hq
              have c5 : w5.cell? ⟨b, o + i, none⟩ = some (.string x) := by
                rw [HQ.out.below.cell (p := ⟨b, o + i, none⟩) hbx, ← HP.out.below.cell (p := ⟨b, o + i, none⟩) hbx]
                exact c3
              have hW := HW.out.next HX.out
              clear hq e1 e2 HG hj0 hjz hjs hjb c3 d1 f1 hz3 hlt2 hlt4
              cases hp : isS a2 x
              · have ht2 : (x.toList == a2.toList) = false := hp
                rw [hp, if_neg (by simp)] at hW
                have HW2 := Lib.hid hW
                clear hW hp
                go_wp2
                go_roundg (N - (i + 1))
                case measure => omega
                case rel => exact ⟨i + 1, z, _, by omega, by go_num, rfl, HW2.out, HQ.out⟩
              · have ht2 : (x.toList == a2.toList) = true := hp
                by_cases hz0 : z < 0
                · rw [hp, if_pos ⟨rfl, hz0⟩] at hW
                  have HW2 := Lib.hid hW
                  clear hW hp
                  go_wp2
                  go_roundg (N - (i + 1))
                  case measure => omega
                  case rel => exact ⟨i + 1, _, _, by omega, by go_num, rfl, HW2.out, HQ.out⟩
                · rw [hp, if_neg (fun e => hz0 e.2)] at hW
                  have HW2 := Lib.hid hW
                  clear hW hp
                  go_wp2
                  go_roundg (N - (i + 1))
                  case measure => omega
                  case rel => exact ⟨i + 1, z, _, by omega, by go_num, rfl, HW2.out, HQ.out⟩
          · intro jj u hj
            rcases jj with _ | _ | _ | _ | _ | _ | _ | _ | _ | _ | _ | _ | _ | _ | _ | jj <;> simp [varV] at hj <;> subst hj <;> simp [Addr.add, go_sem, eb]
          · intro u hu
            simp [varV] at hu
            rcases hu with rfl | rfl | rfl | rfl | rfl | rfl | rfl | rfl | rfl | rfl | rfl | rfl | rfl | rfl | rfl <;> rfl
          · unfold maxLen; omega
          · omega
          · simp; omega
        · obtain rfl : i = N := by omega
          obtain ⟨Wl, hWl⟩ : ∃ X, X = wr := ⟨_, rfl⟩
          subst hWl
          have hz := HW.out.done (by have := HN.out; omega)
          have HZ := Lib.hid hz
          have HL := Lib.hid hl
          have hst := hl.start (ls1.map (toEn a2))
          have HST := Lib.hid hst
          clear hl hst hlt hig HW hz
          go_wp2_with fail
          go_loopg [13] M (fun g v13 wr => ∃ (k : Nat) (ev : Value), k + g = M ∧ v13 = .int .i64 k ∧ (∀ p ∈ ls1.take k, p.2.length ≤ 40) ∧ L2 w1 Wl nv (ls1.map (toEn a2)) k ev wr)
          case atStart => exact ⟨0, _, by omega, rfl, by simp, HST.out⟩
          case round =>
            clear HST
            obtain ⟨k, ev, hkg, rfl, hle40, hq⟩ := hrel
            have H40 := Lib.hid hle40
            have HQ := Lib.hid hq
            have hbq : Below w.heap.size w wr := by
              have h1 := bt rfl HB1.out HL.out.below
              refine ⟨hq.keeps.os.trans h1.os, hq.keeps.tape.trans h1.tape, hq.keeps.output.trans h1.output, Nat.le_trans h1.size hq.keeps.size, fun k hk => ?_⟩
              rw [hq.keeps.block k (Nat.lt_of_lt_of_le hk h1.size) (by have := HB1.out.size; omega), h1.block k hk]
            have HBQ := Lib.hid hbq
            clear hle40 hq
            by_cases hkM : k < M
            · have hls := HLS.out.keep (w' := wr) (fun b o v hb hc => (hbq.cell (p := ⟨b, o, none⟩) hb).trans hc)
              obtain ⟨b, o, p, a1, c1, rfl, hp, hbb, hpv, hcp, hple⟩ := hls.at (i := k) (by have := HM.out; omega)
              have HP := Lib.hid hp
              have HPV := Lib.hid hpv
              obtain ⟨L, hL⟩ : ∃ L, p.2.length = L := ⟨_, rfl⟩
              have HLL := Lib.hid hL
              rw [hL] at hcp hple
              unfold maxLen at hple
              have d0 := HQ.out.c0
              have f0 := HQ.out.f0
              have hzq : w1.heap.size < wr.heap.size := Nat.lt_of_lt_of_le HQ.out.z HQ.out.keeps.size
              have hzl : Wl.heap.size ≤ wr.heap.size := HQ.out.keeps.size
              clear hls hp hpv hL hbq
              by_cases hL40 : 40 < L
              · go_wp2
                go_ret
                exact ⟨rfl, HBQ.out⟩
              · obtain ⟨j0, hj0, hjz, hjs, hjb⟩ := info_parts infoEnum
                go_wp2_with fail
                go_region_law ((refine step_append_lies _ (by rfl) _ _ _ (by rfl) Wl.heap.size 49 j0 _ 4 56 Try.underlying39 hj0 hjz hjs hjb rfl (by decide) ev k _ (by rfl) (by exact own_drew (HQ.out.own.alloc _)) ⟨wr.heap.size, 0, none⟩ 1 1 [.string a2, .slice a1 L c1, .int .i64 0, .int .i64 0] (by rfl) (by rfl) (World.news_of_block (cs := #[.string a2, .slice a1 L c1, .int .i64 0, .int .i64 0]) (t := 49) (fr := (0, 0)) (by exact alloc_law wr _)) (by simp [Value.oneCell']) (by omega) (by unfold maxLen; omega) (by omega) (by simp; omega) (wr.heap.size + 1) (by simp) ?_; intro g4 cap4 w4 hown hgrow0 hat hlt4; have hgrow := grow_drew hgrow0; have hgc := HQ.out.grown hgrow; have e1 := hgc.1; have e2 := hgc.2; have HG := Lib.hid (And.intro hown hgrow); clear hown hgrow hgrow0 hat hgc))
                all_goals
                  have hn := HQ.out.push (x := ⟨a2, .slice a1 L c1, p.2⟩) (by rw [List.getElem?_map, HP.out]; simp only [Option.map_some, toEn]; rw [HPV.out, HLL.out]) HG.out.1 HG.out.2
                  generalize w4.setCell ⟨w1.heap.size, 0, none⟩ (.slice (some ⟨g4, 0, none⟩) (k + 1) cap4) = w5 at hn ⊢
                  have HNX := Lib.hid hn
                  clear hn e1 e2 HG hj0 hjz hjs hjb d0 f0 hlt4 hcp
                  go_wp2
                  go_roundg (M - (k + 1))
                  case measure => omega
                  case rel => exact ⟨k + 1, _, by omega, by go_num, by
                    intro p' hp'
                    rw [List.take_add_one, HP.out, List.mem_append] at hp'
                    rcases hp' with h | h
                    · exact H40.out p' h
                    · simp at h
                      subst h
                      have := HLL.out
                      omega, HNX.out⟩
            · obtain rfl : k = M := by omega
              have h3 : L3 w.heap.size w1.heap.size w ns0 (ls1.map (toEn a2)) u9 nv ev wr := L3.mk' HL.out HQ.out HN.out HM.out hbq hbq.size rfl HLS.out
              have h40 : ∀ t ∈ ls1.map (toEn a2), t.cs.length ≤ 40 := by
                intro t ht
                obtain ⟨p, hp, rfl⟩ := List.mem_map.1 ht
                exact H40.out p (by rw [List.take_of_length_le (by have := HM.out; omega)]; exact hp)
              have H3 := Lib.hid h3
              have H40' := Lib.hid h40
              have d0 := h3.c0
              have hpb : w1.heap.size < wr.heap.size := Nat.lt_of_lt_of_le HQ.out.z HQ.out.keeps.size
              obtain ⟨ts, hts⟩ : ∃ ts, ls1.map (toEn a2) = ts := ⟨_, rfl⟩
              rw [hts] at H3 H40'
              have HTS := Lib.hid hts
              clear hbq h3 h40 hkM hkg HQ HL H40 hts
              go_wp2_with fail
              refine (refCtorAt_any _ a2 wr ev ts H3.out.ens).mono ?_
              rintro e wz ⟨rfl, rfl⟩
              obtain ⟨pi, hpi⟩ : ∃ x, (ctorAt a2 ts 0).1 = x := ⟨_, rfl⟩
              obtain ⟨pk, hpk⟩ : ∃ x, (ctorAt a2 ts 0).2 = x := ⟨_, rfl⟩
              have HPI := Lib.hid hpi
              have HPK := Lib.hid hpk
              rw [hpi, hpk]
              clear hpi hpk
              go_wp2_with fail
              generalize hkm : (a3.tmod 5) = km
              generalize hwt : wz.alloc (.cells #[.int .u8 km, .string a2] 23) = wt
              have hbt : Below wz.heap.size wz wt := by rw [← hwt]; exact (Below.refl _ _).alloc (Nat.le_refl _) _
              have ht0 : wt.cell? ⟨wz.heap.size, 0, none⟩ = some (.int .u8 km) := by rw [← hwt]; simp [go_sem]
              have ht1 : wt.cell? ⟨wz.heap.size, 1, none⟩ = some (.string a2) := by rw [← hwt]; simp [go_sem]
              have hzt : wz.heap.size < wt.heap.size := by rw [← hwt]; simp
              have h3t := H3.out.grow hbt
              have H3T := Lib.hid h3t
              have hpbt : w1.heap.size < wt.heap.size := Nat.lt_trans hpb hzt
              generalize wz.heap.size = tb at *
              have HC := Lib.hid (show ∀ w', Below wt.heap.size wt w' → w'.cell? ⟨w1.heap.size, 0, none⟩ = some ev ∧ w'.cell? ⟨w1.heap.size, 1, none⟩ = some nv ∧ w'.cell? ⟨tb, 0, none⟩ = some (.int .u8 km) ∧ w'.cell? ⟨tb, 1, none⟩ = some (.string a2) from
                fun w' hb => ⟨(hb.cell (p := ⟨w1.heap.size, 0, none⟩) hpbt).trans H3T.out.c0, (hb.cell (p := ⟨w1.heap.size, 1, none⟩) hpbt).trans H3T.out.c1, (hb.cell (p := ⟨tb, 0, none⟩) hzt).trans ht0, (hb.cell (p := ⟨tb, 1, none⟩) hzt).trans ht1⟩)
              have hd0 := H3T.out.c0
              have hd1 := H3T.out.c1
              have hb0 : Below wt.heap.size wt wt := Below.refl _ _
              have HF1 := Lib.hid (show ∀ w', Below wt.heap.size wt w' → Calls Try.prog 11 #[u9, .string a2] w' (fun e w'' => e = .returned (.int .i64 z) ∧ Below wt.heap.size wt w'') from fun w' hb => by
                rw [HZ.out]; exact (find_any a2 w2 w' u9 ns0 (H3T.out.vars.below hb)).mono fun e w'' h => ⟨h.1, bel hb hb.size h.2⟩)
              have HF2 := Lib.hid (show ∀ w', Below wt.heap.size wt w' → Calls Try.prog 12 #[.agg #[ev, nv], .string a2] w' (fun e w'' => e = .returned (.int .i64 z) ∧ Below wt.heap.size wt w'') from fun w' hb => by
                rw [HZ.out]; exact (findNode_any a2 w2 w' ev nv ns0 (H3T.out.nodes.below hb)).mono fun e w'' h => ⟨h.1, bel hb hb.size h.2⟩)
              have HF3 := Lib.hid (show ∀ w', Below wt.heap.size wt w' → Calls Try.prog 13 #[ev, .string a2] w' (fun e w'' => e = .returned (.int .i64 pi) ∧ Below wt.heap.size wt w'') from fun w' hb => by
                rw [← HPI.out, ctorAt_fst]; exact (ctorEnum_any _ a2 w' ev ts (H3T.out.ens.below hb)).mono fun e w'' h => ⟨h.1, bel hb hb.size h.2⟩)
              have hcs : ∃ cs, ctorsOf km a2 ts = cs := ⟨_, rfl⟩
              obtain ⟨cs, hcs⟩ := hcs
              have HF4 := Lib.hid (show ∀ w', Below wt.heap.size wt w' → Calls Try.prog 15 #[ev, .agg #[.int .u8 km, .string a2]] w' (fun e w'' => ∃ v', e = .returned v' ∧ Below wt.heap.size wt w'' ∧ NamesIn (fun k => k < w''.heap.size) w'' v' cs) from fun w' hb => by
                rw [← hcs]; exact (treeCtors_any _ a2 w2 km w' ev ts (H3T.out.ens.below hb) H40'.out).mono fun e w'' ⟨v', h1, h2, h3⟩ => ⟨v', h1, bel hb hb.size h2, h3⟩)
              have HF5 := Lib.hid (show ∀ w', Below wt.heap.size wt w' → Calls Try.prog 16 #[ev, .agg #[.int .u8 km, .string a2]] w' (fun e w'' => ∃ v', e = .returned v' ∧ Below wt.heap.size wt w'' ∧ NamesIn (fun k => k < w''.heap.size) w'' v' cs ∧ ∀ v, NamesIn (fun k => k < w'.heap.size) w' v cs → NamesIn (fun k => k < w''.heap.size) w'' v cs) from fun w' hb => by
                rw [← hcs]; exact (refCtors_any _ a2 w2 km w' ev ts (H3T.out.ens.below hb)).mono fun e w'' ⟨v', h1, h2, h3⟩ => ⟨v', h1, bel hb hb.size h2, h3, fun v hv => hv.lift (fun _ h => h) h2⟩)
              have HF6 := Lib.hid (show ∀ w' v1 v2, Below wt.heap.size wt w' → NamesIn (fun k => k < w'.heap.size) w' v1 cs → NamesIn (fun k => k < w'.heap.size) w' v2 cs → Calls Try.prog 14 #[v1, v2] w' (fun e w'' => e = .returned (.bool true) ∧ Below wt.heap.size wt w'') from fun w' v1 v2 hb h1 h2 =>
                (rnames_any _ w' v1 v2 cs cs h1 h2).mono fun e w'' ⟨h3, n, h4⟩ => ⟨by rw [h3, sameN_self], by rw [h4]; exact bel_drewN hb n⟩)
              clear hcs
              clear hwt h3t hbt
              go_region_held3 (fun w' => w'.cell? ⟨w1.heap.size, 0, none⟩ = some ev ∧ w'.cell? ⟨w1.heap.size, 1, none⟩ = some nv ∧ w'.cell? ⟨tb, 0, none⟩ = some (.int .u8 km) ∧ w'.cell? ⟨tb, 1, none⟩ = some (.string a2))
                (first
                  | go_keep
                  | exact HC.out _ (by assumption)
                  | exact HC.out _ (Below.drew (by assumption)))
                ((first
                  | (go_at_call 11; refine (HF1.out _ (by first | assumption | exact Below.drew (by assumption))).mono ?_; rintro e wa ⟨rfl, hba⟩)
                  | (go_at_call 12; refine (HF2.out _ (by first | assumption | exact Below.drew (by assumption))).mono ?_; rintro e wb ⟨rfl, hbb⟩)
                  | (go_at_call 13; refine (HF3.out _ (by first | assumption | exact Below.drew (by assumption))).mono ?_; rintro e wc ⟨rfl, hbc⟩)
                  | (go_at_call 15; refine (HF4.out _ (by first | assumption | exact Below.drew (by assumption))).mono ?_; rintro e wd ⟨v4, rfl, hbd, hn4⟩)
                  | (go_at_call 16; refine (HF5.out _ (by first | assumption | exact Below.drew (by assumption))).mono ?_; rintro e we ⟨v5, rfl, hbe, hn5, hlift⟩; have hn4e := hlift _ (by exact hn4))
                  | (go_at_call 14; refine (HF6.out _ _ _ (by first | assumption | exact Below.drew (by assumption)) (by exact hn4e) (by exact hn5)).mono ?_; rintro e wf ⟨rfl, hbf⟩)))
              have HL3 := Lib.hid (H3T.out.grow hbf)
              have HBF := Lib.hid hbf
              clear HF1 HF2 HF3 HF4 HF5 HF6 hba hbb hbc hbd hbe hn4 hn5 hn4e hlift hb0 hbf hd0 hd1 ht0 ht1 HC
              have hf0 := HL3.out.c0
              have hrng := ctorAt_range a2 ts H40'.out
              rw [HPK.out] at hrng
              have hwr : IntKind.i64.wrap pk = pk := IntWalk.i64_in pk (by omega)
              have hfe := first_of a2 ls1
              rw [HTS.out, HM.out] at hfe
              have HFE := Lib.hid (show ∀ w', Below wf.heap.size wf w' → Calls Try.prog 19 #[ev, .string a2] w' (fun e w'' => e = .returned (.int .i64 (if k = 0 then -1 else 0)) ∧ Below wf.heap.size wf w'') from fun w' hb => by
                rw [← hfe]; exact (findEnum_any _ a2 w2 w' ev ts (HL3.out.ens.below hb)).mono fun e w'' h => ⟨h.1, bel hb hb.size h.2⟩)
              have HCT := Lib.hid (show ∀ w', Below wf.heap.size wf w' → Calls Try.prog 18 #[.string a2] w' (fun e w'' => e = .returned (.agg #[.int .u8 3, .int .u8 0, .int .i32 0, .string a2, .slice none 0 0, .slice none 0 0, .int .i64 0, .int .i64 0]) ∧ Below wf.heap.size wf w'') from fun w' hb =>
                (ctor_any a2 w').mono fun e w'' h => ⟨h.1, bel hb hb.size h.2⟩)
              have hgo : (0 ≤ pi ∧ ∀ w', Below wf.heap.size wf w' → Calls Try.prog 17 #[ev, .agg #[.int .u8 3, .int .u8 0, .int .i32 0, .string a2, .slice none 0 0, .slice none 0 0, .int .i64 0, .int .i64 0]] w' (fun e w'' => e = .returned (.tuple #[.int .i32 pk, .bool true]) ∧ Below wf.heap.size wf w'')) ∨
                  (pi < 0 ∧ ∀ w', Below wf.heap.size wf w' → Calls Try.prog 17 #[ev, .agg #[.int .u8 3, .int .u8 0, .int .i32 0, .string a2, .slice none 0 0, .slice none 0 0, .int .i64 0, .int .i64 0]] w' (fun e w'' => e = .returned (.tuple #[.int .i32 0, .bool false]) ∧ Below wf.heap.size wf w'')) := by
                by_cases hp0 : 0 ≤ pi
                · exact .inl ⟨hp0, fun w' hb => (value_ctor _ a2 w' ev ts (HL3.out.ens.below hb) H40'.out pk true (by rw [HPI.out, HPK.out, if_pos hp0])).mono fun e w'' h => ⟨h.1, bel hb hb.size h.2⟩⟩
                · exact .inr ⟨by omega, fun w' hb => (value_ctor _ a2 w' ev ts (HL3.out.ens.below hb) H40'.out 0 false (by rw [HPI.out, if_neg hp0])).mono fun e w'' h => ⟨h.1, bel hb hb.size h.2⟩⟩
              have hfin : ∀ w', Below wf.heap.size wf w' → Below w.heap.size w w' := fun w' hb => bel HL3.out.below HL3.out.n hb
              have HFIN := Lib.hid hfin
              have hb0 : Below wf.heap.size wf wf := Below.refl _ _
              have HC := Lib.hid (show ∀ w', Below wf.heap.size wf w' → w'.cell? ⟨w1.heap.size, 0, none⟩ = some ev from fun w' hb => (hb.cell (p := ⟨w1.heap.size, 0, none⟩) (World.block_lt_of_cell? wf _ hf0)).trans hf0)
              clear hfe hrng hfin
              by_cases hk0 : k = 0
              all_goals
                rcases hgo with ⟨hp0, hgo⟩ | ⟨hp0, hgo⟩
                all_goals
                  have HGO := Lib.hid hgo
                  first | rw [if_pos hk0] at HFE | rw [if_neg hk0] at HFE
                  clear hgo
                  go_wp2_with fail
                  go_region_held3 (fun w' => w'.cell? ⟨w1.heap.size, 0, none⟩ = some ev)
                    (first
                      | go_keep
                      | exact HC.out _ (by assumption)
                      | exact HC.out _ (Below.drew (by assumption)))
                    ((first
                      | (go_at_call 18; refine (HCT.out _ (by first | assumption | exact Below.drew (by assumption))).mono ?_; rintro e wg ⟨rfl, hbg⟩)
                      | (go_at_call 17; refine (HGO.out _ (by first | assumption | exact Below.drew (by assumption))).mono ?_; rintro e wh ⟨rfl, hbh⟩)))
                  have hh0 := HC.out _ hbh
                  go_wp2_with fail
                  refine (HFE.out _ hbh).mono ?_
                  rintro e wi ⟨rfl, hbi⟩
                  clear hbg hbh hh0 hb0 hf0
                  go_wp2
                  go_ret
                  first
                    | exact ⟨rfl, HFIN.out _ hbi⟩
                    | exact ⟨(show Ending.returned (.bool (!decide (0 ≤ pi))) = _ by rw [decide_eq_false (show ¬ 0 ≤ pi by omega)]; rfl), HFIN.out _ hbi⟩

set_option maxRecDepth 100000 in
theorem contract (H : Type) (enc : TypeId × Value → H) (W : World) (base : Nat) (args : Array Value) (ds gs : List (DataW H)) (before : List MemPlace)
    (hval : ∀ (j : Nat) t v, Try.f4.params[j]? = some t → args[j]? = some v → Value.okWide Try.prog W .any base t v)
    (hW : DataW.Whole enc Try.prog Try.f4.params.toList Rows.treeFindsSpec.vars false W args.toList ds gs before) :
    Calls Try.prog 4 args W fun e W' => ∃ v, e = .returned v ∧ Rows.treeFindsSpec.post enc Try.prog Try.f4 false true false false W args v W' := by
  have hW' := hW
  obtain ⟨p, q, hA0, hV, rfl, hfz, hnd⟩ := hW
  have hA : DataW.TrodAll enc Try.prog W 0 (fun _ => true) true Try.f4.params.toList args.toList ds p := hA0
  rw [Try.params4] at hA hval
  obtain ⟨v0, vs0, d0, ds0, p0, q0, hargs, rfl, rfl, h0, r0⟩ := trodAll_cons hA
  obtain ⟨v1, vs1, d1, ds1, p1, q1, rfl, rfl, rfl, h1, r1⟩ := trodAll_cons r0
  obtain ⟨v2, vs2, d2, ds2, p2, q2, rfl, rfl, rfl, h2, r2⟩ := trodAll_cons r1
  obtain ⟨v3, vs3, d3, ds3, p3, q3, rfl, rfl, rfl, h3, r3⟩ := trodAll_cons r2
  obtain ⟨rfl, rfl, rfl⟩ := trodAll_nil r3
  obtain rfl : args = #[v0, v1, v2, v3] := by cases args; simp_all
  obtain ⟨rfl, rfl⟩ := trodVars_none hV
  have k0 := h0
  have lt0 : ∀ x ∈ p0, x.block < W.heap.size := by obtain ⟨m, hm⟩ := k0; exact DataW.trod_lt m _ _ _ hm
  obtain ⟨_, ns0, rfl, hn0⟩ := Tx.open_names (hval 0 25 v0 rfl rfl) h0
  have k1 := h1
  have lt1 : ∀ x ∈ p1, x.block < W.heap.size := by obtain ⟨m, hm⟩ := k1; exact DataW.trod_lt m _ _ _ hm
  obtain ⟨_, ls1, rfl, hl1⟩ := Tx.open_lists (hval 1 38 v1 rfl rfl) h1
  obtain ⟨a2, rfl, rfl, rfl, w2⟩ := open_string Try.underlying9 (hval 2 9 v2 rfl rfl) h2
  obtain ⟨a3, rfl, rfl, rfl, w3⟩ := open_int Try.underlying5 (hval 3 5 v3 rfl rfl) h3
  clear hA0
  simp only [List.append_nil] at hW'
  refine (walk v0 ns0 v1 ls1 a2 a3 W hn0 hl1 w2 w3).mono fun e W' ⟨he, bel⟩ => ?_
  subst he
  exact ⟨_, rfl, _, _, _, [], _, [], hW', trodAll_mk1 (shut_bool Try.underlying4 _), (trodAll_cons_mk (Below.trod laidOut (by kernel_rfl) (of_decide_eq_true (by kernel_rfl)) k0 bel lt0) (trodAll_cons_mk (Below.trod laidOut (by kernel_rfl) (of_decide_eq_true (by kernel_rfl)) k1 bel lt1) (trodAll_cons_mk (shut_string Try.underlying9 w2) (trodAll_cons_mk (shut_int Try.underlying5 w3) trodAll_mk0)))), rfl, bel.frame _, fun h => by cases h⟩

set_option maxRecDepth 100000 in
theorem lifted (os : Os) (started : os.Started) (H : Type) (enc : TypeId × Value → H) :
    ReturnsInHanded {} Try.checked os 4 .any (Rows.treeFindsSpec.pre6 enc Try.prog Try.f4 Rows.treeFindsRow.domain false) (Rows.treeFindsSpec.post enc Try.prog Try.f4 false true false false) := by
  refine returnsInHanded_of_change (C := Try.checked) own started (by kernel_rfl) Try.func4
    (ChangeSpec.witness6 (enc := enc) (C := Try.checked) false ⟨#[], #[.slice none 0 0, .slice none 0 0, .string ByteArray.empty, .int .u8 0], []⟩ 8 (by kernel_rfl) (by kernel_rfl) (by kernel_rfl) (by kernel_rfl)) ?_
  intro W base args ds gs before hval hW hcnd _
  exact contract H enc W base args ds gs before hval hW

theorem over : Rows.treeFindsRow.holds Try.pinned (OpenSpec.ofChange Rows.treeFindsSpec) :=
  OpenClaim.holds_of_wide 4 Try.f4 rfl rfl rfl rfl rfl rfl rfl ⟨rfl, rfl, rfl, rfl, rfl⟩ rfl rfl rfl rfl rfl (by kernel_rfl) Try.func4 (by kernel_rfl)
    (of_decide_eq_true (by kernel_rfl)) (by unfold Func.isWrapper; first | (rw [if_pos (by decide +kernel)]; kernel_rfl) | (rw [if_neg (by decide +kernel)]; exact ⟨rfl, rfl⟩))
    (fun os started H enc _ => lifted os started H enc)

theorem proved : Rows.TreeFindsSaid := over
#print axioms proved
end Go.Proofs.Ytggoejghnlgigaa.treeFinds
