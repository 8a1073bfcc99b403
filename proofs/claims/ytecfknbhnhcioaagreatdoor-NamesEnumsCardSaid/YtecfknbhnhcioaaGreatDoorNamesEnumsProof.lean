/-
  NamesEnums returns true. No condition.
-/
import Derived.Test.YtecfknbhnhcioaaGreatDoorCards
import Derived.Test.YtecfknbhnhcioaaGreatDoorTie
import Derived.Test.YtecfknbhnhcioaaGreatDoorNe
import Derived.WalkKit
import Derived.ProofKit
import Derived.OpenShut
import Derived.ShutString
import Derived.ChangeOld
import Derived.Below
import Derived.SliceStrings
import Derived.Lib.SmallJoins
import Derived.Lib.Hide
import Derived.Deep.DeepHandedRow
import Derived.Lib.LaidTab
import Derived.LaidHandle
namespace Go.Proofs.YtecfknbhnhcioaaGreatDoor.namesEnums
open Go.ChangeShapes Go.WideShapes Go.ChangeAt Go.RowKit
open Go.ChangeMaps (open_string shut_string)
open Go.Joins
set_option linter.unusedVariables false

theorem own : ownKnob Tryz.prog.godebug = none := by kernel_rfl
theorem laidOut : laidOutB Tryz.prog = true := by kernel_rfl

/-- What is known of a slice of integers that came in. -/
def IsRow (k : IntKind) (w : World) (a : Option Addr) (len cap : Nat) (zs : List Int) : Prop :=
  (a = none ∧ len = 0 ∧ cap = 0 ∧ zs = []) ∨
  ∃ x, a = some x ∧ len ≤ cap ∧ cap ≤ maxLen ∧ zs.length = cap ∧ (∀ i, i < zs.length → w.cell? (x.add i) = some (.int k (zs.getD i 0))) ∧ ∀ n ∈ zs, (Lit.int k n).wf = true

/-- What is known of a slice of strings that came in. -/
def IsStrs (w : World) (a : Option Addr) (len cap : Nat) (zs : List ByteArray) : Prop :=
  (a = none ∧ len = 0 ∧ cap = 0 ∧ zs = []) ∨
  ∃ x, a = some x ∧ len ≤ cap ∧ cap ≤ maxLen ∧ zs.length = cap ∧ (∀ i, i < zs.length → w.cell? (x.add i) = some (.string (zs.getD i ByteArray.empty))) ∧ ∀ s ∈ zs, s.size ≤ maxLen

open Tx
theorem bt {n : Nat} {w W1 w2 : World} (hn : n = w.heap.size) (a : Below n w W1) (b : Below W1.heap.size W1 w2) : Below n w w2 := a.trans (b.mono (by subst hn; exact a.size))
theorem bt' {W1 w2 w : World} (a : Below w.heap.size w W1) (b : Below W1.heap.size W1 w2) : Below w.heap.size w w2 := a.trans (b.mono a.size)

set_option maxHeartbeats 16000000 in
set_option maxRecDepth 100000 in
theorem walk (nv0 : Value) (ns0 : List ByteArray) (nv1 : Value) (ns1 : List ByteArray) (a2 : Option Addr) (len2 cap2 : Nat) (z2 : List Int) (w : World) (hn0 : Tx.NamesIn (fun k => k < w.heap.size) w nv0 ns0) (hn1 : Tx.NamesIn (fun k => k < w.heap.size) w nv1 ns1) (w2 : IsRow .u8 w a2 len2 cap2 z2) :
    Calls Tryz.prog 3 #[nv0, nv1, .slice a2 len2 cap2] w fun e w' => e = .returned (.bool true) ∧ Below w.heap.size w w' := by
  have HNS := Lib.hid hn0
  have HCS := Lib.hid hn1
  obtain ⟨ao, ac, rfl⟩ := hn0.form
  obtain ⟨bo, bc, rfl⟩ := hn1.form
  clear hn0 hn1
  obtain ⟨N, hN⟩ : ∃ N, ns0.length = N := ⟨_, rfl⟩
  obtain ⟨M, hM⟩ : ∃ M, ns1.length = M := ⟨_, rfl⟩
  have HN := Lib.hid hN
  have HM := Lib.hid hM
  have HC2 := Lib.hid w2
  rw [hN, hM]
  clear hN hM w2
  go_enter Tryz.func3, Tryz.ntmps3
  go_wp2_with fail
  refine (awake_any w).mono ?_
  rintro e w1 ⟨rfl, hb1⟩
  have HB1 := Lib.hid hb1
  clear hb1
  by_cases hN20 : 20 < N
  · go_wp2_with fail
    refine (awake_any w1).mono ?_
    rintro e w2 ⟨rfl, hb2⟩
    have HB2 := Lib.hid (bt rfl HB1.out hb2)
    clear hb2
    go_wp2
    go_ret
    exact ⟨rfl, HB2.out⟩
  by_cases hM100 : 100 < M
  · go_wp2_with fail
    refine (awake_any w1).mono ?_
    rintro e w2 ⟨rfl, hb2⟩
    have HB2 := Lib.hid (bt rfl HB1.out hb2)
    clear hb2
    go_wp2
    go_ret
    exact ⟨rfl, HB2.out⟩
  go_wp2_with fail
  have hm0 : MkAt w1 w1.heap.size [] 0 (.slice none 0 0) (w1.alloc (.cells #[.slice none 0 0, .slice none 0 0] 28)) :=
    ⟨⟨(Below.refl _ _).alloc (Nat.le_refl _) _, Nat.le_refl _, by simp [go_sem], by simp [go_sem], by simp [go_sem], by simp [go_sem], ⟨rfl, .inl ⟨rfl, rfl⟩⟩⟩, by simp, rfl⟩
  generalize w1.alloc (.cells #[.slice none 0 0, .slice none 0 0] 28) = wp at hm0 ⊢
  have HM0 := Lib.hid hm0
  clear hm0
  go_loopg [8, 9] N (fun g fv iv wr => ∃ (i f : Nat) (ts : List En) (ev : Value), i + g = N ∧ iv = .int .i64 i ∧ fv = .int .i64 f ∧ f ≤ M ∧ ts.length = i ∧ MkAt w1 w1.heap.size ts f ev wr)
  case atStart => exact ⟨0, 0, [], _, by omega, rfl, rfl, by omega, rfl, HM0.out⟩
  case round =>
    clear HM0
    obtain ⟨i, f, ts, ev, hig, rfl, rfl, hfM, htl, hmk⟩ := hrel
    have HMK := Lib.hid hmk
    have HTL := Lib.hid htl
    clear hmk htl
    by_cases hlt : i < N
    · have hbw : Below w.heap.size w wr := bt rfl HB1.out HMK.out.prog.below
      have hns := HNS.out.keep (w' := wr) (fun b o v hb hc => (hbw.cell (p := ⟨b, o, none⟩) hb).trans hc)
      obtain ⟨b, o, nm, rfl, hx, hnm, hbB, hcx⟩ := hns.one (i := i) (by have := HN.out; omega)
      have HBW := Lib.hid hbw
      clear hns hx hbw
      by_cases hcut : i < len2
      · rcases HC2.out with ⟨_, h0, _⟩ | ⟨x, rfl, hlc, hcm, hzl, hzc, hzw⟩
        · omega
        obtain ⟨xb, xo, rfl, hxb⟩ := plain_of (hzc 0 (by omega))
        have hzi := hzc i (by omega)
        rw [add_plain] at hzi
        have hzr := (HBW.out.cell (p := ⟨xb, xo + i, none⟩) (World.block_lt_of_cell? w _ hzi)).trans hzi
        clear hzc hzl hzw hzi hxb
        generalize z2.getD i 0 = zi at hzr
        unfold maxLen at hcm
        go_wp2_with fail
        generalize (wrap64 zi).tmod 6 = kk
        clear hzr
        generalize hW5 : wr.alloc (.cells #[.string nm, .slice none 0 0, .int .i64 0, .int .i64 0] 32) = W5
        have k5 : Keeps (fun _ => False) wr W5 := by rw [← hW5]; exact (Keeps.refl _ _).alloc _
        have hz5 : W5.heap.size = wr.heap.size + 1 := by rw [← hW5]; simp
        have he5 : EAt W5 wr.heap.size nm (.slice none 0 0) [] W5 := by
          rw [← hW5]
          exact ⟨Keeps.refl _ _, by simp [go_sem], by simp [go_sem], by simp [go_sem], by simp [go_sem], by simp [go_sem], ⟨rfl, .inl ⟨rfl, rfl⟩⟩, by simp⟩
        have hm5 := HMK.out.keep k5 (fun _ h => h.elim)
        have hpb : w1.heap.size < wr.heap.size := World.block_lt_of_cell? wr ⟨w1.heap.size, 0, none⟩ HMK.out.prog.c0
        have hob : ∀ k, ev.ownBlock = some k → k < wr.heap.size := fun k hk => (HMK.out.prog.own.lt k hk).2
        have hlt5 : ∀ k, k < wr.heap.size → k < W5.heap.size := fun k hk => by omega
        have hbw5 : Below w.heap.size w W5 := by
          have h := HBW.out
          exact ⟨k5.os.trans h.os, k5.tape.trans h.tape, k5.output.trans h.output, Nat.le_trans h.size k5.size, fun j hj => (k5.block j (Nat.lt_of_lt_of_le hj h.size) id).trans (h.block j hj)⟩
        have hwz : w.heap.size ≤ wr.heap.size := HBW.out.size
        obtain ⟨eb, heb⟩ : ∃ x, wr.heap.size = x := ⟨_, rfl⟩
        have HEB := Lib.hid heb
        rw [heb] at hz5 he5 hpb hob hwz ⊢
        clear heb
        have HE5 := Lib.hid he5
        have HM5 := Lib.hid hm5
        have HB5 := Lib.hid hbw5
        have HOB := Lib.hid hob
        obtain ⟨i0, hi0, hz0, hz1, hz2⟩ := info_parts infoString
        have HK5 := Lib.hid k5
        clear hW5 k5 he5 hm5 hlt5 hbw5 hob hcx
        go_loopg [8, 12] (M - f) (fun g fv jv wq => ∃ (f' : Nat) (j : Int) (cv : Value) (cs : List ByteArray), f' + g = M ∧ 0 ≤ j ∧ j ≤ f' ∧ f + cs.length = f' ∧ fv = .int .i64 f' ∧ jv = .int .i64 j ∧ EAt W5 eb nm cv cs wq)
        case atStart => exact ⟨f, 0, _, [], by omega, by omega, by omega, rfl, rfl, rfl, HE5.out⟩
        case round =>
          clear HE5
          obtain ⟨f', j, cv, cs, hfg, hj0, hjf, hfc, rfl, rfl, hq⟩ := hrel
          have HQ := Lib.hid hq
          have e1 := hq.c1
          have ef := hq.f1
          have hze : eb + 1 ≤ wr.heap.size := by have := hq.keeps.size; omega
          have hlt1 : eb < wr.heap.size := hze
          have hcl : cs.length ≤ 100 := by omega
          by_cases hgo : j < kk ∧ f' < M
          · obtain ⟨b3, o3, sj, hbo, hsj, hsz, hB3, hc3⟩ := HCS.out.one (i := f') (by have := HM.out; omega)
            subst hbo
            have x3 := hq.keeps.cell ((HB5.out.cell (p := ⟨b3, o3 + f', none⟩) hB3).trans hc3) (by omega)
            have hb3 : b3 < wr.heap.size := World.block_lt_of_cell? wr ⟨b3, o3 + f', none⟩ x3
            obtain ⟨hjk, hfM2⟩ := hgo
            clear hsj hc3 hq
            go_wp2_with fail
            go_region_law ((refine step_append_lies _ (by rfl) _ _ _ (by rfl) (eb + 1) 9 i0 _ 1 16 Tryz.underlying22 hi0 hz0 hz1 hz2 rfl (by decide) cv _ _ (by rfl) (by exact own_drew (HQ.out.own.alloc _)) ⟨wr.heap.size, 0, none⟩ 1 1 [.string sj] (by rfl) (by rfl) (World.news_of_block (cs := #[.string sj]) (t := 9) (fr := (0, 0)) (by exact alloc_law wr _)) (by simp [Value.oneCell']) (by omega) (by unfold maxLen; omega) (by omega) (by simp; omega) (wr.heap.size + 1) (by simp) ?_; intro g4 cap4 w4 hown hgrow0 hat hlt4; have hgrow := grow_drew hgrow0; have hgc := HQ.out.grown hgrow; have p1 := hgc.1; have p2 := hgc.2; have HG := Lib.hid (And.intro hown hgrow); clear hown hgrow hgrow0 hat hgc))
            all_goals
              have hqn := HQ.out.push hz5 hsz HG.out.1 HG.out.2
              generalize w4.setCell ⟨eb, 1, none⟩ (.slice (some ⟨g4, 0, none⟩) (cs.length + 1) cap4) = w5 at hqn ⊢
              have HQN := Lib.hid hqn
              clear hqn p1 p2 HG e1 ef x3 hlt4
              go_wp2
              go_roundg (M - (f' + 1))
              case measure => omega
              case rel => exact ⟨f' + 1, j + 1, _, cs ++ [sj], by omega, by omega, by omega, by simp; omega, by go_num, by go_num, HQN.out⟩
          · obtain ⟨co, cc, rfl⟩ := own_shape hq.own
            have d2 := hq.c2
            have d3 := hq.c3
            have d0 := hq.c0
            have hall : Keeps (fun k => eb ≤ k) _ wr := ((HK5.out).mono (fun _ _ h => h.elim)).trans (hq.keeps.mono (fun k _ h => by omega))
            have hmn := HMK.out.keep hall (fun k hk => by rw [HEB.out]; exact hk)
            have hnc : NamesIn (fun k => k < wr.heap.size ∧ k ≠ w1.heap.size ∧ ev.ownBlock ≠ some k) wr (.slice co cs.length cc) cs := (names_of_own2 hq.own hq.small).mono (fun k hk => ⟨hk.2, by omega, fun e => by have := HOB.out k e; omega⟩)
            have HMN := Lib.hid hmn
            have HNC := Lib.hid hnc
            have dp := hmn.prog.c0
            have hpw : w1.heap.size < wr.heap.size := by omega
            obtain ⟨L, hL⟩ : ∃ L, cs.length = L := ⟨_, rfl⟩
            have HL := Lib.hid hL
            have htl2 := HTL.out
            obtain ⟨j0, hj0', hjz, hjs, hjb⟩ := info_parts infoEnum
            rw [hL] at e1 hfc
            clear hall hmn hnc hq hcl ef hL hi0 hz0 hz1 hz2 i0
            have hgo2 : ¬ (j < kk) ∨ (j < kk ∧ ¬ f' < M) := by
              by_cases h1 : j < kk
              · exact .inr ⟨h1, fun h2 => hgo ⟨h1, h2⟩⟩
              · exact .inl h1
            clear hgo
            rcases hgo2 with hj1 | ⟨hj1, hf1⟩
            all_goals
              go_wp2_with (at_builtin; refine wpList_append_lies _ rfl (.tmp 73) (.tmp 75) 25 rfl (w1.heap.size + 1) 32 j0 _ 4 56 Tryz.underlying25 hj0' hjz hjs hjb rfl (by decide) ev _ _ rfl (HMN.out.prog.own.alloc _) ⟨wr.heap.size, 0, none⟩ 1 1 [.string nm, .slice co L cc, .int .i64 0, .int .i64 0] rfl rfl ?_ ?_ (by omega) ?_ ?_ ?_ _ rfl ?_; rotate_left 5; intro g2 cap2 w8 hown8 hgrow hat hlt2; have hgc := HMN.out.prog.grown hgrow; have p1 := hgc.1; have p2 := hgc.2; have HG := Lib.hid (And.intro hown8 (And.intro hgrow (show ev.ownBlock = some g2 ∨ g2 = wr.heap.size + 1 by simpa using hat))); clear hown8 hgrow hat hgc)
              · have hpn := HMN.out.push (x := ⟨nm, hnm, .slice co L cc, cs, 0, 0⟩) (by rw [← HL.out]; exact HNC.out) HG.out.1 HG.out.2.1 HG.out.2.2
                have hpn2 : MkAt w1 w1.heap.size (ts ++ [⟨nm, hnm, .slice co L cc, cs, 0, 0⟩]) f' (.slice (some ⟨g2, 0, none⟩) (ts.length + 1) cap2) (w8.setCell ⟨w1.heap.size, 0, none⟩ (.slice (some ⟨g2, 0, none⟩) (ts.length + 1) cap2)) := by
                  have e : f + (En.mk nm hnm (.slice co L cc) cs 0 0).cs.length = f' := by show f + cs.length = f'; rw [HL.out]; exact hfc
                  rw [← e]
                  exact hpn
                have HPN := Lib.hid hpn2
                clear hpn hpn2 HG p1 p2 d0 d2 d3 e1 dp hj0' hjz hjs hjb
                go_roundg (N - (i + 1))
                case measure => omega
                case rel => exact ⟨i + 1, f', ts ++ [⟨nm, hnm, .slice co L cc, cs, 0, 0⟩], _, by omega, by go_num, rfl, by omega, by rw [List.length_append, List.length_singleton, HTL.out], by have h := HPN.out; rw [HTL.out] at h; exact h⟩
              all_goals first
                | omega
                | (unfold maxLen; omega)
                | (intro jj u hj; rcases jj with _ | _ | _ | _ | jj <;> simp at hj <;> subst hj <;> simp [Addr.add, go_sem])
                | (intro u hu; simp at hu; rcases hu with rfl | rfl | rfl | rfl <;> rfl)
                | exact ⟨rfl, rfl, rfl⟩
                | (simp; omega)
      · go_wp2_with fail
        obtain ⟨kk, hkk⟩ : ∃ x : Int, 1 = x := ⟨_, rfl⟩
        generalize hact : Act.mk _ _ = act
        rw [hkk] at hact
        subst hact
        clear hkk
        generalize hW5 : wr.alloc (.cells #[.string nm, .slice none 0 0, .int .i64 0, .int .i64 0] 32) = W5
        have k5 : Keeps (fun _ => False) wr W5 := by rw [← hW5]; exact (Keeps.refl _ _).alloc _
        have hz5 : W5.heap.size = wr.heap.size + 1 := by rw [← hW5]; simp
        have he5 : EAt W5 wr.heap.size nm (.slice none 0 0) [] W5 := by
          rw [← hW5]
          exact ⟨Keeps.refl _ _, by simp [go_sem], by simp [go_sem], by simp [go_sem], by simp [go_sem], by simp [go_sem], ⟨rfl, .inl ⟨rfl, rfl⟩⟩, by simp⟩
        have hm5 := HMK.out.keep k5 (fun _ h => h.elim)
        have hpb : w1.heap.size < wr.heap.size := World.block_lt_of_cell? wr ⟨w1.heap.size, 0, none⟩ HMK.out.prog.c0
        have hob : ∀ k, ev.ownBlock = some k → k < wr.heap.size := fun k hk => (HMK.out.prog.own.lt k hk).2
        have hlt5 : ∀ k, k < wr.heap.size → k < W5.heap.size := fun k hk => by omega
        have hbw5 : Below w.heap.size w W5 := by
          have h := HBW.out
          exact ⟨k5.os.trans h.os, k5.tape.trans h.tape, k5.output.trans h.output, Nat.le_trans h.size k5.size, fun j hj => (k5.block j (Nat.lt_of_lt_of_le hj h.size) id).trans (h.block j hj)⟩
        have hwz : w.heap.size ≤ wr.heap.size := HBW.out.size
        obtain ⟨eb, heb⟩ : ∃ x, wr.heap.size = x := ⟨_, rfl⟩
        have HEB := Lib.hid heb
        rw [heb] at hz5 he5 hpb hob hwz ⊢
        clear heb
        have HE5 := Lib.hid he5
        have HM5 := Lib.hid hm5
        have HB5 := Lib.hid hbw5
        have HOB := Lib.hid hob
        obtain ⟨i0, hi0, hz0, hz1, hz2⟩ := info_parts infoString
        have HK5 := Lib.hid k5
        clear hW5 k5 he5 hm5 hlt5 hbw5 hob hcx
        go_loopg [8, 12] (M - f) (fun g fv jv wq => ∃ (f' : Nat) (j : Int) (cv : Value) (cs : List ByteArray), f' + g = M ∧ 0 ≤ j ∧ j ≤ f' ∧ f + cs.length = f' ∧ fv = .int .i64 f' ∧ jv = .int .i64 j ∧ EAt W5 eb nm cv cs wq)
        case atStart => exact ⟨f, 0, _, [], by omega, by omega, by omega, rfl, rfl, rfl, HE5.out⟩
        case round =>
          clear HE5
          obtain ⟨f', j, cv, cs, hfg, hj0, hjf, hfc, rfl, rfl, hq⟩ := hrel
          have HQ := Lib.hid hq
          have e1 := hq.c1
          have ef := hq.f1
          have hze : eb + 1 ≤ wr.heap.size := by have := hq.keeps.size; omega
          have hlt1 : eb < wr.heap.size := hze
          have hcl : cs.length ≤ 100 := by omega
          by_cases hgo : j < kk ∧ f' < M
          · obtain ⟨b3, o3, sj, hbo, hsj, hsz, hB3, hc3⟩ := HCS.out.one (i := f') (by have := HM.out; omega)
            subst hbo
            have x3 := hq.keeps.cell ((HB5.out.cell (p := ⟨b3, o3 + f', none⟩) hB3).trans hc3) (by omega)
            have hb3 : b3 < wr.heap.size := World.block_lt_of_cell? wr ⟨b3, o3 + f', none⟩ x3
            obtain ⟨hjk, hfM2⟩ := hgo
            clear hsj hc3 hq
            go_wp2_with fail
            go_region_law ((refine step_append_lies _ (by rfl) _ _ _ (by rfl) (eb + 1) 9 i0 _ 1 16 Tryz.underlying22 hi0 hz0 hz1 hz2 rfl (by decide) cv _ _ (by rfl) (by exact own_drew (HQ.out.own.alloc _)) ⟨wr.heap.size, 0, none⟩ 1 1 [.string sj] (by rfl) (by rfl) (World.news_of_block (cs := #[.string sj]) (t := 9) (fr := (0, 0)) (by exact alloc_law wr _)) (by simp [Value.oneCell']) (by omega) (by unfold maxLen; omega) (by omega) (by simp; omega) (wr.heap.size + 1) (by simp) ?_; intro g4 cap4 w4 hown hgrow0 hat hlt4; have hgrow := grow_drew hgrow0; have hgc := HQ.out.grown hgrow; have p1 := hgc.1; have p2 := hgc.2; have HG := Lib.hid (And.intro hown hgrow); clear hown hgrow hgrow0 hat hgc))
            all_goals
              have hqn := HQ.out.push hz5 hsz HG.out.1 HG.out.2
              generalize w4.setCell ⟨eb, 1, none⟩ (.slice (some ⟨g4, 0, none⟩) (cs.length + 1) cap4) = w5 at hqn ⊢
              have HQN := Lib.hid hqn
              clear hqn p1 p2 HG e1 ef x3 hlt4
              go_wp2
              go_roundg (M - (f' + 1))
              case measure => omega
              case rel => exact ⟨f' + 1, j + 1, _, cs ++ [sj], by omega, by omega, by omega, by simp; omega, by go_num, by go_num, HQN.out⟩
          · obtain ⟨co, cc, rfl⟩ := own_shape hq.own
            have d2 := hq.c2
            have d3 := hq.c3
            have d0 := hq.c0
            have hall : Keeps (fun k => eb ≤ k) _ wr := ((HK5.out).mono (fun _ _ h => h.elim)).trans (hq.keeps.mono (fun k _ h => by omega))
            have hmn := HMK.out.keep hall (fun k hk => by rw [HEB.out]; exact hk)
            have hnc : NamesIn (fun k => k < wr.heap.size ∧ k ≠ w1.heap.size ∧ ev.ownBlock ≠ some k) wr (.slice co cs.length cc) cs := (names_of_own2 hq.own hq.small).mono (fun k hk => ⟨hk.2, by omega, fun e => by have := HOB.out k e; omega⟩)
            have HMN := Lib.hid hmn
            have HNC := Lib.hid hnc
            have dp := hmn.prog.c0
            have hpw : w1.heap.size < wr.heap.size := by omega
            obtain ⟨L, hL⟩ : ∃ L, cs.length = L := ⟨_, rfl⟩
            have HL := Lib.hid hL
            have htl2 := HTL.out
            obtain ⟨j0, hj0', hjz, hjs, hjb⟩ := info_parts infoEnum
            rw [hL] at e1 hfc
            clear hall hmn hnc hq hcl ef hL hi0 hz0 hz1 hz2 i0
            have hgo2 : ¬ (j < kk) ∨ (j < kk ∧ ¬ f' < M) := by
              by_cases h1 : j < kk
              · exact .inr ⟨h1, fun h2 => hgo ⟨h1, h2⟩⟩
              · exact .inl h1
            clear hgo
            rcases hgo2 with hj1 | ⟨hj1, hf1⟩
            all_goals
              go_wp2_with (at_builtin; refine wpList_append_lies _ rfl (.tmp 73) (.tmp 75) 25 rfl (w1.heap.size + 1) 32 j0 _ 4 56 Tryz.underlying25 hj0' hjz hjs hjb rfl (by decide) ev _ _ rfl (HMN.out.prog.own.alloc _) ⟨wr.heap.size, 0, none⟩ 1 1 [.string nm, .slice co L cc, .int .i64 0, .int .i64 0] rfl rfl ?_ ?_ (by omega) ?_ ?_ ?_ _ rfl ?_; rotate_left 5; intro g2 cap2 w8 hown8 hgrow hat hlt2; have hgc := HMN.out.prog.grown hgrow; have p1 := hgc.1; have p2 := hgc.2; have HG := Lib.hid (And.intro hown8 (And.intro hgrow (show ev.ownBlock = some g2 ∨ g2 = wr.heap.size + 1 by simpa using hat))); clear hown8 hgrow hat hgc)
              · have hpn := HMN.out.push (x := ⟨nm, hnm, .slice co L cc, cs, 0, 0⟩) (by rw [← HL.out]; exact HNC.out) HG.out.1 HG.out.2.1 HG.out.2.2
                have hpn2 : MkAt w1 w1.heap.size (ts ++ [⟨nm, hnm, .slice co L cc, cs, 0, 0⟩]) f' (.slice (some ⟨g2, 0, none⟩) (ts.length + 1) cap2) (w8.setCell ⟨w1.heap.size, 0, none⟩ (.slice (some ⟨g2, 0, none⟩) (ts.length + 1) cap2)) := by
                  have e : f + (En.mk nm hnm (.slice co L cc) cs 0 0).cs.length = f' := by show f + cs.length = f'; rw [HL.out]; exact hfc
                  rw [← e]
                  exact hpn
                have HPN := Lib.hid hpn2
                clear hpn hpn2 HG p1 p2 d0 d2 d3 e1 dp hj0' hjz hjs hjb
                go_roundg (N - (i + 1))
                case measure => omega
                case rel => exact ⟨i + 1, f', ts ++ [⟨nm, hnm, .slice co L cc, cs, 0, 0⟩], _, by omega, by go_num, rfl, by omega, by rw [List.length_append, List.length_singleton, HTL.out], by have h := HPN.out; rw [HTL.out] at h; exact h⟩
              all_goals first
                | omega
                | (unfold maxLen; omega)
                | (intro jj u hj; rcases jj with _ | _ | _ | _ | jj <;> simp at hj <;> subst hj <;> simp [Addr.add, go_sem])
                | (intro u hu; simp at hu; rcases hu with rfl | rfl | rfl | rfl <;> rfl)
                | exact ⟨rfl, rfl, rfl⟩
                | (simp; omega)
    · obtain rfl : i = N := by omega
      have hrow := HMK.out.row
      have hpb : w1.heap.size < wr.heap.size := World.block_lt_of_cell? wr ⟨w1.heap.size, 0, none⟩ HMK.out.prog.c0
      have d0 := HMK.out.prog.c0
      have d1 := HMK.out.prog.c1
      have g0 := HMK.out.prog.f0
      have g1 := HMK.out.prog.f1
      have htot := HMK.out.tot
      have HROW := Lib.hid hrow
      have hbw : Below w.heap.size w wr := bt rfl HB1.out HMK.out.prog.below
      have HBW := Lib.hid hbw
      have hwp : w.heap.size ≤ w1.heap.size := HB1.out.size
      clear hrow hbw
      go_wp2_with fail
      refine (placed_any _ wr (fun k hk => hk.1) ev ts HROW.out (by have := HTL.out; omega)).mono ?_
      rintro e w3 ⟨ev2, rfl, hb3, hrow3⟩
      obtain ⟨eo, ec, rfl⟩ := hrow3.form
      have p0 := (hb3.cell (p := ⟨w1.heap.size, 0, none⟩) hpb).trans d0
      have p1 := (hb3.cell (p := ⟨w1.heap.size, 1, none⟩) hpb).trans d1
      have q0 := (hb3.frozen (p := ⟨w1.heap.size, 0, none⟩) hpb).trans g0
      have q1 := (hb3.frozen (p := ⟨w1.heap.size, 1, none⟩) hpb).trans g1
      have HR3 := Lib.hid hrow3
      have HB3 := Lib.hid (bt' HBW.out hb3)
      have hz3 := hb3.size
      clear hrow3 hb3 d0 d1 g0 g1
      go_wp2_with fail
      obtain ⟨P, hP⟩ : ∃ P, (place ts 0).length = P := ⟨_, rfl⟩
      have HPL := Lib.hid hP
      have hPle : P ≤ 1000 := by rw [place_len, HTL.out] at hP; omega
      have hflat : ((place ts 0).flatMap En.cs).length ≤ 1000 := by rw [place_cs, htot]; omega
      rw [hP] at HR3 ⊢
      have ks : Keeps (fun k => k = w1.heap.size) w3 ((w3.setCell ⟨w1.heap.size, 0, none⟩ (.slice eo P ec)).setCell ⟨w1.heap.size, 1, none⟩ (.slice none 0 0)) := ((Keeps.refl (fun k => k = w1.heap.size) w3).setCell (p := ⟨w1.heap.size, 0, none⟩) rfl _).setCell (p := ⟨w1.heap.size, 1, none⟩) rfl _
      have v0 : ((w3.setCell ⟨w1.heap.size, 0, none⟩ (.slice eo P ec)).setCell ⟨w1.heap.size, 1, none⟩ (.slice none 0 0)).cell? ⟨w1.heap.size, 0, none⟩ = some (.slice eo P ec) := by simp [go_sem, p0]
      have v1 : ((w3.setCell ⟨w1.heap.size, 0, none⟩ (.slice eo P ec)).setCell ⟨w1.heap.size, 1, none⟩ (.slice none 0 0)).cell? ⟨w1.heap.size, 1, none⟩ = some (.slice none 0 0) := by simp [go_sem, p1]
      generalize (w3.setCell ⟨w1.heap.size, 0, none⟩ (.slice eo P ec)).setCell ⟨w1.heap.size, 1, none⟩ (.slice none 0 0) = w4 at ks v0 v1 ⊢
      have hrow4 : EnRow (fun k => k < w4.heap.size) w4 (.slice eo P ec) (place ts 0) :=
        (HR3.out.keep (w' := w4) (fun b o v hB hc => ks.cell hc (by rcases hB.1 with h | h; exact h.2; omega))).mono fun k hk => Nat.lt_of_lt_of_le hk.2 ks.size
      have hb4 : Below w.heap.size w w4 := by
        have hB := HB3.out
        refine ⟨ks.os.trans hB.os, ks.tape.trans hB.tape, ks.output.trans hB.output, Nat.le_trans hB.size ks.size, fun j hj => ?_⟩
        rw [ks.block j (Nat.lt_of_lt_of_le hj hB.size) (by omega), hB.block j hj]
      have HR4 := Lib.hid hrow4
      have HB4 := Lib.hid hb4
      have hpl4 : w1.heap.size < w4.heap.size := World.block_lt_of_cell? w4 ⟨w1.heap.size, 0, none⟩ v0
      clear ks hrow4 hb4 p0 p1 q0 q1 hP htot hz3
      refine (check_enums w4 _ (place ts 0) HR4.out (by rw [HPL.out]; exact hPle) hflat).mono ?_
      rintro e w5 ⟨r, rfl, hf5, hb5⟩
      have HF5 := Lib.hid hf5
      have HB5 := Lib.hid (bt' HB4.out hb5)
      have HR5 := Lib.hid (HR4.out.below hb5)
      have a0 := (hb5.cell (p := ⟨w1.heap.size, 0, none⟩) hpl4).trans v0
      have a1' := (hb5.cell (p := ⟨w1.heap.size, 1, none⟩) hpl4).trans v1
      clear hf5 hb5 v0 v1
      go_wp2_with fail
      refine (rcheck_any w5 _ (place ts 0) HR5.out (by rw [HPL.out]; exact hPle) hflat).mono ?_
      rintro e w6 ⟨rfl, hb6⟩
      have HF6 := Lib.hid (HF5.out.below hb6)
      have HB6 := Lib.hid (bt' HB5.out hb6)
      clear hb6 a0 a1'
      generalize posE (firstBad (place ts 0) [] []) = fo at HF6 HF5 ⊢
      go_wp2_with fail
      generalize hW7 : w6.alloc (.cells #[.int .i64 (ll fo), .int .i64 (lc' fo)] 30) = w7
      have hb7 : Below w6.heap.size w6 w7 := by rw [← hW7]; exact (Below.refl _ _).alloc (Nat.le_refl _) _
      have x0 : w7.cell? ⟨w6.heap.size, 0, none⟩ = some (.int .i64 (ll fo)) := by rw [← hW7]; simp [go_sem]
      have x1 : w7.cell? ⟨w6.heap.size, 1, none⟩ = some (.int .i64 (lc' fo)) := by rw [← hW7]; simp [go_sem]
      have htb : w6.heap.size < w7.heap.size := by rw [← hW7]; simp
      have HF7 := Lib.hid (HF6.out.below hb7)
      have HB7 := Lib.hid (bt' HB6.out hb7)
      generalize w6.heap.size = tb at x0 x1 htb ⊢
      have HKD := Lib.hid (show ∀ w', Below w7.heap.size w7 w' → Calls Tryz.prog 10 #[r] w' (fun e w'' => e = .returned (.int .i64 (lk fo)) ∧ Below w7.heap.size w7 w'') from fun w' hb =>
        (kind_fault fo r w' (HF7.out.below hb)).mono fun e w'' h => ⟨h.1, hb.trans (h.2.mono hb.size)⟩)
      have HWD := Lib.hid (show ∀ w', Below w7.heap.size w7 w' → Calls Tryz.prog 11 #[r] w' (fun e w'' => e = .returned (.agg #[.int .i64 (ll fo), .int .i64 (lc' fo)]) ∧ Below w7.heap.size w7 w'') from fun w' hb =>
        (where_fault fo r w' (HF7.out.below hb)).mono fun e w'' h => ⟨h.1, hb.trans (h.2.mono hb.size)⟩)
      have HC := Lib.hid (show ∀ w', Below w7.heap.size w7 w' → w'.cell? ⟨tb, 0, none⟩ = some (.int .i64 (ll fo)) ∧ w'.cell? ⟨tb, 1, none⟩ = some (.int .i64 (lc' fo)) from fun w' hb => ⟨(hb.cell (p := ⟨tb, 0, none⟩) htb).trans x0, (hb.cell (p := ⟨tb, 1, none⟩) htb).trans x1⟩)
      have hb0 : Below w7.heap.size w7 w7 := Below.refl _ _
      clear hW7 hb7
      generalize lk fo = vk at HKD ⊢
      generalize ll fo = vl at HWD HC x0 ⊢
      generalize lc' fo = vc at HWD HC x1 ⊢
      go_region_held3 (fun w' => w'.cell? ⟨tb, 0, none⟩ = some (.int .i64 vl) ∧ w'.cell? ⟨tb, 1, none⟩ = some (.int .i64 vc))
        (first
          | go_keep
          | exact HC.out _ (by assumption)
          | exact HC.out _ (Below.drew (by assumption)))
        ((first
          | (go_at_call 10; refine (HKD.out _ (by first | assumption | exact Below.drew (by assumption))).mono ?_; rintro e wa ⟨rfl, hba⟩)
          | (go_at_call 11; refine (HWD.out _ (by first | assumption | exact Below.drew (by assumption))).mono ?_; rintro e wb ⟨rfl, hbb⟩)))
      have HBB := Lib.hid (bt' HB7.out hbb)
      clear hba hbb x0 x1 hb0
      go_wp2
      go_ret
      first
        | exact ⟨rfl, HBB.out⟩
        | exact ⟨rfl, HBB.out.drew⟩

set_option maxRecDepth 100000 in
theorem contract (H : Type) (enc : TypeId × Value → H) (W : World) (base : Nat) (args : Array Value) (ds gs : List (DataW H)) (before : List MemPlace)
    (hval : ∀ (j : Nat) t v, Tryz.f3.params[j]? = some t → args[j]? = some v → Value.okWide Tryz.prog W .any base t v)
    (hW : DataW.Whole enc Tryz.prog Tryz.f3.params.toList Rows.namesEnumsSpec.vars false W args.toList ds gs before) (hL : laidMetH Tryz.prog Rows.namesEnumsRow.laid W) :
    Calls Tryz.prog 3 args W fun e W' => ∃ v, e = .returned v ∧ Rows.namesEnumsSpec.post enc Tryz.prog Tryz.f3 false true false false W args v W' := by
  have hW' := hW
  obtain ⟨p, q, hA0, hV, rfl, hfz, hnd⟩ := hW
  have hA : DataW.TrodAll enc Tryz.prog W 0 (fun _ => true) true Tryz.f3.params.toList args.toList ds p := hA0
  rw [Tryz.params3] at hA hval
  obtain ⟨v0, vs0, d0, ds0, p0, q0, hargs, rfl, rfl, h0, r0⟩ := trodAll_cons hA
  obtain ⟨v1, vs1, d1, ds1, p1, q1, rfl, rfl, rfl, h1, r1⟩ := trodAll_cons r0
  obtain ⟨v2, vs2, d2, ds2, p2, q2, rfl, rfl, rfl, h2, r2⟩ := trodAll_cons r1
  obtain ⟨rfl, rfl, rfl⟩ := trodAll_nil r2
  obtain rfl : args = #[v0, v1, v2] := by cases args; simp_all
  obtain ⟨rfl, rfl⟩ := trodVars_none hV
  have k0 := h0
  have lt0 : ∀ x ∈ p0, x.block < W.heap.size := by obtain ⟨m, hm⟩ := k0; exact DataW.trod_lt m _ _ _ hm
  obtain ⟨_, ns0, rfl, hn0⟩ := Tx.open_names (hval 0 22 v0 rfl rfl) h0
  have k1 := h1
  have lt1 : ∀ x ∈ p1, x.block < W.heap.size := by obtain ⟨m, hm⟩ := k1; exact DataW.trod_lt m _ _ _ hm
  obtain ⟨_, ns1, rfl, hn1⟩ := Tx.open_names (hval 1 22 v1 rfl rfl) h1
  obtain ⟨a2, len2, cap2, rfl⟩ := okWide_slice Tryz.underlying23 (hval 2 23 v2 rfl rfl)
  have k2 := h2
  have lt2 : ∀ x ∈ p2, x.block < W.heap.size := by obtain ⟨m, hm⟩ := k2; exact DataW.trod_lt m _ _ _ hm
  obtain ⟨z2, w2⟩ : ∃ zs, IsRow .u8 W a2 len2 cap2 zs := by
    obtain ⟨fuel, hf⟩ := h2
    rcases open_ints Tryz.underlying23 Tryz.underlying5 (by kernel_rfl) hf with ⟨hcs, _⟩ | ⟨x, l, c, zs, hcs, _, hl, hm, hz, _, hcell, hwz⟩
    · simp [Value.cells] at hcs
      obtain ⟨rfl, rfl, rfl⟩ := hcs
      exact ⟨[], .inl ⟨rfl, rfl, rfl, rfl⟩⟩
    · simp [Value.cells] at hcs
      obtain ⟨rfl, rfl, rfl⟩ := hcs
      exact ⟨zs, .inr ⟨_, rfl, hl, hm, by simpa using hz, hcell, hwz⟩⟩
  clear hA0
  simp only [List.append_nil] at hW'
  refine (walk v0 ns0 v1 ns1 a2 len2 cap2 z2 W hn0 hn1 w2).mono fun e W' ⟨he, bel⟩ => ?_
  subst he
  exact ⟨_, rfl, _, _, _, [], _, [], hW', trodAll_mk1 (shut_bool Tryz.underlying4 _), (trodAll_cons_mk (Below.trod laidOut (by kernel_rfl) (of_decide_eq_true (by kernel_rfl)) k0 bel lt0) (trodAll_cons_mk (Below.trod laidOut (by kernel_rfl) (of_decide_eq_true (by kernel_rfl)) k1 bel lt1) (trodAll_cons_mk (Below.trod laidOut (by kernel_rfl) (of_decide_eq_true (by kernel_rfl)) k2 bel lt2) trodAll_mk0))), rfl, bel.frame _, fun h => by cases h⟩

noncomputable def laidWorld (os : Os) : World :=
  { World.holding Tryz.prog os ⟨#[], #[], []⟩ with heap := (World.holding Tryz.prog os ⟨#[], #[], []⟩).heap.modify 0 fun
      | .cells _ t frozen => .cells #[.iface 257 (.agg #[.pointer (some ⟨1, 35, none⟩)])] t frozen
      | o => o }
theorem laid_met (os : Os) : laidMetH Tryz.prog Rows.namesEnumsRow.laid ((laidWorld os).forCall (fun _ _ => 0) ⟨#[], #[.slice none 0 0, .slice none 0 0, .slice none 0 0], []⟩).memory :=
  laidMetH_of_parts (laidMet_nil _ _) (by kernel_rfl)
theorem reads (os : Os) {H : Type} (enc : TypeId × Value → H) : ∃ places, DataW.whole enc Tryz.prog ((laidWorld os).forCall (fun _ _ => 0) ⟨#[], #[.slice none 0 0, .slice none 0 0, .slice none 0 0], []⟩).memory Tryz.f3.params.toList Rows.namesEnumsSpec.vars false (#[.slice none 0 0, .slice none 0 0, .slice none 0 0] : Array Value).toList 8 = some ([.nil, .nil, .nil], [], places) :=
  ⟨[], by kernel_rfl⟩

set_option maxRecDepth 100000 in
theorem lifted (os : Os) (started : os.Started) (H : Type) (enc : TypeId × Value → H) (F : Stop.Interp) :
    ReturnsInHanded {} Tryz.checked os 3 .any ((OpenSpec.ofChange Rows.namesEnumsSpec).preRow enc Tryz.prog Tryz.f3 Rows.namesEnumsRow.domain false Rows.namesEnumsRow.laid) (((OpenSpec.ofChange Rows.namesEnumsSpec).at F).post enc Tryz.prog Tryz.f3 false true false false) := by
  obtain ⟨places, hx⟩ := reads os enc
  refine returnsInHanded_of_row (C := Tryz.checked) (s := OpenSpec.ofChange Rows.namesEnumsSpec) own started (by kernel_rfl) Tryz.func3
    (witness_row_at (enc := enc) (C := Tryz.checked) false (laidWorld os) #[.slice none 0 0, .slice none 0 0, .slice none 0 0] rfl (by kernel_rfl) (by kernel_rfl) (by kernel_rfl)
      (OpenSpec.preRow_of_cond 8 hx (by kernel_rfl) (fun k hk => by cases hk) (by kernel_rfl) (laid_met os))) ?_
  intro W base args ds gs before hval hW _ _ _ hL _ _
  exact contract H enc W base args ds gs before hval hW hL

theorem said : Rows.NamesEnumsSaid :=
  OpenClaim.holds_of_cond 3 Tryz.f3 rfl rfl rfl rfl rfl rfl rfl ⟨rfl, rfl, rfl, rfl, rfl⟩ rfl rfl rfl rfl rfl (by kernel_rfl) Tryz.func3 (by kernel_rfl)
    (of_decide_eq_true (by kernel_rfl)) (by unfold Func.isWrapper; first | (rw [if_pos (by decide +kernel)]; kernel_rfl) | (rw [if_neg (by decide +kernel)]; exact ⟨rfl, rfl⟩))
    (fun os started H enc _ F => by rw [OpenClaim.pre_eq_preRow]; exact lifted os started H enc F)

theorem plain (f : FuncId) (fn : Func) (hf : Tryz.pinned.checked.prog.funcNamed "metronome/metronomelaw07.NamesEnums" = some f) (hfn : Tryz.pinned.checked.prog.funcs[f]? = some fn) :
    true = Tryz.pinned.checked.prog.looks [] ∧ ∀ (j : Nat) t, fn.params[j]? = some t → Tryz.pinned.checked.prog.wantsStandIn t = false := by
  obtain rfl : f = 3 := Option.some.inj ((show Tryz.prog.funcNamed "metronome/metronomelaw07.NamesEnums" = some 3 by kernel_rfl).symm.trans hf) |>.symm
  obtain rfl : fn = Tryz.f3 := (Option.some.inj (Tryz.func3.symm.trans hfn)).symm
  refine ⟨by kernel_rfl, fun j t ht => ?_⟩
  rw [Tryz.params3] at ht
  have hmem : t = 22 ∨ t = 22 ∨ t = 23 := by simpa using Array.mem_of_getElem? ht
  rcases hmem with rfl | rfl | rfl
  · exact (show Tryz.prog.wantsStandIn 22 = false by kernel_rfl)
  · exact (show Tryz.prog.wantsStandIn 22 = false by kernel_rfl)
  · exact (show Tryz.prog.wantsStandIn 23 = false by kernel_rfl)

theorem card : Rows.NamesEnumsCardSaid :=
  Claim7.holds_tied_plain_at .later [] _ _ _ _ said (fun _ h => by cases h) (by kernel_rfl) (fun _ h => by cases h) namesEnums_row_tie rfl ⟨rfl, rfl⟩ (by kernel_rfl) rfl plain (by kernel_rfl)
#print axioms card
end Go.Proofs.YtecfknbhnhcioaaGreatDoor.namesEnums
