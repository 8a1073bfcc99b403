/- LexJoins: no words at all. -/
import Derived.Test.YtlmfjaaooklhnaaLJf
namespace Go.Proofs.Ytlmfjaaooklhnaa
open Go.ChangeShapes Go.WideShapes Go.ChangeAt Go.RowKit
set_option linter.unusedVariables false
set_option linter.unusedSimpArgs false
set_option maxRecDepth 100000 in
set_option maxHeartbeats 8000000 in
theorem joins_none (a0 : Option Addr) (cap0 : Nat) (a1 : Option Addr) (n1 cap1 : Nat) (W : World) :
    Calls Try.prog 3 #[.slice a0 0 cap0, .slice a1 n1 cap1] W fun e w' => e = .returned (.bool true) ∧ Below W.heap.size W w' := by
  obtain ⟨i0, hi, hz0', hz1', hz2'⟩ := info_parts infoStr
  go_enter Try.func3, Try.ntmps3
  go_wp2_with (go_at_call 5; refine (awake_any _).mono ?_; rintro e w3 ⟨rfl, hb3⟩)
  go_loopw [5, 6, 7] (fun tv wv iv wr => ∃ (j : Nat) (t : ByteArray) (ss : List ByteArray), j ≤ 0 ∧ iv = .int .i64 j ∧ Made W j tv wv wr t ss) (fun _ _ iv _ => 0 - (intOf iv).toNat)
  case atStart => exact ⟨0, _, [], by omega, rfl, Made.start W w3 hb3⟩
  case round =>
    obtain ⟨j, t, ss, hj, rfl, hM⟩ := hrel
    obtain rfl := hM.tx
    have zt := hM.size
    have hbl := hM.below
    have HM := Lib.hid hM
    clear hM
    by_cases hlt : j < 0
    · exact absurd hlt (Nat.not_lt_zero _)
    · have hj40 : j ≤ 40 := by omega
      obtain rfl : j = 0 := by omega
      obtain ⟨ao, cw, rfl⟩ := HM.out.form0
      obtain ⟨ws, hwl, hwm, hwf, hjl, ht, hjn⟩ := HM.out.lexed hj40
      have HT := Lib.hid ht
      have HJN := Lib.hid hjn
      have HWM := Lib.hid hwm
      have HWF := Lib.hid hwf
      have HWL := Lib.hid hwl
      have hkl : (ws ++ [((0 : Int), ([] : List UInt8), (0 : Int))]).length = 0 + 1 := by simp [hwl]
      have HKL := Lib.hid hkl
      have hss : ∀ s ∈ ss, s.size ≤ 32 := fun s hs => fine_size (HM.out.fine s hs)
      have HSS := Lib.hid hss
      clear ht hjn hwm hwf hwl hkl hss HM zt
      go_wp2_with fail
      refine (HT.out _).mono ?_
      rintro e w5 ⟨g, cap, ts, rfl, hk, ht5, hg5, hcap5, hb5⟩
      have HK5 := Lib.hid hk
      have HT5 := Lib.hid ht5
      have hbl5 : Below W.heap.size W w5 := hbl.trans (hb5.mono hbl.size)
      rw [HKL.out] at hcap5 ⊢
      clear hk ht5 HT hbl hb5
      go_wp2
      go_loopw [12, 13] (fun jv iv wr => ∃ (i : Nat) (jd : ByteArray), i ≤ 0 ∧ iv = .int .i64 i ∧ jv = .string jd ∧ jd.data.toList = Jn (ws.take i) ∧ Below w5.heap.size w5 wr) (fun _ iv _ => 0 - (intOf iv).toNat)
      case atStart => exact ⟨0, ⟨#[]⟩, by omega, rfl, rfl, rfl, Below.refl _ _⟩
      case round =>
        obtain ⟨i, jd, hi, rfl, rfl, hjd, hbi⟩ := hrel
        have hjz : jd.size ≤ 2000 := by
          have h1 := jn_len (ws.take i) (fun x hx => (HWF.out x (List.mem_of_mem_take hx)).2)
          have h2 : (ws.take i).length ≤ i := List.length_take_le _ _
          rw [size_list', hjd]
          omega
        have HJD := Lib.hid hjd
        clear hjd
        by_cases hin : i < 0
        · exact absurd hin (Nat.not_lt_zero _)
        · have hjd : (⟨(Jn ws).toArray⟩ : ByteArray) = jd := by
            have e1 : ws.take i = ws := List.take_of_length_le (by rw [HWL.out]; omega)
            have := HJD.out
            rw [e1] at this
            rw [← this, mk_toList]
          have HJo := Lib.hid (show ∀ W', TokAt W' g ts → g < W'.heap.size → Calls Try.prog 8 #[.slice (some ⟨g, 0, none⟩) (0 + 1) cap] W' (fun e w' => e = .returned (.string jd) ∧ Below W'.heap.size W' w') from fun W' h1 h2 => by
            have := join_any W' g cap ts ws h1 HK5.out HWF.out (by rw [HWL.out]; exact hj40) h2 (by rw [HWL.out]; exact hcap5)
            rw [HWL.out, hjd] at this
            exact this)
          have HWo := Lib.hid (show ∀ W', Calls Try.prog 7 #[.string jd] W' (TokOut (ws ++ [(0, [], 0)]) W') from fun W' => by rw [← hjd]; exact HJN.out W')
          have hgr : g < wr.heap.size := Nat.lt_of_lt_of_le hg5 hbi.size
          have HTr := Lib.hid (HT5.out.below hbi hg5)
          have hblr := hbl5.trans (hbi.mono hbl5.size)
          clear hjd HJN HJD HSS
          go_wp2_with fail
          refine (HJo.out _ HTr.out hgr).mono ?_
          rintro e w6 ⟨rfl, hb6⟩
          go_wp2_with fail
          refine (HWo.out _).mono ?_
          rintro e w7 ⟨g', cap', ts', rfl, hk, ht7, hg7, hcap7, hb7⟩
          have HK7 := Lib.hid hk
          have HT7' := Lib.hid ht7
          have hb67 : Below wr.heap.size wr w7 := hb6.trans (hb7.mono hb6.size)
          have HTg := Lib.hid (HTr.out.below hb67 hgr)
          have hgg : g < w7.heap.size := Nat.lt_of_lt_of_le hgr hb67.size
          have hbl7 := hblr.trans (hb67.mono hblr.size)
          rw [HKL.out] at hcap7 ⊢
          clear hk ht7 HTr hgr hb6 hb7
          go_wp2_with (go_at_call 8; refine (HJo.out _ HTg.out hgg).mono ?_; rintro e w8 ⟨rfl, hb8⟩)
          have hbl8 := hbl7.trans (hb8.mono hbl7.size)
          have HTg8 := Lib.hid (HTg.out.below hb8 hgg)
          have HT8 := Lib.hid (HT7'.out.below hb8 hg7)
          have hg8 : g < w8.heap.size := Nat.lt_of_lt_of_le hgg hb8.size
          have hg8' : g' < w8.heap.size := Nat.lt_of_lt_of_le hg7 hb8.size
          clear HTg HT7' hb8 hbl7 hgg hg7 hb67
          go_loopw [15] (fun iv wr => ∃ i : Nat, i ≤ 0 + 1 ∧ iv = .int .i64 i ∧ Below w8.heap.size w8 wr) (fun iv _ => 0 + 1 - (intOf iv).toNat)
          case atStart => exact ⟨0, by omega, rfl, Below.refl _ _⟩
          case round =>
            obtain ⟨q, hq, rfl, hbq⟩ := hrel
            by_cases hqn : q < 0 + 1
            · obtain ⟨tk, tk', q1, q2, q3, q4, q5⟩ := keys_alike HK5.out HK7.out (i := q) (by rw [HKL.out]; exact hqn)
              obtain ⟨c0, c1, c2, c3, c4⟩ := (HTg8.out.below hbq hg8).cells q1
              obtain ⟨d0, d1, d2, d3, d4⟩ := (HT8.out.below hbq hg8').cells q2
              rw [← q3] at d0
              rw [← q4] at d1
              rw [← q5] at d2
              clear q1 q2 q3 q4 q5
              go_wp2
              go_region_with (go_at_call 9; refine (same_true _ _ _ _ _ _ _ _).mono ?_; rintro e w9 ⟨rfl, hb9⟩)
              all_goals
                go_wp2
                go_roundw
                case rel => exact ⟨q + 1, by omega, by go_num, hbq.drew.trans (hb9.mono hbq.size)⟩
                case measure => simp [intOf]; omega
            · go_wp2
              go_ret
              exact ⟨rfl, hbl8.trans (hbq.mono hbl8.size)⟩
end Go.Proofs.Ytlmfjaaooklhnaa
