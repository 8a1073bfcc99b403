/- LexBlanks: the law's loops. -/
import Derived.Test.YtlmfjaaooklhnaaLJc
import Derived.Deep.RegionWith
import Derived.WalkSpells
namespace Go.Proofs.Ytlmfjaaooklhnaa
open Go.ChangeShapes Go.WideShapes Go.ChangeAt Go.RowKit
set_option linter.unusedVariables false
set_option linter.unusedSimpArgs false
def blankL : List (List UInt8) := [[32], [9], [10], [32, 32], [32, 45, 45, 32, 97, 32, 114, 101, 109, 97, 114, 107, 10], [10, 10, 9]]
theorem skip_blank : ∀ z ∈ blankL, Lx.Skip z := by
  have s32 := Lx.skip_one (c := 32) (by decide)
  have s9 := Lx.skip_one (c := 9) (by decide)
  have s10 := Lx.skip_one (c := 10) (by decide)
  intro z hz
  simp only [blankL, List.mem_cons, List.not_mem_nil, or_false] at hz
  rcases hz with rfl | rfl | rfl | rfl | rfl | rfl
  · exact s32
  · exact s9
  · exact s10
  · exact s32.append s32
  · exact s32.append (Lx.skip_remark [32, 97, 32, 114, 101, 109, 97, 114, 107] (by decide))
  · exact s10.append (s10.append s9)
/-- The texts that the law has built of j words. -/
def Built (j : Nat) (tv uv : Value) : Prop := ∃ (t u : ByteArray) (ws : List (Lx.Ky × Lx.Bs)), tv = .string t ∧ uv = .string u ∧ ws.length = j ∧ (∀ x ∈ ws, Lx.Fine x.1 ∧ (∃ g', x.2 = 32 :: g') ∧ Lx.Skip x.2) ∧
  t.data.toList = Lx.gapped (ws.map fun x => (x.1, [32])) ∧ u.data.toList = Lx.gapped ws ∧ t.size ≤ 50 * j ∧ u.size ≤ 50 * j
theorem Built.start : Built 0 (.string ⟨#[]⟩) (.string ⟨#[]⟩) := ⟨_, _, [], rfl, rfl, rfl, fun _ h => (by simp at h), rfl, rfl, by decide, by decide⟩
theorem Built.form {j : Nat} {tv uv : Value} (h : Built j tv uv) : ∃ t u : ByteArray, tv = .string t ∧ uv = .string u ∧ t.size ≤ 50 * j ∧ u.size ≤ 50 * j := by
  obtain ⟨t, u, _, e1, e2, _, _, _, _, e3, e4⟩ := h
  exact ⟨t, u, e1, e2, e3, e4⟩
theorem fine_size {s : ByteArray} (h : FineS s) : s.size ≤ 32 := by
  obtain ⟨k, n, h1, h2, h3⟩ := h
  rw [size_list']
  exact h2
theorem blank_len : ∀ z ∈ blankL, z.length ≤ 13 := by decide
theorem Built.next {j : Nat} {t u : ByteArray} (h : Built j (.string t) (.string u)) {s : ByteArray} (hs : FineS s) {z : List UInt8} (hz : z ∈ blankL) :
    Built (j + 1) (.string (t ++ (s ++ ⟨#[32]⟩))) (.string (u ++ (s ++ ⟨#[32]⟩ ++ ⟨z.toArray⟩))) := by
  obtain ⟨t', u', ws, e1, e2, hl, hws, ht, hu, zt, zu⟩ := h
  cases e1
  cases e2
  have hsz := fine_size hs
  obtain ⟨k, n, hf⟩ := hs
  have hzl := blank_len z hz
  refine ⟨_, _, ws ++ [((k, s.data.toList, n), 32 :: z)], rfl, rfl, by simp [hl], ?_, ?_, ?_, ?_, ?_⟩
  · intro x hx
    simp only [List.mem_append, List.mem_singleton] at hx
    rcases hx with hx | rfl
    · exact hws x hx
    · exact ⟨hf, ⟨z, rfl⟩, (Lx.skip_one (c := 32) (by decide)).append (skip_blank z hz)⟩
  · simp [ht, Lx.gapped]
  · simp [hu, Lx.gapped]
  · simp only [ByteArray.size_append]
    have : (ByteArray.mk #[32]).size = 1 := rfl
    omega
  · simp only [ByteArray.size_append]
    have : (ByteArray.mk #[32]).size = 1 := rfl
    have : (ByteArray.mk z.toArray).size = z.length := by simp [ByteArray.size]
    omega
theorem Built.lexed {j : Nat} {t u : ByteArray} (h : Built j (.string t) (.string u)) (hj : j ≤ 40) : ∃ ks : List Lx.Ky, ks.length = j + 1 ∧
    (∀ W, Calls Try.prog 7 #[.string t] W (TokOut ks W)) ∧ ∀ W, Calls Try.prog 7 #[.string u] W (TokOut ks W) := by
  obtain ⟨t', u', ws, e1, e2, hl, hws, ht, hu, zt, zu⟩ := h
  cases e1
  cases e2
  refine ⟨ws.map (·.1) ++ [(0, [], 0)], by simp [hl], fun W => ?_, fun W => words_gapped ws hws _ hu (by omega) W⟩
  have := words_gapped (ws.map fun x => (x.1, [32])) (fun x hx => by
    simp only [List.mem_map] at hx
    obtain ⟨y, hy, rfl⟩ := hx
    exact ⟨(hws y hy).1, ⟨[], rfl⟩, Lx.skip_one (c := 32) (by decide)⟩) _ ht (by omega) W
  simpa [Function.comp_def] using this
/-- The cells of a word, one by one. -/
theorem TokAt.cells {w : World} {g : Nat} {ts : List Lx.Tok} (h : TokAt w g ts) {i : Nat} {t : Lx.Tok} (hi : ts[i]? = some t) :
    w.cell? ⟨g, i * 5, none⟩ = some (.int .u8 t.k) ∧ w.cell? ⟨g, i * 5 + 1, none⟩ = some (.string ⟨t.t.toArray⟩) ∧ w.cell? ⟨g, i * 5 + 2, none⟩ = some (.int .i32 t.n) ∧ w.cell? ⟨g, i * 5 + 3, none⟩ = some (.int .i64 t.line) ∧ w.cell? ⟨g, i * 5 + 4, none⟩ = some (.int .i64 t.col) :=
  ⟨h i t hi 0 _ rfl, h i t hi 1 _ rfl, h i t hi 2 _ rfl, h i t hi 3 _ rfl, h i t hi 4 _ rfl⟩
theorem keys_alike {ks : List Lx.Ky} {ts ts' : List Lx.Tok} (h : ts.map Lx.key = ks) (h' : ts'.map Lx.key = ks) {i : Nat} (hi : i < ks.length) : ∃ (t t' : Lx.Tok), ts[i]? = some t ∧ ts'[i]? = some t' ∧ t.k = t'.k ∧ t.t = t'.t ∧ t.n = t'.n := by
  have l1 : ts.length = ks.length := by rw [← h]; simp
  have l2 : ts'.length = ks.length := by rw [← h']; simp
  refine ⟨ts[i], ts'[i], List.getElem?_eq_getElem (by omega), List.getElem?_eq_getElem (by omega), ?_⟩
  have e1 : Lx.key ts[i] = ks[i] := by subst h; simp
  have e2 : Lx.key ts'[i] = ks[i] := by subst h'; simp
  have e := e1.trans e2.symm
  simp only [Lx.key, Prod.mk.injEq] at e
  exact e
theorem blank_at {w : World} {T : TypeId} (m : Nat) (z : List UInt8) (h : blankL[m]? = some z) : (w.alloc (.cells (blankL.map fun z => Value.string ⟨z.toArray⟩).toArray T)).cell? ⟨w.heap.size, m, none⟩ = some (.string ⟨z.toArray⟩) := by
  rw [World.cell?_alloc_at _ _ _ _ rfl]
  simp [h]
set_option maxRecDepth 100000 in
set_option maxHeartbeats 4000000 in
theorem blanks_main (b0 o0 n0 cap0 : Nat) (a1 : Option Addr) (n1 cap1 : Nat) (W : World) (hn0 : n0 ≤ 30) (h1 : BytesAt W a1 n1) (hc0 : n0 ≤ cap0)
    (Z0 : Nat → Int) (hz0 : ∀ i, 0 ≤ Z0 i ∧ Z0 i < 256) (hcell0 : ∀ i, i < n0 → W.cell? ⟨b0, o0 + i, none⟩ = some (.int .u8 (Z0 i))) :
    Calls Try.prog 4 #[.slice (some ⟨b0, o0, none⟩) n0 cap0, .slice a1 n1 cap1] W fun e w' => e = .returned (.bool true) ∧ Below W.heap.size W w' := by
  have HC0 := Lib.hid hcell0
  have H1 := Lib.hid h1
  clear hcell0 h1
  go_enter Try.func4, Try.ntmps4
  go_wp2_with (go_at_call 5; refine (awake_any _).mono ?_; rintro e w3 ⟨rfl, hb3⟩)
  go_loopw [6, 7, 8] (fun tv uv iv wr => ∃ j : Nat, j ≤ n0 ∧ iv = .int .i64 j ∧ Built j tv uv ∧ Below W.heap.size W wr ∧ w3.heap.size < wr.heap.size ∧ ∀ (m : Nat) (z : List UInt8), blankL[m]? = some z → wr.cell? ⟨w3.heap.size, m, none⟩ = some (.string ⟨z.toArray⟩)) (fun _ _ iv _ => n0 - (intOf iv).toNat)
  case atStart => exact ⟨0, by omega, rfl, Built.start, hb3.alloc hb3.size _, by simp, fun m z h => blank_at m z h⟩
  case round =>
    obtain ⟨j, hj, rfl, hB, hbl, hsz, hbk⟩ := hrel
    obtain ⟨t, u, rfl, rfl, zt, zu⟩ := hB.form
    have HB := Lib.hid hB
    have HK := Lib.hid hbk
    clear hB hbk
    by_cases hlt : j < n0
    · have hcell := (hbl.cell (p := ⟨b0, o0 + j, none⟩) (World.block_lt_of_cell? _ _ (HC0.out j hlt))).trans (HC0.out j hlt)
      obtain ⟨z0, z1⟩ := hz0 j
      obtain ⟨z, hz⟩ : ∃ z, Z0 j = z := ⟨_, rfl⟩
      rw [hz] at hcell z0 z1
      clear hz
      have hby : ∀ o, BytesAt (wr.alloc (.cells #[.int .u8 j] o)) (some ⟨wr.heap.size, 0, none⟩) 1 := fun o => .inr ⟨_, _, rfl, fun _ => j, fun _ => ⟨Int.natCast_nonneg _, show (j : Int) < 256 by omega⟩, fun i hi => by
        obtain rfl : i = 0 := by omega
        simp [go_sem]⟩
      go_wp2_with fail
      refine (lawWord_any z z0 z1 _ 1 1 (by omega) (by omega) _ (hby _)).mono ?_
      rintro e w4 ⟨s, rfl, hs, hb4⟩
      have zs := fine_size hs
      have HS := Lib.hid hs
      clear hs hby hcell
      have hbl4 : Below W.heap.size W w4 := (hbl.alloc hbl.size _).trans (hb4.mono (by have := hbl.size; simp; omega))
      have hsz4 : w3.heap.size < w4.heap.size := by have := hb4.size; simp at this; omega
      have hk4 : ∀ (m : Nat) (z : List UInt8), blankL[m]? = some z → w4.cell? ⟨w3.heap.size, m, none⟩ = some (.string ⟨z.toArray⟩) := fun m z h =>
        (hb4.cell (p := ⟨w3.heap.size, m, none⟩) (by simp; omega)).trans ((((Below.refl wr.heap.size wr).alloc (Nat.le_refl _) _).cell (p := ⟨w3.heap.size, m, none⟩) hsz).trans (HK.out m z h))
      have HK4 := Lib.hid hk4
      clear hk4 HK hb4
      by_cases hg : j < n1
      · rcases H1.out with h | ⟨b1, o1, rfl, Z1, hz1, hcell1⟩
        · omega
        · have hcell := (hbl4.cell (p := ⟨b1, o1 + j, none⟩) (World.block_lt_of_cell? _ _ (hcell1 j hg))).trans (hcell1 j hg)
          obtain ⟨y0, y1⟩ := hz1 j
          obtain ⟨y, hy⟩ : ∃ y, Z1 j = y := ⟨_, rfl⟩
          rw [hy] at hcell y0 y1
          clear hy hcell1 hz1
          obtain ⟨m, hm⟩ : ∃ m : Nat, y % 6 = m := ⟨(y % 6).toNat, by omega⟩
          have hm6 : m < 6 := by omega
          obtain ⟨g, hgz⟩ : ∃ g, blankL[m]? = some g := ⟨_, List.getElem?_eq_getElem (show m < blankL.length from hm6)⟩
          have hgm := List.mem_of_getElem? hgz
          have hgl := blank_len g hgm
          have hbcell := HK4.out m g hgz
          have HG := Lib.hid hgm
          have HN := Lib.hid (HB.out.next HS.out hgm)
          clear hgz hgm
          have e5 : (ByteArray.mk g.toArray).size = g.length := by simp [ByteArray.size]
          go_wp2
          go_roundw
          case rel => exact ⟨j + 1, by omega, by go_num, HN.out, hbl4, hsz4, HK4.out⟩
          case measure => simp [intOf]; omega
      · have HN := Lib.hid (HB.out.next HS.out (show ([32] : List UInt8) ∈ blankL by decide))
        go_wp2
        go_roundw
        case rel => exact ⟨j + 1, by omega, by go_num, HN.out, hbl4, hsz4, HK4.out⟩
        case measure => simp [intOf]; omega
    · obtain ⟨ks, hkl, ht, hu⟩ := HB.out.lexed (by omega)
      have hk1 : ks.length ≤ 31 := by omega
      have HT := Lib.hid ht
      have HU := Lib.hid hu
      clear ht hu hkl zt zu HK HB
      go_wp2_with fail
      refine (HT.out _).mono ?_
      rintro e w5 ⟨g, cap, ts, rfl, hk, ht5, hg5, hcap5, hb5⟩
      have HK5 := Lib.hid hk
      have HT5 := Lib.hid ht5
      clear hk ht5 HT
      go_wp2_with fail
      refine (HU.out _).mono ?_
      rintro e w6 ⟨g', cap', ts', rfl, hk, ht6, hg6, hcap6, hb6⟩
      have HK6 := Lib.hid hk
      have HT6 := Lib.hid ht6
      have hbl6 : Below W.heap.size W w6 := (hbl.trans (hb5.mono hbl.size)).trans (hb6.mono (Nat.le_trans hbl.size hb5.size))
      have HT5' := Lib.hid (HT5.out.below hb6 hg5)
      have hg56 : g < w6.heap.size := Nat.lt_of_lt_of_le hg5 hb6.size
      clear hk ht6 HU HT5
      obtain ⟨N, hN⟩ : ∃ N, ks.length = N := ⟨_, rfl⟩
      have HNN := Lib.hid hN
      rw [hN] at hcap5 hcap6 hk1 ⊢
      clear hN hb5 hb6 hbl
      go_wp2
      go_loopw [15] (fun iv wr => ∃ i : Nat, i ≤ N ∧ iv = .int .i64 i ∧ Below w6.heap.size w6 wr) (fun iv _ => N - (intOf iv).toNat)
      case atStart => exact ⟨0, by omega, rfl, Below.refl _ _⟩
      case round =>
        obtain ⟨i, hi, rfl, hbi⟩ := hrel
        by_cases hin : i < N
        · obtain ⟨tk, tk', q1, q2, q3, q4, q5⟩ := keys_alike HK5.out HK6.out (i := i) (by rw [HNN.out]; exact hin)
          obtain ⟨c0, c1, c2, c3, c4⟩ := (HT5'.out.below hbi hg56).cells q1
          obtain ⟨d0, d1, d2, d3, d4⟩ := (HT6.out.below hbi hg6).cells q2
          rw [← q3] at d0
          rw [← q4] at d1
          rw [← q5] at d2
          clear q1 q2 q3 q4 q5
          go_wp2
          go_region_with (go_at_call 9; refine (same_true _ _ _ _ _ _ _ _).mono ?_; rintro e w7 ⟨rfl, hb7⟩)
          all_goals
            go_wp2
            go_roundw
            case rel => exact ⟨i + 1, by omega, by go_num, hbi.drew.trans (hb7.mono hbi.size)⟩
            case measure => simp [intOf]; omega
        · go_wp2
          go_ret
          exact ⟨rfl, hbl6.trans (hbi.mono hbl6.size)⟩
set_option maxRecDepth 100000 in
set_option maxHeartbeats 4000000 in
theorem blanks_none (a0 : Option Addr) (cap0 : Nat) (a1 : Option Addr) (n1 cap1 : Nat) (W : World) :
    Calls Try.prog 4 #[.slice a0 0 cap0, .slice a1 n1 cap1] W fun e w' => e = .returned (.bool true) ∧ Below W.heap.size W w' := by
  go_enter Try.func4, Try.ntmps4
  go_wp2_with (go_at_call 5; refine (awake_any _).mono ?_; rintro e w3 ⟨rfl, hb3⟩)
  go_loopw [6, 7, 8] (fun tv uv iv wr => ∃ j : Nat, j ≤ 0 ∧ iv = .int .i64 j ∧ Built j tv uv ∧ Below W.heap.size W wr ∧ w3.heap.size < wr.heap.size ∧ ∀ (m : Nat) (z : List UInt8), blankL[m]? = some z → wr.cell? ⟨w3.heap.size, m, none⟩ = some (.string ⟨z.toArray⟩)) (fun _ _ iv _ => 0 - (intOf iv).toNat)
  case atStart => exact ⟨0, by omega, rfl, Built.start, hb3.alloc hb3.size _, by simp, fun m z h => blank_at m z h⟩
  case round =>
    obtain ⟨j, hj, rfl, hB, hbl, hsz, hbk⟩ := hrel
    obtain ⟨t, u, rfl, rfl, zt, zu⟩ := hB.form
    have HB := Lib.hid hB
    have HK := Lib.hid hbk
    clear hB hbk
    by_cases hlt : j < 0
    · exact absurd hlt (Nat.not_lt_zero _)
    · obtain ⟨ks, hkl, ht, hu⟩ := HB.out.lexed (by omega)
      have hk1 : ks.length ≤ 31 := by omega
      have HT := Lib.hid ht
      have HU := Lib.hid hu
      clear ht hu hkl zt zu HK HB
      go_wp2_with fail
      refine (HT.out _).mono ?_
      rintro e w5 ⟨g, cap, ts, rfl, hk, ht5, hg5, hcap5, hb5⟩
      have HK5 := Lib.hid hk
      have HT5 := Lib.hid ht5
      clear hk ht5 HT
      go_wp2_with fail
      refine (HU.out _).mono ?_
      rintro e w6 ⟨g', cap', ts', rfl, hk, ht6, hg6, hcap6, hb6⟩
      have HK6 := Lib.hid hk
      have HT6 := Lib.hid ht6
      have hbl6 : Below W.heap.size W w6 := (hbl.trans (hb5.mono hbl.size)).trans (hb6.mono (Nat.le_trans hbl.size hb5.size))
      have HT5' := Lib.hid (HT5.out.below hb6 hg5)
      have hg56 : g < w6.heap.size := Nat.lt_of_lt_of_le hg5 hb6.size
      clear hk ht6 HU HT5
      obtain ⟨N, hN⟩ : ∃ N, ks.length = N := ⟨_, rfl⟩
      have HNN := Lib.hid hN
      rw [hN] at hcap5 hcap6 hk1 ⊢
      clear hN hb5 hb6 hbl
      go_wp2
      go_loopw [15] (fun iv wr => ∃ i : Nat, i ≤ N ∧ iv = .int .i64 i ∧ Below w6.heap.size w6 wr) (fun iv _ => N - (intOf iv).toNat)
      case atStart => exact ⟨0, by omega, rfl, Below.refl _ _⟩
      case round =>
        obtain ⟨i, hi, rfl, hbi⟩ := hrel
        by_cases hin : i < N
        · obtain ⟨tk, tk', q1, q2, q3, q4, q5⟩ := keys_alike HK5.out HK6.out (i := i) (by rw [HNN.out]; exact hin)
          obtain ⟨c0, c1, c2, c3, c4⟩ := (HT5'.out.below hbi hg56).cells q1
          obtain ⟨d0, d1, d2, d3, d4⟩ := (HT6.out.below hbi hg6).cells q2
          rw [← q3] at d0
          rw [← q4] at d1
          rw [← q5] at d2
          clear q1 q2 q3 q4 q5
          go_wp2
          go_region_with (go_at_call 9; refine (same_true _ _ _ _ _ _ _ _).mono ?_; rintro e w7 ⟨rfl, hb7⟩)
          all_goals
            go_wp2
            go_roundw
            case rel => exact ⟨i + 1, by omega, by go_num, hbi.drew.trans (hb7.mono hbi.size)⟩
            case measure => simp [intOf]; omega
        · go_wp2
          go_ret
          exact ⟨rfl, hbl6.trans (hbi.mono hbl6.size)⟩
end Go.Proofs.Ytlmfjaaooklhnaa
