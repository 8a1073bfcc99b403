/- The words that the laws make: letters behind a letter. -/
import Derived.Test.YtlmfjaaooklhnaaLJa
import Derived.IntWalk
namespace Go.Proofs.Ytlmfjaaooklhnaa
open Go.ChangeShapes Go.WideShapes Go.ChangeAt Go.RowKit
set_option linter.unusedVariables false
set_option linter.unusedSimpArgs false
def inL (L : List UInt8) (l : List UInt8) : Prop := ∀ c ∈ l, c ∈ L
def letters : List UInt8 := [97, 98, 99, 88, 89, 90, 48, 49, 57, 95]
def digits : List UInt8 := [48, 49, 50, 51, 52, 53, 54, 55, 56, 57]
theorem part_letters : ∀ x ∈ letters, Lx.isPart x = true := by decide
theorem digit_digits : ∀ x ∈ digits, Lx.isDigit x = true := by decide
theorem fine_great (l : List UInt8) (hl : l.length ≤ 8) (h : inL letters l) : FineS ⟨(66 :: l).toArray⟩ := by
  have := Lx.fine_name 66 l (by decide) (by decide) (by decide) (by decide) (by decide) (fun x hx => part_letters x (h x hx)) (by omega)
  have hk : Lx.isKey (66 :: l) = false := by
    unfold Lx.isKey Lx.keys
    simp
  rw [hk, if_neg (by decide), if_pos (by decide)] at this
  exact ⟨3, 0, by simpa using this⟩
theorem fine_small (l : List UInt8) (hl : l.length ≤ 8) (h : inL letters l) : FineS ⟨(97 :: l).toArray⟩ := by
  have := Lx.fine_name 97 l (by decide) (by decide) (by decide) (by decide) (by decide) (fun x hx => part_letters x (h x hx)) (by omega)
  have hk : Lx.isKey (97 :: l) = false := by
    unfold Lx.isKey Lx.keys
    cases l with
    | nil => decide
    | cons c r =>
      have hc := h c (by simp)
      simp only [letters, List.mem_cons, List.not_mem_nil, or_false] at hc
      rcases hc with rfl | rfl | rfl | rfl | rfl | rfl | rfl | rfl | rfl | rfl <;> simp
  rw [hk, if_neg (by decide), if_neg (by decide)] at this
  exact ⟨2, 0, by simpa using this⟩
theorem fine_num (l : List UInt8) (hl : l.length ≤ 8) (h : inL digits l) : FineS ⟨(55 :: l).toArray⟩ := by
  obtain ⟨n, hn⟩ := Lx.fine_number (55 :: l) (by simp) (fun x hx => by
    simp only [List.mem_cons] at hx
    rcases hx with rfl | hx
    · decide
    · exact digit_digits x (h x hx)) (by simp; omega)
  exact ⟨1, n, by simpa using hn⟩
theorem size_list' (s : ByteArray) : s.size = s.data.toList.length := by simp
/-- How a word has grown. -/
def Grew (h : UInt8) (L : List UInt8) (k : Nat) (v : Value) : Prop := ∃ l : List UInt8, v = .string ⟨(h :: l).toArray⟩ ∧ l.length = k ∧ inL L l
def bsizeV : Value → Nat
  | .string b => b.size
  | _ => 0
theorem grew_next {h : UInt8} {L l : List UInt8} {j m : Nat} (hl : l.length = j) (hL : inL L l) (hm : m < 10) (hLl : L.length = 10 := by rfl) : Grew h L (j + 1) (.string (⟨(h :: l).toArray⟩ ++ ByteArray.extract ⟨L.toArray⟩ m (m + 1))) := by
  refine ⟨l ++ [L[m]], ?_, by simp [hl], ?_⟩
  · congr 1
    apply ByteArray.ext
    apply Array.ext'
    simp [ByteArray.data_append, ByteArray.data_extract, List.take_add_one, List.drop_append]
  · intro c hc
    simp only [List.mem_append, List.mem_singleton] at hc
    rcases hc with hc | rfl
    · exact hL c hc
    · exact List.getElem_mem _
theorem Below_drewN {B : Nat} {w w' : World} (h : Below B w w') (n : Nat) : Below B w (w'.drewN n) := h.trans ⟨rfl, rfl, rfl, Nat.le_refl _, fun _ _ => rfl⟩
set_option maxRecDepth 100000 in
set_option maxHeartbeats 4000000 in
theorem word_great (k : Int) (h0 : 0 ≤ k) (h1 : k < 256) (hk : k % 5 = 0) (b o n cap : Nat) (hn : n ≤ 140737488355328) (hcap : n ≤ cap) (W : World) (Z : Nat → Int) (hz : ∀ i, 0 ≤ Z i ∧ Z i < 256)
    (hc : ∀ i, i < n → W.cell? ⟨b, o + i, none⟩ = some (.int .u8 (Z i))) :
    Calls Try.prog 6 #[.int .u8 k, .slice (some ⟨b, o, none⟩) n cap] W (WordOut W) := by
  have HC := Lib.hid hc
  clear hc
  go_enter Try.func6, Try.ntmps6
  go_wp2
  go_loopw [6, 9] (fun sv iv wr => ∃ j : Nat, j ≤ n ∧ j ≤ 8 ∧ iv = .int .i64 j ∧ Grew 66 letters j sv ∧ Below W.heap.size W wr) (fun _ iv _ => 8 - (intOf iv).toNat)
  case atStart => exact ⟨0, by omega, by omega, rfl, ⟨[], rfl, rfl, fun _ h => by simp at h⟩, Below.refl _ _⟩
  case round =>
    obtain ⟨j, hj1, hj2, rfl, ⟨l, rfl, hl, hL⟩, hb⟩ := hrel
    have HL := Lib.hid (And.intro hl hL)
    clear hl hL
    by_cases hlt : j < n
    · by_cases hl8 : j < 8
      · have hcell := HC.out j hlt
        obtain ⟨z0, z1⟩ := hz j
        obtain ⟨z, hz⟩ : ∃ z, Z j = z := ⟨_, rfl⟩
        rw [hz] at hcell z0 z1
        clear hz
        have hcell' : wr.cell? ⟨b, o + j, none⟩ = some (.int .u8 z) := (hb.cell (p := ⟨b, o + j, none⟩) (World.block_lt_of_cell? _ _ hcell)).trans hcell
        obtain ⟨m, hm⟩ : ∃ m : Nat, z.tmod 10 = m := ⟨(z.tmod 10).toNat, by rw [Int.tmod_eq_emod_of_nonneg z0]; omega⟩
        have hm10 : m < 10 := by rw [Int.tmod_eq_emod_of_nonneg z0] at hm; omega
        have e1 : IntKind.i64.wrap ((m : Int) + 1) = (m : Int) + 1 := IntWalk.i64_in _ (by omega)
        have e2 : 0 ≤ (m : Int) + 1 := by omega
        have e3 : ((m : Int) + 1).toNat = m + 1 := by omega
        have e4 : ¬ 9223372036854775807 < l.length + 1 + (min (m + 1) 10 - m) := by have := HL.out.1; omega
        go_wp2
        go_quiet (fail)
        go_wp2
        go_roundw
        case rel => exact ⟨j + 1, by omega, by omega, by go_num, grew_next HL.out.1 HL.out.2 hm10, Below_drewN hb _⟩
        case measure => simp [intOf]; omega
      · go_wp2
        go_ret
        exact ⟨_, rfl, fine_great l (by have := HL.out.1; omega) HL.out.2, hb⟩
    · go_wp2
      go_ret
      exact ⟨_, rfl, fine_great l (by have := HL.out.1; omega) HL.out.2, hb⟩
set_option maxRecDepth 100000 in
set_option maxHeartbeats 4000000 in
theorem word_great0 (k : Int) (h0 : 0 ≤ k) (h1 : k < 256) (hk : k % 5 = 0) (a : Option Addr) (cap : Nat) (W : World) :
    Calls Try.prog 6 #[.int .u8 k, .slice a 0 cap] W (WordOut W) := by
  go_enter Try.func6, Try.ntmps6
  go_wp2
  refine wp_loop_rounds 1 ?_
  rw [rounds_succ]
  go_wp2
  go_ret
  exact ⟨_, rfl, fine_great [] (by simp) (fun _ h => by simp at h), Below.refl _ _⟩
set_option maxRecDepth 100000 in
set_option maxHeartbeats 4000000 in
theorem word_num (k : Int) (h0 : 0 ≤ k) (h1 : k < 256) (hk : k % 5 = 1) (b o n cap : Nat) (hn : n ≤ 140737488355328) (hcap : n ≤ cap) (W : World) (Z : Nat → Int) (hz : ∀ i, 0 ≤ Z i ∧ Z i < 256)
    (hc : ∀ i, i < n → W.cell? ⟨b, o + i, none⟩ = some (.int .u8 (Z i))) :
    Calls Try.prog 6 #[.int .u8 k, .slice (some ⟨b, o, none⟩) n cap] W (WordOut W) := by
  have HC := Lib.hid hc
  clear hc
  go_enter Try.func6, Try.ntmps6
  go_wp2
  go_loopw [6, 9] (fun sv iv wr => ∃ j : Nat, j ≤ n ∧ j ≤ 8 ∧ iv = .int .i64 j ∧ Grew 55 digits j sv ∧ Below W.heap.size W wr) (fun _ iv _ => 8 - (intOf iv).toNat)
  case atStart => exact ⟨0, by omega, by omega, rfl, ⟨[], rfl, rfl, fun _ h => by simp at h⟩, Below.refl _ _⟩
  case round =>
    obtain ⟨j, hj1, hj2, rfl, ⟨l, rfl, hl, hL⟩, hb⟩ := hrel
    have HL := Lib.hid (And.intro hl hL)
    clear hl hL
    by_cases hlt : j < n
    · by_cases hl8 : j < 8
      · have hcell := HC.out j hlt
        obtain ⟨z0, z1⟩ := hz j
        obtain ⟨z, hz⟩ : ∃ z, Z j = z := ⟨_, rfl⟩
        rw [hz] at hcell z0 z1
        clear hz
        have hcell' : wr.cell? ⟨b, o + j, none⟩ = some (.int .u8 z) := (hb.cell (p := ⟨b, o + j, none⟩) (World.block_lt_of_cell? _ _ hcell)).trans hcell
        obtain ⟨m, hm⟩ : ∃ m : Nat, z.tmod 10 = m := ⟨(z.tmod 10).toNat, by rw [Int.tmod_eq_emod_of_nonneg z0]; omega⟩
        have hm10 : m < 10 := by rw [Int.tmod_eq_emod_of_nonneg z0] at hm; omega
        have e1 : IntKind.i64.wrap ((m : Int) + 1) = (m : Int) + 1 := IntWalk.i64_in _ (by omega)
        have e2 : 0 ≤ (m : Int) + 1 := by omega
        have e3 : ((m : Int) + 1).toNat = m + 1 := by omega
        have e4 : ¬ 9223372036854775807 < l.length + 1 + (min (m + 1) 10 - m) := by have := HL.out.1; omega
        go_wp2
        go_quiet (fail)
        go_wp2
        go_roundw
        case rel => exact ⟨j + 1, by omega, by omega, by go_num, grew_next HL.out.1 HL.out.2 hm10, Below_drewN hb _⟩
        case measure => simp [intOf]; omega
      · go_wp2
        go_ret
        exact ⟨_, rfl, fine_num l (by have := HL.out.1; omega) HL.out.2, hb⟩
    · go_wp2
      go_ret
      exact ⟨_, rfl, fine_num l (by have := HL.out.1; omega) HL.out.2, hb⟩
set_option maxRecDepth 100000 in
set_option maxHeartbeats 4000000 in
theorem word_num0 (k : Int) (h0 : 0 ≤ k) (h1 : k < 256) (hk : k % 5 = 1) (a : Option Addr) (cap : Nat) (W : World) :
    Calls Try.prog 6 #[.int .u8 k, .slice a 0 cap] W (WordOut W) := by
  go_enter Try.func6, Try.ntmps6
  go_wp2
  refine wp_loop_rounds 1 ?_
  rw [rounds_succ]
  go_wp2
  go_ret
  exact ⟨_, rfl, fine_num [] (by simp) (fun _ h => by simp at h), Below.refl _ _⟩
set_option maxRecDepth 100000 in
set_option maxHeartbeats 4000000 in
theorem word_small (k : Int) (h0 : 0 ≤ k) (h1 : k < 256) (hk : k % 5 = 4) (b o n cap : Nat) (hn : n ≤ 140737488355328) (hcap : n ≤ cap) (W : World) (Z : Nat → Int) (hz : ∀ i, 0 ≤ Z i ∧ Z i < 256)
    (hc : ∀ i, i < n → W.cell? ⟨b, o + i, none⟩ = some (.int .u8 (Z i))) :
    Calls Try.prog 6 #[.int .u8 k, .slice (some ⟨b, o, none⟩) n cap] W (WordOut W) := by
  have HC := Lib.hid hc
  clear hc
  go_enter Try.func6, Try.ntmps6
  go_wp2
  go_loopw [6, 9] (fun sv iv wr => ∃ j : Nat, j ≤ n ∧ j ≤ 8 ∧ iv = .int .i64 j ∧ Grew 97 letters j sv ∧ Below W.heap.size W wr) (fun _ iv _ => 8 - (intOf iv).toNat)
  case atStart => exact ⟨0, by omega, by omega, rfl, ⟨[], rfl, rfl, fun _ h => by simp at h⟩, Below.refl _ _⟩
  case round =>
    obtain ⟨j, hj1, hj2, rfl, ⟨l, rfl, hl, hL⟩, hb⟩ := hrel
    have HL := Lib.hid (And.intro hl hL)
    clear hl hL
    by_cases hlt : j < n
    · by_cases hl8 : j < 8
      · have hcell := HC.out j hlt
        obtain ⟨z0, z1⟩ := hz j
        obtain ⟨z, hz⟩ : ∃ z, Z j = z := ⟨_, rfl⟩
        rw [hz] at hcell z0 z1
        clear hz
        have hcell' : wr.cell? ⟨b, o + j, none⟩ = some (.int .u8 z) := (hb.cell (p := ⟨b, o + j, none⟩) (World.block_lt_of_cell? _ _ hcell)).trans hcell
        obtain ⟨m, hm⟩ : ∃ m : Nat, z.tmod 10 = m := ⟨(z.tmod 10).toNat, by rw [Int.tmod_eq_emod_of_nonneg z0]; omega⟩
        have hm10 : m < 10 := by rw [Int.tmod_eq_emod_of_nonneg z0] at hm; omega
        have e1 : IntKind.i64.wrap ((m : Int) + 1) = (m : Int) + 1 := IntWalk.i64_in _ (by omega)
        have e2 : 0 ≤ (m : Int) + 1 := by omega
        have e3 : ((m : Int) + 1).toNat = m + 1 := by omega
        have e4 : ¬ 9223372036854775807 < l.length + 1 + (min (m + 1) 10 - m) := by have := HL.out.1; omega
        go_wp2
        go_quiet (fail)
        go_wp2
        go_roundw
        case rel => exact ⟨j + 1, by omega, by omega, by go_num, grew_next HL.out.1 HL.out.2 hm10, Below_drewN hb _⟩
        case measure => simp [intOf]; omega
      · go_wp2
        go_ret
        exact ⟨_, rfl, fine_small l (by have := HL.out.1; omega) HL.out.2, hb⟩
    · go_wp2
      go_ret
      exact ⟨_, rfl, fine_small l (by have := HL.out.1; omega) HL.out.2, hb⟩
set_option maxRecDepth 100000 in
set_option maxHeartbeats 4000000 in
theorem word_small0 (k : Int) (h0 : 0 ≤ k) (h1 : k < 256) (hk : k % 5 = 4) (a : Option Addr) (cap : Nat) (W : World) :
    Calls Try.prog 6 #[.int .u8 k, .slice a 0 cap] W (WordOut W) := by
  go_enter Try.func6, Try.ntmps6
  go_wp2
  refine wp_loop_rounds 1 ?_
  rw [rounds_succ]
  go_wp2
  go_ret
  exact ⟨_, rfl, fine_small [] (by simp) (fun _ h => by simp at h), Below.refl _ _⟩
/-- A slice of bytes, as the law hands it on. -/
def BytesAt (W : World) (a : Option Addr) (n : Nat) : Prop := n = 0 ∨ ∃ b o, a = some ⟨b, o, none⟩ ∧ ∃ Z : Nat → Int, (∀ i, 0 ≤ Z i ∧ Z i < 256) ∧ ∀ i, i < n → W.cell? ⟨b, o + i, none⟩ = some (.int .u8 (Z i))
theorem lawWord_any (k : Int) (h0 : 0 ≤ k) (h1 : k < 256) (a : Option Addr) (n cap : Nat) (hn : n ≤ 140737488355328) (hcap : n ≤ cap) (W : World) (h : BytesAt W a n) :
    Calls Try.prog 6 #[.int .u8 k, .slice a n cap] W (WordOut W) := by
  have hk : k % 5 = 0 ∨ k % 5 = 1 ∨ k % 5 = 2 ∨ k % 5 = 3 ∨ k % 5 = 4 := by omega
  rcases hk with hk | hk | hk | hk | hk
  · rcases h with rfl | ⟨b, o, rfl, Z, hz, hc⟩
    · exact word_great0 k h0 h1 hk a cap W
    · exact word_great k h0 h1 hk b o n cap hn hcap W Z hz hc
  · rcases h with rfl | ⟨b, o, rfl, Z, hz, hc⟩
    · exact word_num0 k h0 h1 hk a cap W
    · exact word_num k h0 h1 hk b o n cap hn hcap W Z hz hc
  · exact word_key k h0 h1 hk a n cap hn W
  · exact word_sign k h0 h1 hk a n cap hn W
  · rcases h with rfl | ⟨b, o, rfl, Z, hz, hc⟩
    · exact word_small0 k h0 h1 hk a cap W
    · exact word_small k h0 h1 hk b o n cap hn hcap W Z hz hc
end Go.Proofs.Ytlmfjaaooklhnaa
