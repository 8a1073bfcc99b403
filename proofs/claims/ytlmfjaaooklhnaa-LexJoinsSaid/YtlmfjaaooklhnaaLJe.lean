/- Words joined with blanks. -/
import Derived.Test.YtlmfjaaooklhnaaLJd
import Derived.Test.YtlmfjaaooklhnaaStrBB
namespace Go.Proofs.Ytlmfjaaooklhnaa
open Go.ChangeShapes Go.WideShapes Go.ChangeAt Go.RowKit
set_option linter.unusedVariables false
set_option linter.unusedSimpArgs false
def Jn (ws : List Lx.Ky) : List UInt8 := Lx.joined (ws.map (·.2.1))
theorem jn_first (x : Lx.Ky) : Jn [x] = x.2.1 := rfl
theorem jn_next (ws : List Lx.Ky) (x : Lx.Ky) (h : ws ≠ []) : Jn (ws ++ [x]) = Jn ws ++ ([32] ++ x.2.1) := by
  unfold Jn
  rw [List.map_append]
  have := Lx.joined_snoc (ws.map (·.2.1)) x.2.1 (by simpa using h)
  simpa using this
theorem jn_len : ∀ ws : List Lx.Ky, (∀ x ∈ ws, x.2.1.length ≤ 32) → (Jn ws).length ≤ 33 * ws.length
  | [], _ => by simp [Jn, Lx.joined]
  | [x], h => by have := h x (by simp); simp [Jn, Lx.joined]; omega
  | x :: y :: r, h => by
    have h1 := h x (by simp)
    have h2 := jn_len (y :: r) (fun z hz => h z (by simp [hz]))
    have e : Jn (x :: y :: r) = x.2.1 ++ 32 :: Jn (y :: r) := rfl
    rw [e]
    simp only [List.length_append, List.length_cons] at h2 ⊢
    omega
theorem box_text {wr w2 : World} {B : Nat} {k n l c : Int} {t : ByteArray} (h : Lib.OthersKept 5 (some B) (wr.alloc (.cells #[.int .u8 k, .string t, .int .i32 n, .int .i64 l, .int .i64 c] 34)) w2) (hB : B < wr.heap.size) : w2.cell? ⟨wr.heap.size, 1, none⟩ = some (.string t) := by
  have := h wr.heap.size _ (heap_alloc_new wr _) (by simp; omega) (fun cs fz e => by cases e)
  rw [Lib.cell_of_heap this]
  rfl
set_option maxRecDepth 100000 in
set_option maxHeartbeats 4000000 in
theorem join_any (W : World) (g cap : Nat) (ts : List Lx.Tok) (ws : List Lx.Ky) (ht : TokAt W g ts) (hk : ts.map Lx.key = ws ++ [(0, [], 0)]) (hws : ∀ x ∈ ws, x.1 ≠ 0 ∧ x.2.1.length ≤ 32) (hl : ws.length ≤ 40) (hg : g < W.heap.size) (hcap : ws.length + 1 ≤ cap) :
    Calls Try.prog 8 #[.slice (some ⟨g, 0, none⟩) (ws.length + 1) cap] W fun e w' => e = .returned (.string ⟨(Jn ws).toArray⟩) ∧ Below W.heap.size W w' := by
  have HT := Lib.hid ht
  have HK := Lib.hid hk
  have HW := Lib.hid hws
  clear ht hk hws
  obtain ⟨N, hN⟩ : ∃ N, ws.length = N := ⟨_, rfl⟩
  have HN := Lib.hid hN
  rw [hN] at hl hcap ⊢
  clear hN
  go_enter Try.func8, Try.ntmps8
  go_wp2
  go_loopw [8] (fun iv wr => ∃ i : Nat, i ≤ N + 1 ∧ iv = .int .i64 i ∧ Below W.heap.size W wr ∧ W.heap.size < wr.heap.size ∧ Lib.IsBuilder 47 5 W.heap.size W.heap.size (Lib.byteCells (Jn (ws.take i))) wr) (fun iv _ => N + 1 - (intOf iv).toNat)
  case atStart => exact ⟨0, by omega, rfl, (Below.refl _ _).alloc (Nat.le_refl _) _, by simp, Lib.fresh_isBuilder _ _ _⟩
  case round =>
    obtain ⟨i, hi, rfl, hbl, hsz, hB⟩ := hrel
    have HB := Lib.hid hB
    clear hB
    have hjl : (Jn (ws.take i)).length ≤ 2000 := by
      have h1 := jn_len (ws.take i) (fun x hx => (HW.out x (List.mem_of_mem_take hx)).2)
      have h2 : (ws.take i).length ≤ i := List.length_take_le _ _
      omega
    have hbc : (Lib.byteCells (Jn (ws.take i))).length ≤ 2000 := by rw [Lib.byteCells_length]; exact hjl
    by_cases hlt : i < N + 1
    · obtain ⟨tk, htk⟩ : ∃ tk, ts[i]? = some tk := ⟨_, List.getElem?_eq_getElem (show i < ts.length by
        have := congrArg List.length HK.out
        simp only [List.length_map, List.length_append, List.length_singleton, HN.out] at this
        omega)⟩
      have hkey : (ws ++ [(0, [], 0)])[i]? = some (Lx.key tk) := by rw [← HK.out, List.getElem?_map, htk]; rfl
      obtain ⟨c0, c1, c2, c3, c4⟩ := (HT.out.below hbl hg).cells htk
      have HKey := Lib.hid hkey
      clear hkey htk
      by_cases hlast : i < N
      · have hwi : ws[i]? = some (Lx.key tk) := by have := HKey.out; rwa [List.getElem?_append_left (by rw [HN.out]; exact hlast)] at this
        have hmem := HW.out _ (List.mem_of_getElem? hwi)
        have htake : ws.take (i + 1) = ws.take i ++ [Lx.key tk] := by rw [List.take_add_one, hwi]; rfl
        have hk0 : (tk.k == 0) = false := by simpa [Lx.key] using hmem.1
        have hk1 : (tk.k != 0) = true := by simpa [Lx.key] using hmem.1
        have htl : tk.t.length ≤ 32 := hmem.2
        have htz : (ByteArray.mk tk.t.toArray).size ≤ 32 := by simpa [ByteArray.size] using htl
        have HTk := Lib.hid htake
        clear hwi hmem htake htl
        by_cases h0 : i = 0
        · subst h0
          have HB0 := Lib.hid (show Lib.IsBuilder 47 5 W.heap.size W.heap.size (Lib.byteCells []) wr from HB.out)
          go_wp2_with (go_at_call 16; refine (Sb.write_any W.heap.size W.heap.size (Lib.byteCells []) _ _ (by exact Sb.keep HB0.out (fun k hk => Lib.alloc_old _ _ k hk)) (by simp [Lib.byteCells]; omega) (by simp; omega)).mono ?_; rintro e w2 ⟨rfl, hB2, hb2⟩)
          have e1 : Jn (ws.take (0 + 1)) = tk.t := by rw [HTk.out]; rfl
          have hb2' := hb2
          go_roundw
          case rel => exact ⟨0 + 1, by omega, by go_num, (hbl.alloc (Nat.le_of_lt hsz) _).trans hb2, by have := hb2.size; simp at this; omega, by rw [e1]; exact hB2⟩
          case measure => simp [intOf]
        · have hne : ws.take i ≠ [] := by
            have : (ws.take i).length = i := by rw [List.length_take, HN.out]; omega
            intro e
            rw [e] at this
            simp at this
            omega
          have HJ := Lib.hid (jn_next (ws.take i) (Lx.key tk) hne)
          clear hne
          have e1 : Lib.byteCells (Jn (ws.take (i + 1))) = Lib.byteCells (Jn (ws.take i)) ++ [.int .u8 32] ++ Lib.strCells ⟨tk.t.toArray⟩ := by
            rw [HTk.out, HJ.out, Lib.byteCells_append, Lib.byteCells_append, List.append_assoc]
            rfl
          have HE1 := Lib.hid e1
          clear e1
          have hi0 : (0 : Int) < (i : Int) := by omega
          go_wp2_with (first
            | (go_at_call 15; refine (Sb.writeByte_any W.heap.size W.heap.size (Lib.byteCells (Jn (ws.take i))) 32 _ (by exact Sb.keep HB.out (fun k hk => Lib.alloc_old _ _ k hk)) (by omega) (by simp; omega)).mono ?_; rintro e w2 ⟨rfl, hB2, hb2, ho2⟩; have HB2 := Lib.hid hB2; have HO2 := Lib.hid ho2; clear hB2 ho2; have hz2 : W.heap.size < w2.heap.size := (by have := hb2.size; simp at this; omega); have p1 : w2.cell? ⟨wr.heap.size, 1, none⟩ = some (.string ⟨tk.t.toArray⟩) := box_text HO2.out (by omega))
            | (go_at_call 16; refine (Sb.write_any W.heap.size W.heap.size (Lib.byteCells (Jn (ws.take i)) ++ [.int .u8 32]) _ _ (by exact HB2.out) (by simp; omega) (by omega)).mono ?_; rintro e w3 ⟨rfl, hB3, hb3⟩))
          go_roundw
          case rel => exact ⟨i + 1, by omega, by go_num, ((hbl.alloc (Nat.le_of_lt hsz) _).trans hb2).trans hb3, by have := hb3.size; omega, by rw [HE1.out]; exact hB3⟩
          case measure => simp [intOf]; omega
      · have hiN : i = N := by omega
        have hkl : Lx.key tk = (0, [], 0) := by
          have h1 := HKey.out
          rw [List.getElem?_append_right (by rw [HN.out]; omega), HN.out, hiN, Nat.sub_self] at h1
          simpa using h1.symm
        have ek : tk.k = 0 := congrArg Prod.fst hkl
        have et : tk.t = [] := congrArg (fun x => x.2.1) hkl
        rw [ek] at c0
        rw [et] at c1
        have e1 : Jn (ws.take (i + 1)) = Jn (ws.take i) := by rw [List.take_of_length_le (by rw [HN.out]; omega), List.take_of_length_le (by rw [HN.out]; omega)]
        have HE1 := Lib.hid e1
        clear e1 hkl ek et hiN
        by_cases h0 : i = 0
        · subst h0
          go_wp2_with (go_at_call 16; refine (Sb.write_any W.heap.size W.heap.size (Lib.byteCells (Jn (ws.take 0))) ⟨#[]⟩ _ (by exact Sb.keep HB.out (fun k hk => Lib.alloc_old _ _ k hk)) (by have : (ByteArray.mk #[]).size = 0 := rfl; omega) (by simp; omega)).mono ?_; rintro e w2 ⟨rfl, hB2, hb2⟩)
          go_roundw
          case rel => exact ⟨0 + 1, by omega, by go_num, (hbl.alloc (Nat.le_of_lt hsz) _).trans hb2, by have := hb2.size; simp at this; omega, by rw [HE1.out]; simpa [Lib.strCells] using hB2⟩
          case measure => simp [intOf]
        · have hi0 : (0 : Int) < (i : Int) := by omega
          go_wp2_with (go_at_call 16; refine (Sb.write_any W.heap.size W.heap.size (Lib.byteCells (Jn (ws.take i))) ⟨#[]⟩ _ (by exact Sb.keep HB.out (fun k hk => Lib.alloc_old _ _ k hk)) (by have : (ByteArray.mk #[]).size = 0 := rfl; omega) (by simp; omega)).mono ?_; rintro e w2 ⟨rfl, hB2, hb2⟩)
          go_roundw
          case rel => exact ⟨i + 1, by omega, by go_num, (hbl.alloc (Nat.le_of_lt hsz) _).trans hb2, by have := hb2.size; simp at this; omega, by rw [HE1.out]; simpa [Lib.strCells] using hB2⟩
          case measure => simp [intOf]; omega
    · have e1 : ws.take i = ws := List.take_of_length_le (by rw [HN.out]; omega)
      rw [e1] at HB
      clear e1
      go_wp2_with (go_at_call 17; refine (Try.Builder_String_any W.heap.size W.heap.size (Jn ws) _ HB.out (by omega)).mono ?_; rintro e w2 ⟨rfl, hb2⟩)
      go_ret
      exact ⟨rfl, hbl.trans hb2⟩
end Go.Proofs.Ytlmfjaaooklhnaa
