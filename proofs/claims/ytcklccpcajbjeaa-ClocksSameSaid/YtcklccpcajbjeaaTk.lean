/- Clocks compared, by the program and by the reference. -/
import Derived.Test.YtcklccpcajbjeaaTw
import Derived.BigQuiet
import Derived.Deep.QuietTactic
import Derived.IntWalk
namespace Go.Proofs.Ytcklccpcajbjeaa
open Go.ChangeShapes Go.WideShapes Go.ChangeAt Go.RowKit Go.Maps
namespace Tx
set_option linter.unusedVariables false
set_option linter.unusedSimpArgs false
def SaysQ (w : World) (r : Bool) (e : Ending) (w' : World) : Prop := e = .returned (.bool r) ∧ ∃ n, w' = w.drewN n
theorem drew2 (w : World) (a b : Nat) : (w.drewN a).drewN b = w.drewN (a + b) := World.drewN_drewN ..

abbrev Ck := List (ByteArray × ByteArray)
def sameC : Ck → Ck → Bool
  | [], [] => true
  | a :: l, b :: m => ((a.1.toList == b.1.toList) && (a.2.toList == b.2.toList)) && sameC l m
  | _, _ => false
theorem sameC_len : ∀ (l m : Ck), sameC l m = true → l.length = m.length
  | [], [], _ => rfl
  | a :: l, b :: m, h => by
    simp only [sameC, Bool.and_eq_true] at h
    simp [sameC_len l m h.2]
  | [], _ :: _, h => by simp [sameC] at h
  | _ :: _, [], h => by simp [sameC] at h
theorem sameC_ne {l m : Ck} (h : l.length ≠ m.length) : sameC l m = false := by
  cases e : sameC l m
  · rfl
  · exact absurd (sameC_len l m e) h
theorem sameC_drop {l m : Ck} {i : Nat} {a b : ByteArray × ByteArray} (ha : l[i]? = some a) (hb : m[i]? = some b) : sameC (l.drop i) (m.drop i) = (((a.1.toList == b.1.toList) && (a.2.toList == b.2.toList)) && sameC (l.drop (i + 1)) (m.drop (i + 1))) := by
  obtain ⟨h1, rfl⟩ := List.getElem?_eq_some_iff.1 ha
  obtain ⟨h2, rfl⟩ := List.getElem?_eq_some_iff.1 hb
  rw [List.drop_eq_getElem_cons h1, List.drop_eq_getElem_cons h2, sameC]
theorem sameC_done {l m : Ck} {i : Nat} (h : l.length ≤ i) (hm : m.length ≤ i) : sameC (l.drop i) (m.drop i) = true := by
  rw [List.drop_of_length_le h, List.drop_of_length_le hm, sameC]
theorem sameC_self : ∀ (l : Ck), sameC l l = true
  | [] => rfl
  | a :: l => by simp [sameC, sameC_self l]
/-- A clock lies behind a slice. -/
def CkIn (B : Nat → Prop) (w : World) (v : Value) (l : Ck) : Prop :=
  ((∃ a c, v = .slice a 0 c) ∧ l = []) ∨ ∃ b o cap, v = .slice (some ⟨b, o, none⟩) l.length cap ∧ l.length ≤ cap ∧ cap ≤ maxLen ∧ B b ∧ ∀ i c s, l[i]? = some (c, s) → w.cell? ⟨b, o + i * 2, none⟩ = some (.string c) ∧ w.cell? ⟨b, o + i * 2 + 1, none⟩ = some (.string s)
theorem CkIn.keep {B : Nat → Prop} {w w' : World} (hb : ∀ b o v, B b → w.cell? ⟨b, o, none⟩ = some v → w'.cell? ⟨b, o, none⟩ = some v) {v : Value} {l : Ck} (h : CkIn B w v l) : CkIn B w' v l := by
  rcases h with h | ⟨b, o, cap, h1, h2, h3, h4, h5⟩
  · exact .inl h
  · exact .inr ⟨b, o, cap, h1, h2, h3, h4, fun i c s hi => ⟨hb _ _ _ h4 (h5 i c s hi).1, hb _ _ _ h4 (h5 i c s hi).2⟩⟩
theorem CkIn.mono {B B' : Nat → Prop} (hB : ∀ k, B k → B' k) {w : World} {v : Value} {l : Ck} (h : CkIn B w v l) : CkIn B' w v l := by
  rcases h with h | ⟨b, o, cap, h1, h2, h3, h4, h5⟩
  · exact .inl h
  · exact .inr ⟨b, o, cap, h1, h2, h3, hB _ h4, h5⟩
theorem CkIn.form {B : Nat → Prop} {w : World} {v : Value} {l : Ck} (h : CkIn B w v l) : ∃ ao c, v = .slice ao l.length c := by
  rcases h with ⟨h, rfl⟩ | ⟨b, o, cap, e, _⟩
  · exact h
  · exact ⟨_, _, e⟩
theorem CkIn.cellAt {B : Nat → Prop} {w : World} {ao : Option Addr} {n k : Nat} {l : Ck} (h : CkIn B w (.slice ao n k) l) {i : Nat} (hi : i < l.length) : ∃ b o c s, ao = some ⟨b, o, none⟩ ∧ l[i]? = some (c, s) ∧ w.cell? ⟨b, o + i * 2, none⟩ = some (.string c) ∧ w.cell? ⟨b, o + i * 2 + 1, none⟩ = some (.string s) := by
  rcases h with ⟨_, rfl⟩ | ⟨b, o, cap, e, h1, h2, h3, h4⟩
  · simp at hi
  · injection e with e1 _ _
    exact ⟨b, o, (l[i]).1, (l[i]).2, e1, List.getElem?_eq_getElem hi, h4 i _ _ (List.getElem?_eq_getElem hi)⟩
theorem CkIn.le {B : Nat → Prop} {w : World} {v : Value} {l : Ck} (h : CkIn B w v l) : l.length ≤ maxLen := by
  rcases h with ⟨h, rfl⟩ | ⟨b, o, cap, e, h1, h2, _⟩
  · exact Nat.zero_le _
  · omega
set_option maxHeartbeats 2000000 in
theorem ceq_ne (va vb : Option Addr) (n k c1 c2 : Nat) (h : n ≠ k) (w : World) : Calls Try.prog 12 #[.slice va n c1, .slice vb k c2] w (SaysQ w false) := by
  have h1 : (((n : Nat) : Int) == ((k : Nat) : Int)) = false := by rw [beq_eq_false_iff_ne]; omega
  have h2 : (((n : Nat) : Int) != ((k : Nat) : Int)) = true := by rw [bne, h1]; rfl
  go_enter Try.func12, Try.ntmps12
  go_wp2
  go_ret
  exact ⟨rfl, 0, rfl⟩
set_option maxHeartbeats 4000000 in
theorem ceq_any (B : Nat → Prop) (w : World) (va vb : Value) (l m : Ck) (ha : CkIn B w va l) (hb : CkIn B w vb m) : Calls Try.prog 12 #[va, vb] w (SaysQ w (sameC l m)) := by
  obtain ⟨xa, ca, rfl⟩ := ha.form
  obtain ⟨xb, cb, rfl⟩ := hb.form
  by_cases hlen : l.length = m.length
  · have HA := Lib.hid ha
    have HB := Lib.hid hb
    obtain ⟨N, hN⟩ : ∃ N, l.length = N := ⟨_, rfl⟩
    have hM : m.length = N := by omega
    have HN := Lib.hid hN
    have HM := Lib.hid hM
    have hle : N ≤ maxLen := by have := ha.le; omega
    unfold maxLen at hle
    rw [hN, hM]
    clear ha hb hlen hN hM
    go_enter Try.func12, Try.ntmps12
    go_wp2
    go_loopw [13] (fun iv wr => ∃ i q : Nat, i ≤ N ∧ sameC (l.drop i) (m.drop i) = sameC l m ∧ iv = .int .i64 i ∧ wr = w.drewN q) (fun iv _ => N - (intOf iv).toNat)
    case atStart => exact ⟨0, 0, by omega, rfl, rfl, rfl⟩
    case round =>
      obtain ⟨i, q, hi, hs, rfl, rfl⟩ := hrel
      have HS := Lib.hid hs
      clear hs
      by_cases hlt : i < N
      · obtain ⟨b1, o1, c1, s1, rfl, g1, x1, x1'⟩ := HA.out.cellAt (i := i) (by have := HN.out; omega)
        obtain ⟨b2, o2, c2, s2, rfl, g2, x2, x2'⟩ := HB.out.cellAt (i := i) (by have := HM.out; omega)
        have HD := Lib.hid (sameC_drop g1 g2)
        clear g1 g2
        cases ht : ((c1.toList == c2.toList) && (s1.toList == s2.toList))
        · have h1 : sameC l m = false := by have h1 := HD.out; rw [HS.out] at h1; rw [h1]; dsimp only; rw [ht, Bool.false_and]
          have H1 := Lib.hid h1
          clear h1
          have hor : (c1.toList == c2.toList) = false ∨ ((c1.toList == c2.toList) = true ∧ (s1.toList == s2.toList) = false) := by
            cases h1 : (c1.toList == c2.toList)
            · exact .inl rfl
            · rw [h1, Bool.true_and] at ht; exact .inr ⟨rfl, ht⟩
          clear ht
          rcases hor with ht | ⟨ht, ht2⟩
          · go_wp2
            go_quiet (fail)
            go_wp2
            go_ret
            refine ⟨?_, q + nq, (by first | rfl | exact drew2 _ _ _)⟩
            rw [H1.out]
            rfl
          · go_wp2
            go_quiet (fail)
            go_wp2
            go_ret
            refine ⟨?_, q + nq, (by first | rfl | exact drew2 _ _ _)⟩
            rw [H1.out]
            rfl
        · obtain ⟨ht1, ht2⟩ : (c1.toList == c2.toList) = true ∧ (s1.toList == s2.toList) = true := by simpa using ht
          have h1 : sameC (l.drop (i + 1)) (m.drop (i + 1)) = sameC l m := by have h1 := HD.out; rw [HS.out] at h1; rw [h1]; dsimp only; rw [ht, Bool.true_and]
          have H1 := Lib.hid h1
          clear h1 ht
          go_wp2
          go_quiet (fail)
          go_wp2
          go_roundw
          case rel => exact ⟨i + 1, q + nq, by omega, H1.out, by go_num, rfl⟩
          case measure => simp [intOf]; omega
      · go_wp2
        go_ret
        refine ⟨?_, q, rfl⟩
        have h1 := HS.out
        rw [sameC_done (by have := HN.out; omega) (by have := HM.out; omega)] at h1
        rw [← h1]
        rfl
  · have h1 : sameC l m = false := sameC_ne hlen
    rw [h1]
    exact ceq_ne _ _ _ _ _ _ hlen w
set_option maxHeartbeats 2000000 in
theorem rclock_ne (va vb : Option Addr) (n k c1 c2 : Nat) (h : n ≠ k) (w : World) : Calls Try.prog 7 #[.slice va n c1, .slice vb k c2] w (SaysQ w false) := by
  have h1 : (((n : Nat) : Int) == ((k : Nat) : Int)) = false := by rw [beq_eq_false_iff_ne]; omega
  have h2 : (((n : Nat) : Int) != ((k : Nat) : Int)) = true := by rw [bne, h1]; rfl
  go_enter Try.func7, Try.ntmps7
  go_wp2
  go_ret
  exact ⟨rfl, 0, rfl⟩
set_option maxHeartbeats 4000000 in
theorem rclock_any (B : Nat → Prop) (w : World) (va vb : Value) (l m : Ck) (ha : CkIn B w va l) (hb : CkIn B w vb m) : Calls Try.prog 7 #[va, vb] w (SaysQ w (sameC l m)) := by
  obtain ⟨xa, ca, rfl⟩ := ha.form
  obtain ⟨xb, cb, rfl⟩ := hb.form
  by_cases hlen : l.length = m.length
  · have HA := Lib.hid ha
    have HB := Lib.hid hb
    obtain ⟨N, hN⟩ : ∃ N, l.length = N := ⟨_, rfl⟩
    have hM : m.length = N := by omega
    have HN := Lib.hid hN
    have HM := Lib.hid hM
    have hle : N ≤ maxLen := by have := ha.le; omega
    unfold maxLen at hle
    rw [hN, hM]
    clear ha hb hlen hN hM
    go_enter Try.func7, Try.ntmps7
    go_wp2
    go_loopw [5] (fun iv wr => ∃ i q : Nat, i ≤ N ∧ sameC (l.drop i) (m.drop i) = sameC l m ∧ iv = .int .i64 i ∧ wr = w.drewN q) (fun iv _ => N - (intOf iv).toNat)
    case atStart => exact ⟨0, 0, by omega, rfl, rfl, rfl⟩
    case round =>
      obtain ⟨i, q, hi, hs, rfl, rfl⟩ := hrel
      have HS := Lib.hid hs
      clear hs
      by_cases hlt : i < N
      · obtain ⟨b1, o1, c1, s1, rfl, g1, x1, x1'⟩ := HA.out.cellAt (i := i) (by have := HN.out; omega)
        obtain ⟨b2, o2, c2, s2, rfl, g2, x2, x2'⟩ := HB.out.cellAt (i := i) (by have := HM.out; omega)
        have HD := Lib.hid (sameC_drop g1 g2)
        clear g1 g2
        cases ht : ((c1.toList == c2.toList) && (s1.toList == s2.toList))
        · have h1 : sameC l m = false := by have h1 := HD.out; rw [HS.out] at h1; rw [h1]; dsimp only; rw [ht, Bool.false_and]
          have H1 := Lib.hid h1
          clear h1
          have hor : (c1.toList == c2.toList) = false ∨ ((c1.toList == c2.toList) = true ∧ (s1.toList == s2.toList) = false) := by
            cases h1 : (c1.toList == c2.toList)
            · exact .inl rfl
            · rw [h1, Bool.true_and] at ht; exact .inr ⟨rfl, ht⟩
          clear ht
          rcases hor with ht | ⟨ht, ht2⟩
          · go_wp2
            go_quiet (fail)
            go_wp2
            go_ret
            refine ⟨?_, q + nq, (by first | rfl | exact drew2 _ _ _)⟩
            rw [H1.out]
            rfl
          · go_wp2
            go_quiet (fail)
            go_wp2
            go_ret
            refine ⟨?_, q + nq, (by first | rfl | exact drew2 _ _ _)⟩
            rw [H1.out]
            rfl
        · obtain ⟨ht1, ht2⟩ : (c1.toList == c2.toList) = true ∧ (s1.toList == s2.toList) = true := by simpa using ht
          have h1 : sameC (l.drop (i + 1)) (m.drop (i + 1)) = sameC l m := by have h1 := HD.out; rw [HS.out] at h1; rw [h1]; dsimp only; rw [ht, Bool.true_and]
          have H1 := Lib.hid h1
          clear h1 ht
          go_wp2
          go_quiet (fail)
          go_wp2
          go_roundw
          case rel => exact ⟨i + 1, q + nq, by omega, H1.out, by go_num, rfl⟩
          case measure => simp [intOf]; omega
      · go_wp2
        go_ret
        refine ⟨?_, q, rfl⟩
        have h1 := HS.out
        rw [sameC_done (by have := HN.out; omega) (by have := HM.out; omega)] at h1
        rw [← h1]
        rfl
  · have h1 : sameC l m = false := sameC_ne hlen
    rw [h1]
    exact rclock_ne _ _ _ _ _ _ hlen w
end Tx
end Go.Proofs.Ytcklccpcajbjeaa
