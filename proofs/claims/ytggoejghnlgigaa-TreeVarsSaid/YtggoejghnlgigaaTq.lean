/- Lists of names compared, by the program and by the reference. -/
import Derived.Test.YtggoejghnlgigaaTe
import Derived.BigQuiet
import Derived.Deep.QuietTactic
import Derived.IntWalk
namespace Go.Proofs.Ytggoejghnlgigaa
open Go.ChangeShapes Go.WideShapes Go.ChangeAt Go.RowKit Go.Maps
namespace Tx
set_option linter.unusedVariables false
set_option linter.unusedSimpArgs false
theorem NamesIn.form {B : Nat → Prop} {w : World} {v : Value} {ns : List ByteArray} (h : NamesIn B w v ns) : ∃ ao c, v = .slice ao ns.length c := by
  rcases h with ⟨h, rfl⟩ | ⟨b, o, cap, e, _⟩
  · exact h
  · exact ⟨_, _, e⟩
theorem NamesIn.cellAt {B : Nat → Prop} {w : World} {ao : Option Addr} {n c : Nat} {ns : List ByteArray} (h : NamesIn B w (.slice ao n c) ns) {i : Nat} (hi : i < ns.length) : ∃ b o s, ao = some ⟨b, o, none⟩ ∧ ns[i]? = some s ∧ w.cell? ⟨b, o + i, none⟩ = some (.string s) := by
  rcases h with ⟨_, rfl⟩ | ⟨b, o, cap, e, h1, h2, h3, h4⟩
  · simp at hi
  · injection e with e1 _ _
    exact ⟨b, o, ns[i], e1, List.getElem?_eq_getElem hi, (h4 i _ (List.getElem?_eq_getElem hi)).2⟩
theorem NamesIn.le {B : Nat → Prop} {w : World} {v : Value} {ns : List ByteArray} (h : NamesIn B w v ns) : ns.length ≤ maxLen := by
  rcases h with ⟨h, rfl⟩ | ⟨b, o, cap, e, h1, h2, _⟩
  · exact Nat.zero_le _
  · omega
def SaysQ (w : World) (r : Bool) (e : Ending) (w' : World) : Prop := e = .returned (.bool r) ∧ ∃ n, w' = w.drewN n
theorem drew2 (w : World) (a b : Nat) : (w.drewN a).drewN b = w.drewN (a + b) := World.drewN_drewN ..
set_option maxHeartbeats 2000000 in
theorem equal_ne (va vb : Option Addr) (n k c1 c2 : Nat) (h : n ≠ k) (w : World) : Calls Try.prog 57 #[.slice va n c1, .slice vb k c2] w (SaysQ w false) := by
  have h1 : (((n : Nat) : Int) == ((k : Nat) : Int)) = false := by rw [beq_eq_false_iff_ne]; omega
  have h2 : (((n : Nat) : Int) != ((k : Nat) : Int)) = true := by rw [bne, h1]; rfl
  go_enter Try.func57, Try.ntmps57
  go_wp2
  go_ret
  exact ⟨rfl, 0, rfl⟩
set_option maxHeartbeats 4000000 in
theorem equal_any (B : Nat → Prop) (w : World) (va vb : Value) (l m : List ByteArray) (ha : NamesIn B w va l) (hb : NamesIn B w vb m) : Calls Try.prog 57 #[va, vb] w (SaysQ w (sameN l m)) := by
  obtain ⟨xa, ca, rfl⟩ := ha.form
  obtain ⟨xb, cb, rfl⟩ := hb.form
  by_cases hlen : l.length = m.length
  · have HA := Lib.hid ha
    have HB := Lib.hid hb
    obtain ⟨N, hN⟩ : ∃ N, l.length = N := ⟨_, rfl⟩
    have hM : m.length = N := by omega
    have HN := Lib.hid hN
    have HM := Lib.hid hM
    have hle : N ≤ maxLen := by have := ha.le; omega
    unfold maxLen at hle
    rw [hN, hM]
    clear ha hb hlen hN hM
    go_enter Try.func57, Try.ntmps57
    go_wp2
    go_loopw [13] (fun iv wr => ∃ i q : Nat, i ≤ N ∧ sameN (l.drop i) (m.drop i) = sameN l m ∧ iv = .int .i64 i ∧ wr = w.drewN q) (fun iv _ => N - (intOf iv).toNat)
    case atStart => exact ⟨0, 0, by omega, rfl, rfl, rfl⟩
    case round =>
      obtain ⟨i, q, hi, hs, rfl, rfl⟩ := hrel
      have HS := Lib.hid hs
      clear hs
      by_cases hlt : i < N
      · obtain ⟨b1, o1, s1, rfl, g1, x1⟩ := HA.out.cellAt (i := i) (by have := HN.out; omega)
        obtain ⟨b2, o2, s2, rfl, g2, x2⟩ := HB.out.cellAt (i := i) (by have := HM.out; omega)
        have HD := Lib.hid (sameN_drop g1 g2)
        clear g1 g2
        cases ht : (s1.toList == s2.toList)
        · have ht2 : (s1.toList != s2.toList) = true := by rw [bne, ht]; rfl
          go_wp2
          go_quiet (fail)
          go_wp2
          go_ret
          refine ⟨?_, q + nq, (by first | rfl | exact drew2 _ _ _)⟩
          have h1 := HD.out
          rw [HS.out, ht, Bool.false_and] at h1
          rw [h1]
          rfl
        · have ht2 : (s1.toList != s2.toList) = false := by rw [bne, ht]; rfl
          go_wp2
          go_quiet (fail)
          go_wp2
          go_roundw
          case rel => exact ⟨i + 1, q + nq, by omega, by have h1 := HD.out; rw [HS.out, ht, Bool.true_and] at h1; exact h1.symm, by go_num, rfl⟩
          case measure => simp [intOf]; omega
      · go_wp2
        go_ret
        refine ⟨?_, q, rfl⟩
        have h1 := HS.out
        rw [sameN_done (by have := HN.out; omega) (by have := HM.out; omega)] at h1
        rw [← h1]
        rfl
  · have h1 : sameN l m = false := sameN_ne hlen
    rw [h1]
    exact equal_ne _ _ _ _ _ _ hlen w
set_option maxHeartbeats 2000000 in
theorem rnames_ne (va vb : Option Addr) (n k c1 c2 : Nat) (h : n ≠ k) (w : World) : Calls Try.prog 14 #[.slice va n c1, .slice vb k c2] w (SaysQ w false) := by
  have h1 : (((n : Nat) : Int) == ((k : Nat) : Int)) = false := by rw [beq_eq_false_iff_ne]; omega
  have h2 : (((n : Nat) : Int) != ((k : Nat) : Int)) = true := by rw [bne, h1]; rfl
  go_enter Try.func14, Try.ntmps14
  go_wp2
  go_ret
  exact ⟨rfl, 0, rfl⟩
set_option maxHeartbeats 4000000 in
theorem rnames_any (B : Nat → Prop) (w : World) (va vb : Value) (l m : List ByteArray) (ha : NamesIn B w va l) (hb : NamesIn B w vb m) : Calls Try.prog 14 #[va, vb] w (SaysQ w (sameN l m)) := by
  obtain ⟨xa, ca, rfl⟩ := ha.form
  obtain ⟨xb, cb, rfl⟩ := hb.form
  by_cases hlen : l.length = m.length
  · have HA := Lib.hid ha
    have HB := Lib.hid hb
    obtain ⟨N, hN⟩ : ∃ N, l.length = N := ⟨_, rfl⟩
    have hM : m.length = N := by omega
    have HN := Lib.hid hN
    have HM := Lib.hid hM
    have hle : N ≤ maxLen := by have := ha.le; omega
    unfold maxLen at hle
    rw [hN, hM]
    clear ha hb hlen hN hM
    go_enter Try.func14, Try.ntmps14
    go_wp2
    go_loopw [5] (fun iv wr => ∃ i q : Nat, i ≤ N ∧ sameN (l.drop i) (m.drop i) = sameN l m ∧ iv = .int .i64 i ∧ wr = w.drewN q) (fun iv _ => N - (intOf iv).toNat)
    case atStart => exact ⟨0, 0, by omega, rfl, rfl, rfl⟩
    case round =>
      obtain ⟨i, q, hi, hs, rfl, rfl⟩ := hrel
      have HS := Lib.hid hs
      clear hs
      by_cases hlt : i < N
      · obtain ⟨b1, o1, s1, rfl, g1, x1⟩ := HA.out.cellAt (i := i) (by have := HN.out; omega)
        obtain ⟨b2, o2, s2, rfl, g2, x2⟩ := HB.out.cellAt (i := i) (by have := HM.out; omega)
        have HD := Lib.hid (sameN_drop g1 g2)
        clear g1 g2
        cases ht : (s1.toList == s2.toList)
        · have ht2 : (s1.toList != s2.toList) = true := by rw [bne, ht]; rfl
          go_wp2
          go_quiet (fail)
          go_wp2
          go_ret
          refine ⟨?_, q + nq, (by first | rfl | exact drew2 _ _ _)⟩
          have h1 := HD.out
          rw [HS.out, ht, Bool.false_and] at h1
          rw [h1]
          rfl
        · have ht2 : (s1.toList != s2.toList) = false := by rw [bne, ht]; rfl
          go_wp2
          go_quiet (fail)
          go_wp2
          go_roundw
          case rel => exact ⟨i + 1, q + nq, by omega, by have h1 := HD.out; rw [HS.out, ht, Bool.true_and] at h1; exact h1.symm, by go_num, rfl⟩
          case measure => simp [intOf]; omega
      · go_wp2
        go_ret
        refine ⟨?_, q, rfl⟩
        have h1 := HS.out
        rw [sameN_done (by have := HN.out; omega) (by have := HM.out; omega)] at h1
        rw [← h1]
        rfl
  · have h1 : sameN l m = false := sameN_ne hlen
    rw [h1]
    exact rnames_ne _ _ _ _ _ _ hlen w
end Tx
end Go.Proofs.Ytggoejghnlgigaa
