/- A constructor's place, by the reference; its number, by the program; the constructors of a type. -/
import Derived.Test.YtggoejghnlgigaaTg
namespace Go.Proofs.Ytggoejghnlgigaa
open Go.ChangeShapes Go.WideShapes Go.ChangeAt Go.RowKit Go.Maps
namespace Tx
set_option linter.unusedVariables false
set_option linter.unusedSimpArgs false
/-- The first type that has a constructor, and its place there. -/
def ctorAt (s : ByteArray) : List En → Nat → Int × Int
  | [], _ => (-1, -1)
  | t :: r, k => if 0 ≤ ixOf (isS s) t.cs 0 then ((k : Int), ixOf (isS s) t.cs 0) else ctorAt s r (k + 1)
theorem ctorAt_fst (s : ByteArray) : ∀ (ts : List En) (k : Nat), (ctorAt s ts k).1 = ixOf (fun t => hasS s t.cs) ts k
  | [], k => rfl
  | t :: r, k => by
    show (if 0 ≤ ixOf (isS s) t.cs 0 then ((k : Int), ixOf (isS s) t.cs 0) else ctorAt s r (k + 1)).1 = if decide (0 ≤ ixOf (isS s) t.cs 0) = true then (k : Int) else ixOf (fun t => hasS s t.cs) r (k + 1)
    by_cases h : 0 ≤ ixOf (isS s) t.cs 0
    · rw [if_pos h, if_pos (decide_eq_true h)]
    · rw [if_neg h, if_neg (by simpa using h)]
      exact ctorAt_fst s r (k + 1)
theorem ctorAt_drop {s : ByteArray} {ts : List En} {i : Nat} {t : En} (h : ts[i]? = some t) : ctorAt s (ts.drop i) i = if 0 ≤ ixOf (isS s) t.cs 0 then ((i : Int), ixOf (isS s) t.cs 0) else ctorAt s (ts.drop (i + 1)) (i + 1) := by
  obtain ⟨hi, rfl⟩ := List.getElem?_eq_some_iff.1 h
  rw [List.drop_eq_getElem_cons hi]
  rfl
theorem ctorAt_end {s : ByteArray} {ts : List En} {i : Nat} (h : ts.length ≤ i) (k : Nat) : ctorAt s (ts.drop i) k = (-1, -1) := by
  rw [List.drop_eq_nil_of_le h]
  rfl
theorem EnsIn.at {B : Nat → Prop} {w : World} {ao : Option Addr} {n c : Nat} {ts : List En} (h : EnsIn B w (.slice ao n c) ts) {i : Nat} (hi : i < ts.length) :
    ∃ b t a1 c1, ao = some ⟨b, 0, none⟩ ∧ ts[i]? = some t ∧ t.v = .slice a1 t.cs.length c1 ∧ w.cell? ⟨b, i * 4, none⟩ = some (.string t.nm) ∧ w.cell? ⟨b, i * 4 + 1, none⟩ = some (.slice a1 t.cs.length c1) ∧ NamesIn B w (.slice a1 t.cs.length c1) t.cs := by
  obtain ⟨b, t, e, ht, hb, hc⟩ := h.row.cellAt hi
  have hn := h.ctors t (List.mem_of_getElem? ht)
  obtain ⟨a1, c1, hv⟩ := hn.form
  exact ⟨b, t, a1, c1, e, ht, hv, hc 0 _ rfl, by have := hc 1 _ rfl; rw [hv] at this; exact this, hv ▸ hn⟩
set_option maxRecDepth 100000 in
set_option maxHeartbeats 4000000 in
theorem refCtorAt_any (B : Nat → Prop) (s : ByteArray) (w : World) (v : Value) (ts : List En) (hr : EnsIn B w v ts) :
    Calls Try.prog 10 #[v, .string s] w fun e w' => e = .returned (.tuple #[.int .i64 (ctorAt s ts 0).1, .int .i64 (ctorAt s ts 0).2]) ∧ w' = w := by
  obtain ⟨ao, c, rfl⟩ := hr.row.form
  have HR := Lib.hid hr
  obtain ⟨N, hN⟩ : ∃ N, ts.length = N := ⟨_, rfl⟩
  have HN := Lib.hid hN
  have hle : N ≤ maxLen := by have := hr.row.le; omega
  unfold maxLen at hle
  rw [hN]
  clear hr hN
  go_enter Try.func10, Try.ntmps10
  go_wp2
  go_loopg [6] N (fun g iv wr => ∃ i : Nat, i + g = N ∧ iv = .int .i64 i ∧ w = wr ∧ ctorAt s (ts.drop i) i = ctorAt s ts 0)
  case atStart => exact ⟨0, by omega, rfl, rfl, rfl⟩
  case round =>
    obtain ⟨i, hi, rfl, rfl, hs⟩ := hrel
    have HS := Lib.hid hs
    clear hs
    by_cases hlt : i < N
    · obtain ⟨b, t, a1, c1, rfl, ht, hv, e0, e1, hn⟩ := HR.out.at (i := i) (by have := HN.out; omega)
      have HT := Lib.hid ht
      have HC := Lib.hid hn
      obtain ⟨M, hM⟩ : ∃ M, t.cs.length = M := ⟨_, rfl⟩
      have HM := Lib.hid hM
      have hMle : M ≤ maxLen := by have := hn.le; omega
      unfold maxLen at hMle
      rw [hM] at e1
      clear ht hv hn hM e0
      go_wp2
      go_loopg [7] M (fun g iv wr => ∃ k : Nat, k + g = M ∧ iv = .int .i64 k ∧ w = wr ∧ ixOf (isS s) (t.cs.drop k) k = ixOf (isS s) t.cs 0)
      case atStart => exact ⟨0, by omega, rfl, rfl, rfl⟩
      case round =>
        obtain ⟨k, hk, rfl, rfl, hs2⟩ := hrel
        have HS2 := Lib.hid hs2
        clear hs2
        by_cases hlk : k < M
        · obtain ⟨b2, o2, x, rfl, hx, hcx⟩ := HC.out.cellAt (i := k) (by have := HM.out; omega)
          have HX := Lib.hid hx
          clear hx
          cases hp : isS s x
          · have ht2 : (x.toList == s.toList) = false := hp
            go_wp2
            go_roundg (M - (k + 1))
            case measure => omega
            case rel => exact ⟨k + 1, by omega, by go_num, rfl, by have h := HS2.out; rw [ixOf_drop HX.out, hp, if_neg (by decide)] at h; exact h⟩
          · have ht2 : (x.toList == s.toList) = true := hp
            have hres : ctorAt s ts 0 = ((i : Int), (k : Int)) := by
              have h := HS2.out
              rw [ixOf_drop HX.out, hp, if_pos rfl] at h
              rw [← HS.out, ctorAt_drop HT.out, ← h, if_pos (by omega)]
            have HRS := Lib.hid hres
            clear hres
            go_wp2
            exact bodyPost_ret (v := .tuple #[.int .i64 i, .int .i64 k]) (by simp [results, Try.results10, go_sem]) rfl ⟨by rw [HRS.out], rfl⟩
        · have hres : ctorAt s (ts.drop (i + 1)) (i + 1) = ctorAt s ts 0 := by
            have h := HS2.out
            rw [ixOf_end (by have := HM.out; omega)] at h
            have h2 := HS.out
            rw [ctorAt_drop HT.out, ← h, if_neg (by omega)] at h2
            exact h2
          have HRS := Lib.hid hres
          clear hres
          go_wp2
          go_roundg (N - (i + 1))
          case measure => omega
          case rel => exact ⟨i + 1, by omega, by go_num, rfl, HRS.out⟩
    · have hres : ctorAt s ts 0 = (-1, -1) := by rw [← HS.out, ctorAt_end (by have := HN.out; omega)]
      have HRS := Lib.hid hres
      clear hres
      go_wp2
      exact bodyPost_ret (v := .tuple #[.int .i64 (-1), .int .i64 (-1)]) (by simp [results, Try.results10, go_sem]) rfl ⟨by rw [HRS.out], rfl⟩
end Tx
end Go.Proofs.Ytggoejghnlgigaa
