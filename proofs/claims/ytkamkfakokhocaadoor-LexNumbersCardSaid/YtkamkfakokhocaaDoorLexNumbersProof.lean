/-
  LexNumbers returns true. No condition.
-/
import Derived.Test.YtkamkfakokhocaaDoorCards
import Derived.Test.YtkamkfakokhocaaDoorTie
import Derived.Test.YtkamkfakokhocaaDoorLexE2
import Derived.WalkKit
import Derived.ProofKit
import Derived.OpenShut
import Derived.ShutString
import Derived.ChangeOld
import Derived.Below
import Derived.SliceStrings
import Derived.Lib.SmallJoins
import Derived.Lib.Hide
import Derived.Deep.DeepHandedRow
import Derived.Lib.LaidTab
import Derived.LaidHandle
import Derived.Laws.BytesArg
import Derived.Deep.RegionWith
namespace Go.Proofs.YtkamkfakokhocaaDoor.lexNumbers
open Go.ChangeShapes Go.WideShapes Go.ChangeAt Go.RowKit
open Go.ChangeMaps (open_string shut_string)
open Go.Joins
set_option linter.unusedVariables false

theorem own : ownKnob Tryd.prog.godebug = none := by kernel_rfl
theorem laidOut : laidOutB Tryd.prog = true := by kernel_rfl

def dec (l : List UInt8) : Int := l.foldl (fun n c => n * 10 + ((c.toNat : Int) - 48)) 0
theorem dec_snoc (l : List UInt8) (c : UInt8) : dec (l ++ [c]) = dec l * 10 + ((c.toNat : Int) - 48) := by simp [dec]
theorem dec_fold (l : List UInt8) (a : Int) : l.foldl (fun n c => n * 10 + ((c.toNat : Int) - 48)) a = a * 10 ^ l.length + dec l := by
  induction l generalizing a with
  | nil => simp [dec]
  | cons c l ih =>
    have h1 := ih (a * 10 + ((c.toNat : Int) - 48))
    have h2 := ih ((0 : Int) * 10 + ((c.toNat : Int) - 48))
    simp only [List.foldl_cons, List.length_cons] at h1 ⊢
    rw [h1]
    unfold dec
    simp only [List.foldl_cons]
    rw [h2, Int.pow_succ]
    unfold dec
    simp only [Int.add_mul, Int.mul_assoc, Int.zero_mul, Int.zero_add, Int.mul_comm 10]
    omega
theorem dec_cons (c : UInt8) (l : List UInt8) : dec (c :: l) = ((c.toNat : Int) - 48) * 10 ^ l.length + dec l := by
  have := dec_fold l ((0 : Int) * 10 + ((c.toNat : Int) - 48))
  unfold dec
  simp only [List.foldl_cons]
  rw [this]
  unfold dec
  simp
theorem dec_zeros : ∀ (k : Nat) (l : List UInt8), dec (List.replicate k 48 ++ l) = dec l
  | 0, l => rfl
  | k + 1, l => by
    rw [List.replicate_succ, List.cons_append, dec_cons, dec_zeros k l]
    have e : ((48 : UInt8).toNat : Int) - 48 = 0 := by decide
    rw [e]
    omega
theorem val_dec : ∀ (l : List UInt8) (a b : Int), l.all Lx.isDigit = true → 0 ≤ b → a = min b 2147483649 → l.foldl Lx.vstep a = min (l.foldl (fun n c => n * 10 + ((c.toNat : Int) - 48)) b) 2147483649
  | [], a, b, _, _, h => h
  | c :: l, a, b, ha, hb, h => by
    simp only [List.all_cons, Bool.and_eq_true] at ha
    have hc := ha.1
    unfold Lx.isDigit at hc
    simp only [Bool.and_eq_true, decide_eq_true_eq] at hc
    simp only [List.foldl_cons]
    refine val_dec l _ _ ha.2 (by omega) ?_
    unfold Lx.vstep
    omega
theorem val_is (l : List UInt8) (ha : l.all Lx.isDigit = true) : Lx.val l = min (dec l) 2147483649 := val_dec l 0 0 ha (by omega) (by omega)
theorem takeWhile_all {p : UInt8 → Bool} : ∀ (l : List UInt8) (r : List UInt8), l.all p = true → (l ++ r).takeWhile p = l ++ r.takeWhile p
  | [], r, _ => rfl
  | c :: l, r, h => by
    simp only [List.all_cons, Bool.and_eq_true] at h
    simp [h.1, takeWhile_all l r h.2]
theorem dropWhile_all {p : UInt8 → Bool} : ∀ (l : List UInt8) (r : List UInt8), l.all p = true → (l ++ r).dropWhile p = r.dropWhile p
  | [], r, _ => rfl
  | c :: l, r, h => by
    simp only [List.all_cons, Bool.and_eq_true] at h
    simp [h.1, dropWhile_all l r h.2]
theorem gap_digit (c : UInt8) (l : List UInt8) (h : Lx.isDigit c = true) : Lx.gap (c :: l) = 0 := by
  unfold Lx.isDigit at h
  simp only [Bool.and_eq_true, decide_eq_true_eq] at h
  unfold Lx.gap
  rw [if_neg]
  · simp only
    rw [if_neg]
    simp
    omega
  · intro g
    obtain ⟨r, e⟩ := g
    simp only [List.cons_append, List.cons.injEq] at e
    have e1 := e.1
    subst e1
    revert h
    decide
/-- Digits alone: too great, or the number and an end. -/
theorem lx_digits (l : List UInt8) (hne : l ≠ []) (ha : l.all Lx.isDigit = true) (n : Int) (hn : dec l = n) (h0 : 0 ≤ n) :
    Lx.lx l 1 1 = if 2147483648 < n then .inr (3, 1, 1) else .inl [⟨1, l, Lx.wrapN n, 1, 1⟩, ⟨0, [], 0, 1, 1 + l.length⟩] := by
  have hv := val_is l ha
  rw [hn] at hv
  have ht : l.takeWhile Lx.isDigit = l := by have := takeWhile_all l [] ha; simpa using this
  have hd : l.dropWhile Lx.isDigit = [] := by have := dropWhile_all l [] ha; simpa using this
  cases l with
  | nil => exact absurd rfl hne
  | cons c r =>
    have hc : Lx.isDigit c = true := by simp only [List.all_cons, Bool.and_eq_true] at ha; exact ha.1
    have hw : Lx.word (c :: r) = if 2147483648 < n then ⟨0, [], 0, 3⟩ else ⟨1, c :: r, Lx.wrapN n, 0⟩ := by
      have e1 : Lx.word (c :: r) = Lx.number (c :: r) := by unfold Lx.word; simp only; rw [if_pos hc]
      have ea : Lx.after (c :: r) = false := by unfold Lx.after; rw [hd]
      rw [e1]
      unfold Lx.number
      simp only [ht, hv, ea]
      by_cases hgt : 2147483648 < n
      · rw [if_pos hgt, if_pos (by omega)]
      · rw [if_neg hgt, if_neg (by omega)]
        have : min n 2147483649 = n := by omega
        rw [this]
        rfl
    rw [Lx.lx_eq, gap_digit c r hc, if_neg (by omega), hw]
    by_cases hgt : 2147483648 < n
    · simp [hgt]
    · simp only [if_neg hgt]
      rw [if_neg (by decide), if_neg (by decide)]
      simp only [List.drop_length]
      rw [Lx.lx_eq [], Lx.gap_nil, if_neg (by omega)]
      rfl
theorem lx_letter (l : List UInt8) (hne : l ≠ []) (ha : l.all Lx.isDigit = true) (n : Int) (hn : dec l = n) (h1 : n ≤ 2147483648) (d : UInt8) (hd : Lx.isLetter d = true) (hnd : Lx.isDigit d = false) : Lx.lx (l ++ [d]) 1 1 = .inr (1, 1, 1) := by
  have hv := val_is l ha
  rw [hn] at hv
  have ht : (l ++ [d]).takeWhile Lx.isDigit = l := by rw [takeWhile_all l [d] ha]; simp [hnd]
  have hdr : (l ++ [d]).dropWhile Lx.isDigit = [d] := by rw [dropWhile_all l [d] ha]; simp [hnd]
  cases l with
  | nil => exact absurd rfl hne
  | cons c r =>
    have hc : Lx.isDigit c = true := by simp only [List.all_cons, Bool.and_eq_true] at ha; exact ha.1
    have hw : Lx.word (c :: r ++ [d]) = ⟨0, [], 0, 1⟩ := by
      have e1 : Lx.word (c :: r ++ [d]) = Lx.number (c :: r ++ [d]) := by simp only [List.cons_append]; unfold Lx.word; simp only; rw [if_pos hc]
      have ea : Lx.after (c :: r ++ [d]) = true := by unfold Lx.after; rw [hdr]; exact hd
      rw [e1]
      unfold Lx.number
      simp only [ht, hv, ea]
      rw [if_neg (by omega)]
      rfl
    rw [Lx.lx_eq]
    have hg : Lx.gap (c :: r ++ [d]) = 0 := gap_digit c (r ++ [d]) hc
    rw [hg, if_neg (by omega), hw]
    simp
/-- What begins with a digit is refused, or has a word and an end. -/
theorem lx_some (c : UInt8) (l : List UInt8) (h : Lx.isDigit c = true) : (∃ e, Lx.lx (c :: l) 1 1 = .inr e) ∨ ∃ a b r, Lx.lx (c :: l) 1 1 = .inl (a :: b :: r) := by
  rw [Lx.lx_eq, gap_digit c l h, if_neg (by omega)]
  by_cases hb : (Lx.word (c :: l)).bad ≠ 0
  · rw [if_pos hb]; exact .inl ⟨_, rfl⟩
  · rw [if_neg hb, if_neg (Lx.word_k c l (by omega))]
    cases ho : Lx.lx (List.drop (Lx.word (c :: l)).t.length (c :: l)) 1 (1 + ↑(Lx.word (c :: l)).t.length) with
    | inr e => exact .inl ⟨e, rfl⟩
    | inl r =>
      cases r with
      | nil => exact absurd ho (Lx.lx_ne _ _ _)
      | cons b r => exact .inr ⟨_, b, r, rfl⟩
theorem words_is (s : ByteArray) (hs : s.size ≤ 65536) (o : Lx.Out) (h : Lx.lx s.data.toList 1 1 = o) (W : World) : Calls Tryd.prog 5 #[.string s] W (WordsOut o W) := h ▸ words_any s hs W
theorem app_list (a b : ByteArray) : (a ++ b).data.toList = a.data.toList ++ b.data.toList := by simp
theorem app_size (a b : ByteArray) : (a ++ b).size = a.size + b.size := by simp
theorem one_byte (W : World) (n : Int) : (convert 24 9 (.slice (some ⟨W.heap.size, 0, none⟩) 1 1)).run Tryd.prog (W.alloc (.cells #[.int .u8 n] 5)) = .ok (.string (strOfNums [n])) (W.alloc (.cells #[.int .u8 n] 5)) := by
  refine run_convert_bytes_arg _ _ _ Tryd.underlying24 Tryd.underlying5 _ 0 1 1 [n] rfl (fun i hi => ?_) _ Tryd.underlying9
  obtain rfl : i = 0 := by omega
  simp [go_sem]
def byteOf (n : Int) : UInt8 := UInt8.ofNat n.toNat
theorem str_one (n : Int) : (strOfNums [n]).data.toList = [byteOf n] := by simp [strOfNums, byteOf]
theorem byteOf_nat (n : Int) (h0 : 0 ≤ n) (h1 : n ≤ 255) : ((byteOf n).toNat : Int) = n := by
  unfold byteOf
  simp
  omega
/-- What holds of the digits that are laid, and of what is left of the number. -/
def Inv (a0 x : Int) (l : List UInt8) : Prop := l.all Lx.isDigit = true ∧ x * 10 ^ l.length + dec l = a0 ∧ ∃ m : Nat, l.length + m = 10 ∧ x < 10 ^ m
theorem Inv.start {a0 : Int} (h : a0 ≤ 4294967295) : Inv a0 a0 [] := by
  refine ⟨rfl, by simp [dec], 10, rfl, ?_⟩
  have : (10 : Int) ^ 10 = 10000000000 := by decide
  omega
theorem Inv.step {a0 x : Int} {l : List UInt8} (h : Inv a0 x l) (h0 : 0 ≤ x) (hgo : 0 < x ∨ l = []) : Inv a0 (x / 10) (byteOf (48 + x % 10) :: l) := by
  obtain ⟨h1, h2, m, h3, h4⟩ := h
  have hb := byteOf_nat (48 + x % 10) (by omega) (by omega)
  refine ⟨?_, ?_, ?_⟩
  · simp only [List.all_cons, h1, Bool.and_true]
    unfold Lx.isDigit
    rw [hb]
    simp
    omega
  · rw [dec_cons, hb, List.length_cons, Int.pow_succ]
    obtain ⟨q, hq⟩ : ∃ q, x / 10 = q := ⟨_, rfl⟩
    obtain ⟨r, hr⟩ : ∃ r, x % 10 = r := ⟨_, rfl⟩
    have hx : x = 10 * q + r := by omega
    rw [hq, hr]
    rw [hx] at h2
    obtain ⟨P, hP⟩ : ∃ P : Int, 10 ^ l.length = P := ⟨_, rfl⟩
    rw [hP] at h2 ⊢
    have e1 : (10 * q + r) * P = q * (P * 10) + r * P := by rw [Int.add_mul, Int.mul_comm 10 q, Int.mul_assoc, Int.mul_comm 10 P]
    have e2 : (48 + r - 48) = r := by omega
    rw [e1] at h2
    rw [e2]
    omega
  · cases m with
    | zero =>
      exfalso
      simp only [Int.pow_zero] at h4
      rcases hgo with hgo | rfl
      · omega
      · simp at h3
    | succ m =>
      refine ⟨m, by simp; omega, ?_⟩
      rw [Int.pow_succ] at h4
      obtain ⟨P, hP⟩ : ∃ P : Int, 10 ^ m = P := ⟨_, rfl⟩
      rw [hP] at h4 ⊢
      omega
theorem Inv.done {a0 : Int} {l : List UInt8} (h : Inv a0 0 l) : dec l = a0 := by
  have := h.2.1
  simpa using this
theorem Inv.len {a0 x : Int} {l : List UInt8} (h : Inv a0 x l) : l.length ≤ 10 := by
  obtain ⟨_, _, m, h3, _⟩ := h
  omega
theorem str_one_size (n : Int) : (strOfNums [n]).size = 1 := rfl
theorem letter_cases (a : Int) (h0 : 0 ≤ a) (h1 : a ≤ 255) : Lx.isLetter (byteOf a) = true ↔ (97 ≤ a ∧ a ≤ 122) ∨ (65 ≤ a ∧ a ≤ 90) ∨ a = 95 := by
  unfold Lx.isLetter
  rw [byteOf_nat a h0 h1]
  simp
theorem letter_no_digit (a : Int) (h0 : 0 ≤ a) (h1 : a ≤ 255) (h : (97 ≤ a ∧ a ≤ 122) ∨ (65 ≤ a ∧ a ≤ 90) ∨ a = 95) : Lx.isDigit (byteOf a) = false := by
  unfold Lx.isDigit
  rw [byteOf_nat a h0 h1]
  simp
  omega

set_option maxHeartbeats 6000000 in
set_option maxRecDepth 100000 in
theorem walk (a0 : Int) (a1 : Int) (a2 : Int) (w : World) (w0 : (Lit.int .u32 a0).wf = true) (w1 : (Lit.int .u8 a1).wf = true) (w2 : (Lit.int .u8 a2).wf = true) :
    Calls Tryd.prog 3 #[.int .u32 a0, .int .u8 a1, .int .u8 a2] w fun e w' => e = .returned (.bool true) ∧ Below w.heap.size w w' := by
  obtain ⟨l0, l1⟩ := bounds_u32 w0
  obtain ⟨m0, m1⟩ := bounds_u8 w1
  obtain ⟨c0, c1⟩ := bounds_u8 w2
  obtain ⟨z, hz⟩ : ∃ z : Nat, a1 % 20 = z := ⟨(a1 % 20).toNat, by omega⟩
  have hz20 : z < 20 := by omega
  go_enter Tryd.func3, Tryd.ntmps3
  go_wp2
  go_loop [7, 8] (fun sv iv => ∃ (i : Nat) (ds : ByteArray), i ≤ z ∧ iv = .int .i64 i ∧ sv = .string ds ∧ ds.data.toList = List.replicate i 48) (fun _ iv => z - (intOf iv).toNat)
  case atStart => exact ⟨0, ⟨#[]⟩, by omega, rfl, rfl, rfl⟩
  case round =>
    obtain ⟨i, ds, hi, rfl, rfl, hds⟩ := hrel
    have hsz : ds.size = i := by rw [size_list, hds, List.length_replicate]
    have HS := Lib.hid hsz
    have HD := Lib.hid hds
    have hsb : ds.size ≤ 20 := by omega
    clear hsz hds
    by_cases hlt : i < z
    · go_wp2
      go_round
      case rel => exact ⟨i + 1, ds ++ ⟨#[48]⟩, by omega, by go_num, rfl, by rw [app_list, HD.out, List.replicate_succ']⟩
      case measure => simp [intOf]; omega
    · go_wp2
      obtain ⟨wo, rfl⟩ : ∃ wo : World, wo = w := ⟨_, rfl⟩
      go_loopw [9, 10] (fun xv dv wr => ∃ (x : Int) (es : ByteArray), 0 ≤ x ∧ x ≤ 4294967295 ∧ xv = .int .u64 x ∧ dv = .string es ∧ Inv a0 x es.data.toList ∧ Below wo.heap.size wo wr) (fun xv dv _ => (intOf xv).toNat + (match dv with | .string b => 1 - b.size | _ => 0))
      case atStart => exact ⟨a0, ⟨#[]⟩, l0, l1, rfl, rfl, Inv.start l1, Below.refl _ _⟩
      case round =>
        obtain ⟨x, es, x0, x1, rfl, rfl, hinv, hbl⟩ := hrel
        have hes : es.size ≤ 10 := hinv.len
        have HI := Lib.hid hinv
        clear hinv
        by_cases hx : 0 < x
        · have hc := one_byte wr
          have hsn := str_one_size
          have hd : (48 + x % 10) ≤ 57 := by omega
          have HN := Lib.hid (HI.out.step x0 (.inl hx))
          go_wp2
          go_roundw
          case rel => exact ⟨x / 10, strOfNums [48 + x % 10] ++ es, by omega, by omega, rfl, rfl, by rw [app_list, str_one]; exact HN.out, hbl.alloc hbl.size _⟩
          case measure => simp [intOf, app_size, hsn]; omega
        · obtain rfl : x = 0 := by omega
          by_cases he : es.size = 0
          · have hel : es.data.toList = [] := List.eq_nil_of_length_eq_zero he
            have het : es.toList = [] := by rw [toList_data, hel]
            have HEL := Lib.hid hel
            clear hel
            have hc := one_byte wr
            have hsn := str_one_size
            have HN := Lib.hid (HI.out.step (Int.le_refl 0) (.inr HEL.out))
            go_wp2
            go_roundw
            case rel => exact ⟨0, strOfNums [48] ++ es, by omega, by omega, rfl, rfl, by rw [app_list, str_one]; exact HN.out, hbl.alloc hbl.size _⟩
            case measure => simp [intOf, app_size, hsn, he]
          · have hel : (es.toList == []) = false := by rw [toList_data]; cases h : es.data.toList with
              | nil => exact absurd (by rw [size_list, h]; rfl) he
              | cons c r => rfl
            have hel2 : es.toList.isEmpty = false := by rw [toList_data]; cases h : es.data.toList with
              | nil => exact absurd (by rw [size_list, h]; rfl) he
              | cons c r => rfl
            have hq : (ds ++ es).data.toList ≠ [] := by rw [app_list]; cases h : es.data.toList with
              | nil => exact absurd (by rw [size_list, h]; rfl) he
              | cons c r => simp
            have hqa : (ds ++ es).data.toList.all Lx.isDigit = true := by rw [app_list, HD.out, List.all_append, HI.out.1, Bool.and_true]; simp [List.all_replicate, Lx.isDigit]
            have hqd : dec (ds ++ es).data.toList = a0 := by rw [app_list, HD.out, dec_zeros]; exact HI.out.done
            have hqs : (ds ++ es).size ≤ 40 := by rw [app_size]; omega
            have HQ := Lib.hid (And.intro hq (And.intro hqa hqd))
            have hO := lx_digits _ hq hqa a0 hqd l0
            clear hq hqa hqd
            obtain ⟨q, hq⟩ : ∃ q, ds ++ es = q := ⟨_, rfl⟩
            rw [hq] at HQ hO hqs
            by_cases hgt : 2147483648 < a0
            · rw [if_pos hgt] at hO
              have HO := Lib.hid hO
              clear hO
              go_wp2_with (first
                | (go_at_call 5; refine (words_is q (by omega) _ HO.out _).mono ?_; rintro e w3 ⟨b, rfl, hE, hge, hb⟩)
                | (go_at_call 6; refine (awake_any _).mono ?_; rintro e w4 ⟨rfl, hb2⟩; have hE2 := hE.below hb2 hE.lt)
                | (go_at_call 7; refine (kind_err hE2 (by decide) (by decide)).mono ?_; rintro e w5 ⟨rfl, hb3⟩))
              go_ret
              exact ⟨rfl, hbl.trans ((hb.mono hbl.size).trans ((hb2.mono (Nat.le_trans hbl.size hb.size)).trans (hb3.mono (Nat.le_trans hbl.size (Nat.le_trans hb.size hb2.size)))))⟩
            · rw [if_neg hgt] at hO
              have hsn := str_one_size
              have hps : (q ++ strOfNums [a2]).size ≤ 50 := by rw [app_size, hsn]; omega
              have hpl : (q ++ strOfNums [a2]).data.toList = q.data.toList ++ [byteOf a2] := by rw [app_list, str_one]
              have HPL := Lib.hid hpl
              clear hpl
              obtain ⟨wn, hwn⟩ : ∃ wn, Lx.wrapN a0 = wn := ⟨_, rfl⟩
              rw [hwn] at hO
              have HO := Lib.hid hO
              have hww : IntKind.u32.wrap wn = a0 := by rw [← hwn, IntKind.wrap_u32]; unfold Lx.wrapN; split <;> omega
              clear hO
              by_cases hlet : (97 ≤ a2 ∧ a2 ≤ 122) ∨ (65 ≤ a2 ∧ a2 ≤ 90) ∨ a2 = 95
              · have HO2 := Lib.hid (show Lx.lx (q ++ strOfNums [a2]).data.toList 1 1 = .inr (1, 1, 1) by rw [HPL.out]; exact lx_letter _ HQ.out.1 HQ.out.2.1 a0 HQ.out.2.2 (by omega) _ ((letter_cases a2 c0 c1).2 hlet) (letter_no_digit a2 c0 c1 hlet))
                go_wp2_with (first
                  | (go_at_call_of 5 (Value.string q); refine (words_is q (by omega) _ HO.out _).mono ?_; rintro e w3 ⟨v, rfl, hown, hb⟩; obtain ⟨g, cap, rfl, hg, hc1, hc2, hcell⟩ := row_cells hown; have q1 := hcell 0 _ rfl; have q2 := hcell 2 _ rfl; clear hcell hown hg)
                  | (go_at_call 6; refine (awake_any _).mono ?_; rintro e w4 ⟨rfl, hb2⟩; have r1 := (hb2.cell (p := ⟨g, 0, none⟩) (World.block_lt_of_cell? _ _ q1)).trans q1; have r2 := (hb2.cell (p := ⟨g, 2, none⟩) (World.block_lt_of_cell? _ _ q2)).trans q2; have hcv := one_byte w4)
                  | (go_at_call 5; refine (words_is _ (by omega) _ HO2.out _).mono ?_; rintro e w5 ⟨b, rfl, hE, hge, hb3⟩)
                  | (go_at_call 7; refine (kind_err hE (by decide) (by decide)).mono ?_; rintro e w6 ⟨rfl, hb4⟩; have hE3 := hE.below hb4 hE.lt)
                  | (go_at_call 8; refine (where_err hE3).mono ?_; rintro e w7 ⟨rfl, hb5⟩))
                all_goals first
                  | (go_ret; exact ⟨rfl, hbl.trans ((hb.mono hbl.size).trans ((hb2.mono (Nat.le_trans hbl.size hb.size)).trans (((Below.refl _ _).alloc (Nat.le_trans hbl.size (Nat.le_trans hb.size hb2.size)) _).trans ((hb3.mono (by have := hb2.size; have := hb.size; have := hbl.size; simp; omega)).trans ((hb4.mono (by have := hb3.size; have := hb2.size; have := hb.size; have := hbl.size; simp at *; omega)).trans (hb5.mono (by have := hb4.size; have := hb3.size; have := hb2.size; have := hb.size; have := hbl.size; simp at *; omega)))))))⟩)
                  | (exfalso; simp only [beq_eq_false_iff_ne, beq_iff_eq, ne_eq] at *; omega)
              · have hcons : ∃ c r, q.data.toList = c :: r := by cases h : q.data.toList with
                  | nil => exact absurd h HQ.out.1
                  | cons c r => exact ⟨c, r, rfl⟩
                obtain ⟨cc, rr, hcr⟩ := hcons
                have hcd : Lx.isDigit cc = true := by have := HQ.out.2.1; rw [hcr] at this; simp only [List.all_cons, Bool.and_eq_true] at this; exact this.1
                have hso := lx_some cc (rr ++ [byteOf a2]) hcd
                have hpq : (q ++ strOfNums [a2]).data.toList = cc :: (rr ++ [byteOf a2]) := by rw [HPL.out, hcr]; rfl
                rw [← hpq] at hso
                clear hcr hcd hpq
                rcases hso with ⟨⟨ek, el, ec⟩, hO2⟩ | ⟨ta, tb, tr, hO2⟩
                · have HO2 := Lib.hid hO2
                  clear hO2
                  go_wp2_with (first
                    | (go_at_call_of 5 (Value.string q); refine (words_is q (by omega) _ HO.out _).mono ?_; rintro e w3 ⟨v, rfl, hown, hb⟩; obtain ⟨g, cap, rfl, hg, hc1, hc2, hcell⟩ := row_cells hown; have q1 := hcell 0 _ rfl; have q2 := hcell 2 _ rfl; clear hcell hown hg)
                    | (go_at_call 6; refine (awake_any _).mono ?_; rintro e w4 ⟨rfl, hb2⟩; have r1 := (hb2.cell (p := ⟨g, 0, none⟩) (World.block_lt_of_cell? _ _ q1)).trans q1; have r2 := (hb2.cell (p := ⟨g, 2, none⟩) (World.block_lt_of_cell? _ _ q2)).trans q2; have hcv := one_byte w4)
                    | (go_at_call 5; refine (words_is _ (by omega) _ HO2.out _).mono ?_; rintro e w5 ⟨b, rfl, hE, hge, hb3⟩))
                  all_goals first
                    | (go_ret; exact ⟨rfl, hbl.trans ((hb.mono hbl.size).trans ((hb2.mono (Nat.le_trans hbl.size hb.size)).trans (((Below.refl _ _).alloc (Nat.le_trans hbl.size (Nat.le_trans hb.size hb2.size)) _).trans ((hb3.mono (by have := hb2.size; have := hb.size; have := hbl.size; simp; omega))))))⟩)
                    | (exfalso; simp only [beq_eq_false_iff_ne, beq_iff_eq, ne_eq] at *; omega)
                    | trace_state
                · have HO2 := Lib.hid hO2
                  clear hO2
                  go_wp2_with (first
                    | (go_at_call_of 5 (Value.string q); refine (words_is q (by omega) _ HO.out _).mono ?_; rintro e w3 ⟨v, rfl, hown, hb⟩; obtain ⟨g, cap, rfl, hg, hc1, hc2, hcell⟩ := row_cells hown; have q1 := hcell 0 _ rfl; have q2 := hcell 2 _ rfl; clear hcell hown hg)
                    | (go_at_call 6; refine (awake_any _).mono ?_; rintro e w4 ⟨rfl, hb2⟩; have r1 := (hb2.cell (p := ⟨g, 0, none⟩) (World.block_lt_of_cell? _ _ q1)).trans q1; have r2 := (hb2.cell (p := ⟨g, 2, none⟩) (World.block_lt_of_cell? _ _ q2)).trans q2; have hcv := one_byte w4)
                    | (go_at_call 5; refine (words_is _ (by omega) _ HO2.out _).mono ?_; rintro e w5 ⟨v5, rfl, hown5, hb3⟩; obtain ⟨g5, cap5, rfl, _, _, _, _⟩ := row_cells hown5; clear hown5))
                  all_goals first
                    | (go_ret; exact ⟨rfl, hbl.trans ((hb.mono hbl.size).trans ((hb2.mono (Nat.le_trans hbl.size hb.size)).trans (((Below.refl _ _).alloc (Nat.le_trans hbl.size (Nat.le_trans hb.size hb2.size)) _).trans ((hb3.mono (by have := hb2.size; have := hb.size; have := hbl.size; simp; omega))))))⟩)
                    | (go_ret; exact ⟨ret_bool (decide_eq_true (by omega)), hbl.trans ((hb.mono hbl.size).trans ((hb2.mono (Nat.le_trans hbl.size hb.size)).trans (((Below.refl _ _).alloc (Nat.le_trans hbl.size (Nat.le_trans hb.size hb2.size)) _).trans ((hb3.mono (by have := hb2.size; have := hb.size; have := hbl.size; simp; omega))))))⟩)
                    | (exfalso; simp only [beq_eq_false_iff_ne, beq_iff_eq, ne_eq] at *; omega)
                    | trace_state

set_option maxRecDepth 100000 in
theorem contract (H : Type) (enc : TypeId × Value → H) (W : World) (base : Nat) (args : Array Value) (ds gs : List (DataW H)) (before : List MemPlace)
    (hval : ∀ (j : Nat) t v, Tryd.f3.params[j]? = some t → args[j]? = some v → Value.okWide Tryd.prog W .any base t v)
    (hW : DataW.Whole enc Tryd.prog Tryd.f3.params.toList Rows.lexNumbersSpec.vars false W args.toList ds gs before) (hL : laidMetH Tryd.prog Rows.lexNumbersRow.laid W) :
    Calls Tryd.prog 3 args W fun e W' => ∃ v, e = .returned v ∧ Rows.lexNumbersSpec.post enc Tryd.prog Tryd.f3 false true false false W args v W' := by
  have hW' := hW
  obtain ⟨p, q, hA0, hV, rfl, hfz, hnd⟩ := hW
  have hA : DataW.TrodAll enc Tryd.prog W 0 (fun _ => true) true Tryd.f3.params.toList args.toList ds p := hA0
  rw [Tryd.params3] at hA hval
  obtain ⟨v0, vs0, d0, ds0, p0, q0, hargs, rfl, rfl, h0, r0⟩ := trodAll_cons hA
  obtain ⟨v1, vs1, d1, ds1, p1, q1, rfl, rfl, rfl, h1, r1⟩ := trodAll_cons r0
  obtain ⟨v2, vs2, d2, ds2, p2, q2, rfl, rfl, rfl, h2, r2⟩ := trodAll_cons r1
  obtain ⟨rfl, rfl, rfl⟩ := trodAll_nil r2
  obtain rfl : args = #[v0, v1, v2] := by cases args; simp_all
  obtain ⟨rfl, rfl⟩ := trodVars_none hV
  obtain ⟨a0, rfl, rfl, rfl, w0⟩ := open_int Tryd.underlying22 (hval 0 22 v0 rfl rfl) h0
  obtain ⟨a1, rfl, rfl, rfl, w1⟩ := open_int Tryd.underlying5 (hval 1 5 v1 rfl rfl) h1
  obtain ⟨a2, rfl, rfl, rfl, w2⟩ := open_int Tryd.underlying5 (hval 2 5 v2 rfl rfl) h2
  clear hA0
  simp only [List.append_nil] at hW'
  refine (walk a0 a1 a2 W w0 w1 w2).mono fun e W' ⟨he, bel⟩ => ?_
  subst he
  exact ⟨_, rfl, _, _, _, [], _, [], hW', trodAll_mk1 (shut_bool Tryd.underlying4 _), (trodAll_cons_mk (shut_int Tryd.underlying22 w0) (trodAll_cons_mk (shut_int Tryd.underlying5 w1) (trodAll_cons_mk (shut_int Tryd.underlying5 w2) trodAll_mk0))), rfl, bel.frame _, fun h => by cases h⟩

noncomputable def laidWorld (os : Os) : World :=
  { World.holding Tryd.prog os ⟨#[], #[], []⟩ with heap := (World.holding Tryd.prog os ⟨#[], #[], []⟩).heap.modify 0 fun
      | .cells _ t frozen => .cells #[.iface 105 (.agg #[.pointer (some ⟨2, 27, none⟩)])] t frozen
      | o => o }
theorem laid_met (os : Os) : laidMetH Tryd.prog Rows.lexNumbersRow.laid ((laidWorld os).forCall (fun _ _ => 0) ⟨#[], #[.int .u32 0, .int .u8 0, .int .u8 0], []⟩).memory :=
  laidMetH_of_parts (laidMet_nil _ _) (by kernel_rfl)
theorem reads (os : Os) {H : Type} (enc : TypeId × Value → H) : ∃ places, DataW.whole enc Tryd.prog ((laidWorld os).forCall (fun _ _ => 0) ⟨#[], #[.int .u32 0, .int .u8 0, .int .u8 0], []⟩).memory Tryd.f3.params.toList Rows.lexNumbersSpec.vars false (#[.int .u32 0, .int .u8 0, .int .u8 0] : Array Value).toList 8 = some ([.lit (.int .u32 0), .lit (.int .u8 0), .lit (.int .u8 0)], [], places) :=
  ⟨[], by kernel_rfl⟩

set_option maxRecDepth 100000 in
theorem lifted (os : Os) (started : os.Started) (H : Type) (enc : TypeId × Value → H) (F : Stop.Interp) :
    ReturnsInHanded {} Tryd.checked os 3 .any ((OpenSpec.ofChange Rows.lexNumbersSpec).preRow enc Tryd.prog Tryd.f3 Rows.lexNumbersRow.domain false Rows.lexNumbersRow.laid) (((OpenSpec.ofChange Rows.lexNumbersSpec).at F).post enc Tryd.prog Tryd.f3 false true false false) := by
  obtain ⟨places, hx⟩ := reads os enc
  refine returnsInHanded_of_row (C := Tryd.checked) (s := OpenSpec.ofChange Rows.lexNumbersSpec) own started (by kernel_rfl) Tryd.func3
    (witness_row_at (enc := enc) (C := Tryd.checked) false (laidWorld os) #[.int .u32 0, .int .u8 0, .int .u8 0] rfl (by kernel_rfl) (by kernel_rfl) (by kernel_rfl)
      (OpenSpec.preRow_of_cond 8 hx (by kernel_rfl) (fun k hk => by cases hk) (by kernel_rfl) (laid_met os))) ?_
  intro W base args ds gs before hval hW _ _ _ hL _ _
  exact contract H enc W base args ds gs before hval hW hL

theorem said : Rows.LexNumbersSaid :=
  OpenClaim.holds_of_cond 3 Tryd.f3 rfl rfl rfl rfl rfl rfl rfl ⟨rfl, rfl, rfl, rfl, rfl⟩ rfl rfl rfl rfl rfl (by kernel_rfl) Tryd.func3 (by kernel_rfl)
    (of_decide_eq_true (by kernel_rfl)) (by unfold Func.isWrapper; first | (rw [if_pos (by decide +kernel)]; kernel_rfl) | (rw [if_neg (by decide +kernel)]; exact ⟨rfl, rfl⟩))
    (fun os started H enc _ F => by rw [OpenClaim.pre_eq_preRow]; exact lifted os started H enc F)

theorem plain (f : FuncId) (fn : Func) (hf : Tryd.pinned.checked.prog.funcNamed "metronome/metronomelaw03.LexNumbers" = some f) (hfn : Tryd.pinned.checked.prog.funcs[f]? = some fn) :
    true = Tryd.pinned.checked.prog.looks [] ∧ ∀ (j : Nat) t, fn.params[j]? = some t → Tryd.pinned.checked.prog.wantsStandIn t = false := by
  obtain rfl : f = 3 := Option.some.inj ((show Tryd.prog.funcNamed "metronome/metronomelaw03.LexNumbers" = some 3 by kernel_rfl).symm.trans hf) |>.symm
  obtain rfl : fn = Tryd.f3 := (Option.some.inj (Tryd.func3.symm.trans hfn)).symm
  refine ⟨by kernel_rfl, fun j t ht => ?_⟩
  rw [Tryd.params3] at ht
  have hmem : t = 22 ∨ t = 5 ∨ t = 5 := by simpa using Array.mem_of_getElem? ht
  rcases hmem with rfl | rfl | rfl
  · exact (show Tryd.prog.wantsStandIn 22 = false by kernel_rfl)
  · exact (show Tryd.prog.wantsStandIn 5 = false by kernel_rfl)
  · exact (show Tryd.prog.wantsStandIn 5 = false by kernel_rfl)

theorem card : Rows.LexNumbersCardSaid :=
  Claim7.holds_tied_plain_at .later [] _ _ _ _ said (fun _ h => by cases h) (by kernel_rfl) (fun _ h => by cases h) lexNumbers_row_tie rfl ⟨rfl, rfl⟩ (by kernel_rfl) rfl plain (by kernel_rfl)
#print axioms card
end Go.Proofs.YtkamkfakokhocaaDoor.lexNumbers
