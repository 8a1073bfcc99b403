/- Words that stand with blanks between: a plain law on lists of bytes. -/
import Derived.Test.YtlmfjaaooklhnaaLx
namespace Go.Proofs.Ytlmfjaaooklhnaa
namespace Lx
abbrev Ky := Int × Bs × Int
def key (t : Tok) : Ky := (t.k, t.t, t.n)
def Fine (x : Ky) : Prop := x.1 ≠ 0 ∧ x.2.1.length ≤ 32 ∧ ∀ r : Bs, (r = [] ∨ ∃ r', r = 32 :: r') → gap (x.2.1 ++ r) = 0 ∧ word (x.2.1 ++ r) = ⟨x.1, x.2.1, x.2.2, 0⟩
def Skip (g : Bs) : Prop := ∀ (r : Bs) (line col : Int), ∃ line' col', lx (g ++ r) line col = lx r line' col'
theorem Skip.append {g h : Bs} (a : Skip g) (b : Skip h) : Skip (g ++ h) := fun r line col => by
  obtain ⟨l1, c1, e1⟩ := a (h ++ r) line col
  obtain ⟨l2, c2, e2⟩ := b r l1 c1
  exact ⟨l2, c2, by rw [List.append_assoc, e1, e2]⟩
theorem skip_one {c : UInt8} (h : (c.toNat : Int) = 32 ∨ (c.toNat : Int) = 9 ∨ (c.toNat : Int) = 10) : Skip [c] := fun r line col => by
  have hn : ¬ [45, 45] <+: ([c] ++ r) := by
    intro e
    simp only [List.cons_append, List.nil_append, List.cons_prefix_cons] at e
    rw [← e.1] at h
    revert h; decide
  have hg : gap ([c] ++ r) = 1 := by
    unfold gap
    rw [if_neg hn]
    simp only [List.cons_append, List.nil_append]
    rcases h with h | h | h <;> simp [h]
  refine ⟨lineB [c] line, colB [c] col, ?_⟩
  rw [lx_eq, if_pos (by rw [hg]; decide), hg]
  rfl
theorem tw_self {p : UInt8 → Bool} : ∀ w : Bs, (∀ c ∈ w, p c = true) → w.takeWhile p = w
  | [], _ => rfl
  | c :: w, h => by simp [h c (by simp), tw_self w (fun d hd => h d (by simp [hd]))]
theorem skip_remark (t : Bs) (ht : ∀ c ∈ t, isNl c = false) : Skip ([45, 45] ++ t ++ [10]) := fun r line col => by
  have e : [45, 45] ++ t ++ [10] ++ r = (45 :: 45 :: t) ++ 10 :: r := by simp
  have hg : gap ((45 :: 45 :: t) ++ 10 :: r) = (45 :: 45 :: t).length := by
    unfold gap
    rw [if_pos (by simp), takeWhile_nl (p := fun c => !(isNl c)) rfl]
    congr 1
    exact tw_self _ fun c hc => by
      simp only [List.mem_cons] at hc
      rcases hc with rfl | rfl | hc
      · rfl
      · rfl
      · simp [ht c hc]
  obtain ⟨l1, c1, e1⟩ := skip_one (c := 10) (by decide) r (lineB (45 :: 45 :: t) line) (colB (45 :: 45 :: t) col)
  refine ⟨l1, c1, ?_⟩
  rw [e, lx_eq, if_pos (by rw [hg]; simp), hg, List.drop_left', List.take_left']
  · exact e1
  · rfl
  · rfl
theorem lx_fine {x : Ky} (h : Fine x) {r : Bs} (hr : r = [] ∨ ∃ r', r = 32 :: r') (line col : Int) :
    lx (x.2.1 ++ r) line col = consO ⟨x.1, x.2.1, x.2.2, line, col⟩ (lx r line (col + x.2.1.length)) := by
  obtain ⟨h1, _, h2⟩ := h
  obtain ⟨g, e⟩ := h2 r hr
  rw [lx_eq, if_neg (by rw [g]; decide), e]
  simp only [ne_eq, not_true, if_false]
  rw [if_neg h1, List.drop_left' rfl]
theorem lx_end (line col : Int) : lx [] line col = .inl [⟨0, [], 0, line, col⟩] := by
  rw [lx_eq]; rfl
def gapped (ws : List (Ky × Bs)) : Bs := ws.flatMap fun x => x.1.2.1 ++ x.2
theorem lx_gapped : ∀ ws : List (Ky × Bs), (∀ x ∈ ws, Fine x.1 ∧ (∃ g', x.2 = 32 :: g') ∧ Skip x.2) → ∀ line col, ∃ ts, lx (gapped ws) line col = .inl ts ∧ ts.map key = ws.map (·.1) ++ [(0, [], 0)]
  | [], _, line, col => ⟨_, lx_end line col, rfl⟩
  | x :: ws, h, line, col => by
    obtain ⟨h1, ⟨g', h2⟩, h3⟩ := h x (by simp)
    have e : gapped (x :: ws) = x.1.2.1 ++ (x.2 ++ gapped ws) := by simp [gapped]
    obtain ⟨l1, c1, e1⟩ := h3 (gapped ws) line (col + x.1.2.1.length)
    obtain ⟨ts, e2, e3⟩ := lx_gapped ws (fun y hy => h y (by simp [hy])) l1 c1
    refine ⟨⟨x.1.1, x.1.2.1, x.1.2.2, line, col⟩ :: ts, ?_, ?_⟩
    · rw [e, lx_fine h1 (.inr ⟨g' ++ gapped ws, by rw [h2]; rfl⟩), e1, e2]; rfl
    · simp [e3, key]
/-- Words with one blank between. -/
def joined : List Bs → Bs
  | [] => []
  | [x] => x
  | x :: y :: r => x ++ 32 :: joined (y :: r)
theorem lx_joined : ∀ ws : List Ky, (∀ x ∈ ws, Fine x) → ∀ line col, ∃ ts, lx (joined (ws.map (·.2.1))) line col = .inl ts ∧ ts.map key = ws ++ [(0, [], 0)]
  | [], _, line, col => ⟨_, lx_end line col, rfl⟩
  | [x], h, line, col => by
    refine ⟨[⟨x.1, x.2.1, x.2.2, line, col⟩, ⟨0, [], 0, line, col + x.2.1.length⟩], ?_, rfl⟩
    have := lx_fine (h x (by simp)) (r := []) (.inl rfl) line col
    rw [List.append_nil, lx_end] at this
    exact this
  | x :: y :: r, h, line, col => by
    obtain ⟨l1, c1, e1⟩ := skip_one (c := 32) (by decide) (joined ((y :: r).map (·.2.1))) line (col + x.2.1.length)
    obtain ⟨ts, e2, e3⟩ := lx_joined (y :: r) (fun z hz => h z (by simp [hz])) l1 c1
    refine ⟨⟨x.1, x.2.1, x.2.2, line, col⟩ :: ts, ?_, ?_⟩
    · show lx (x.2.1 ++ 32 :: joined ((y :: r).map (·.2.1))) line col = _
      rw [lx_fine (h x (by simp)) (.inr ⟨_, rfl⟩)]
      have e1' : lx (32 :: joined ((y :: r).map (·.2.1))) line (col + x.2.1.length) = _ := e1
      rw [e1', e2]; rfl
    · simp only [List.map_cons] at e3 ⊢
      rw [e3]; rfl
theorem joined_snoc : ∀ (l : List Bs) (x : Bs), l ≠ [] → joined (l ++ [x]) = joined l ++ 32 :: x
  | [], _, h => absurd rfl h
  | [a], x, _ => rfl
  | a :: b :: r, x, _ => by
    have := joined_snoc (b :: r) x (by simp)
    show a ++ 32 :: joined (b :: r ++ [x]) = (a ++ 32 :: joined (b :: r)) ++ 32 :: x
    rw [this]; simp

/-! The words that the laws make. -/
theorem takeWhile_all {p : UInt8 → Bool} : ∀ (w r : Bs), (∀ c ∈ w, p c = true) → (r = [] ∨ ∃ r', r = 32 :: r') → p 32 = false → (w ++ r).takeWhile p = w
  | [], r, _, hr, hp => by rcases hr with rfl | ⟨r', rfl⟩ <;> simp [hp]
  | c :: w, r, h, hr, hp => by
    simp [h c (by simp), takeWhile_all w r (fun d hd => h d (by simp [hd])) hr hp]
theorem dropWhile_all {p : UInt8 → Bool} : ∀ (w r : Bs), (∀ c ∈ w, p c = true) → (r = [] ∨ ∃ r', r = 32 :: r') → p 32 = false → (w ++ r).dropWhile p = r
  | [], r, _, hr, hp => by rcases hr with rfl | ⟨r', rfl⟩ <;> simp [hp]
  | c :: w, r, h, hr, hp => by
    simp [h c (by simp), dropWhile_all w r (fun d hd => h d (by simp [hd])) hr hp]
theorem not_dashes (c : UInt8) (w r : Bs) (h : c ≠ 45) : ¬ [45, 45] <+: (c :: w ++ r) := by
  intro e
  simp only [List.cons_append, List.cons_prefix_cons] at e
  exact h e.1.symm
theorem gap_zero (c : UInt8) (w r : Bs) (h : ¬ [45, 45] <+: (c :: w ++ r)) (hb : ((c.toNat : Int) == 32 || ((c.toNat : Int) == 9 || (c.toNat : Int) == 10)) = false) : gap (c :: w ++ r) = 0 := by
  unfold gap
  rw [if_neg h]
  simp only [List.cons_append, hb]
  rfl
theorem fine_name (c : UInt8) (w : Bs) (hl : isLetter c = true) (hd : isDigit c = false) (h45 : c ≠ 45) (hb : ((c.toNat : Int) == 32 || ((c.toNat : Int) == 9 || (c.toNat : Int) == 10)) = false) (h95 : c ≠ 95) (hw : ∀ x ∈ w, isPart x = true) (hlen : w.length ≤ 31) :
    Fine (if isKey (c :: w) then (4, c :: w, 0) else if (c.toNat : Int) ≤ 90 then (3, c :: w, 0) else (2, c :: w, 0)) := by
  have main : ∀ r : Bs, (r = [] ∨ ∃ r', r = 32 :: r') → gap (c :: w ++ r) = 0 ∧ word (c :: w ++ r) = (if isKey (c :: w) then ⟨4, c :: w, 0, 0⟩ else if (c.toNat : Int) ≤ 90 then ⟨3, c :: w, 0, 0⟩ else ⟨2, c :: w, 0, 0⟩) := by
    intro r hr
    refine ⟨gap_zero c w r (not_dashes c w r h45) hb, ?_⟩
    have ht : (c :: w ++ r).takeWhile isPart = c :: w := takeWhile_all (c :: w) r (by
      intro x hx
      simp only [List.mem_cons] at hx
      rcases hx with rfl | hx
      · simp [isPart, hl]
      · exact hw x hx) hr rfl
    have e : word (c :: w ++ r) = name (c :: w ++ r) := by
      unfold word
      simp only [List.cons_append]
      rw [if_neg (by rw [hd]; decide), if_pos hl]
    rw [e]
    unfold name
    rw [ht]
    have h95' : ¬ (c :: w).headD 0 = 95 := h95
    rw [if_neg (by simp; omega), if_neg h95']
    rfl
  by_cases h1 : isKey (c :: w) = true
  · rw [if_pos h1]
    refine ⟨show (4 : Int) ≠ 0 by decide, by simp; omega, fun r hr => ?_⟩
    have := main r hr
    rw [if_pos h1] at this
    exact this
  · rw [if_neg h1]
    by_cases h2 : (c.toNat : Int) ≤ 90
    · rw [if_pos h2]
      refine ⟨show (3 : Int) ≠ 0 by decide, by simp; omega, fun r hr => ?_⟩
      have := main r hr
      rw [if_neg h1, if_pos h2] at this
      exact this
    · rw [if_neg h2]
      refine ⟨show (2 : Int) ≠ 0 by decide, by simp; omega, fun r hr => ?_⟩
      have := main r hr
      rw [if_neg h1, if_neg h2] at this
      exact this
theorem vstep_le (n : Int) (c : UInt8) (m : Nat) (h0 : 0 ≤ n) (h : n ≤ m) (hc : isDigit c = true) : 0 ≤ vstep n c ∧ vstep n c ≤ 10 * m + 9 := by
  simp only [isDigit, Bool.and_eq_true, decide_eq_true_eq] at hc
  unfold vstep
  omega
theorem val_le : ∀ (l : Bs) (n : Int) (m : Nat), 0 ≤ n → n ≤ m → (∀ c ∈ l, isDigit c = true) → 0 ≤ l.foldl vstep n ∧ l.foldl vstep n < (m + 1) * 10 ^ l.length
  | [], n, m, h0, h, _ => by simp; omega
  | c :: l, n, m, h0, h, hc => by
    have := vstep_le n c m h0 h (hc c (by simp))
    have := val_le l (vstep n c) (10 * m + 9) this.1 (by simpa using this.2) (fun d hd => hc d (by simp [hd]))
    refine ⟨this.1, ?_⟩
    have h2 := this.2
    simp only [List.foldl_cons, List.length_cons]
    rw [Int.pow_succ]
    have e : ((10 * m + 9 : Nat) : Int) + 1 = (m + 1) * 10 := by omega
    rw [e] at h2
    rw [Int.mul_assoc, Int.mul_comm 10] at h2
    exact h2
theorem fine_number (w : Bs) (hne : w ≠ []) (hw : ∀ x ∈ w, isDigit x = true) (hlen : w.length ≤ 9) : ∃ n, Fine (1, w, n) := by
  obtain ⟨c, v, rfl⟩ : ∃ c v, w = c :: v := by cases w with | nil => exact absurd rfl hne | cons c v => exact ⟨c, v, rfl⟩
  refine ⟨wrapN (val (c :: v)), show (1 : Int) ≠ 0 by decide, by simp at hlen ⊢; omega, fun r hr => ?_⟩
  have hc := hw c (by simp)
  have hc' := hc
  simp only [isDigit, Bool.and_eq_true, decide_eq_true_eq] at hc'
  have hv := (val_le (c :: v) 0 0 (by omega) (by omega) hw).2
  have hp : (10 : Int) ^ (c :: v).length ≤ 10 ^ 9 := by
    have : (10 : Nat) ^ (c :: v).length ≤ 10 ^ 9 := Nat.pow_le_pow_right (by decide) hlen
    exact_mod_cast this
  have hv2 : ¬ (2147483648 < val (c :: v)) := by unfold val; simp only [Int.natCast_zero, Int.zero_add, Int.one_mul] at hv; omega
  refine ⟨gap_zero c v r (not_dashes c v r (by rintro rfl; revert hc; decide)) ?_, ?_⟩
  · simp only [Bool.or_eq_false_iff, beq_eq_false_iff_ne, ne_eq]
    omega
  · have ht : (c :: v ++ r).takeWhile isDigit = c :: v := takeWhile_all (c :: v) r hw hr rfl
    have ha : after (c :: v ++ r) = false := by
      unfold after
      rw [dropWhile_all (c :: v) r hw hr rfl]
      rcases hr with rfl | ⟨r', rfl⟩ <;> rfl
    have e : word (c :: v ++ r) = number (c :: v ++ r) := by
      unfold word
      simp only [List.cons_append]
      rw [if_pos hc]
    simp only
    rw [e]
    unfold number
    rw [ht, if_neg hv2, ha]
    rfl
theorem fine_key : ∀ w ∈ keys, Fine (4, w, 0) := by
  have h : ∀ w ∈ keys, ∃ c v, w = c :: v ∧ isLetter c = true ∧ isDigit c = false ∧ c ≠ 45 ∧ ((c.toNat : Int) == 32 || ((c.toNat : Int) == 9 || (c.toNat : Int) == 10)) = false ∧ c ≠ 95 ∧ (∀ x ∈ v, isPart x = true) ∧ v.length ≤ 31 := by
    intro w hw
    simp only [keys, List.mem_cons, List.not_mem_nil, or_false] at hw
    rcases hw with rfl | rfl | rfl | rfl | rfl | rfl | rfl | rfl | rfl | rfl | rfl | rfl | rfl | rfl | rfl | rfl | rfl | rfl | rfl | rfl | rfl | rfl | rfl | rfl | rfl | rfl | rfl | rfl | rfl | rfl | rfl | rfl <;> exact ⟨_, _, rfl, by decide, by decide, by decide, by decide, by decide, by decide, by decide⟩
  intro w hw
  obtain ⟨c, v, rfl, h1, h2, h3, h4, h5, h6, h7⟩ := h w hw
  have := fine_name c v h1 h2 h3 h4 h5 h6 h7
  have hk : isKey (c :: v) = true := by unfold isKey; exact List.contains_iff_mem.2 hw
  rw [if_pos hk] at this
  exact this
def signs : List Bs := [[40],[41],[61],[43],[45],[42],[47],[60],[62],[59],[58],[44],[124],[60,62],[60,61],[62,61],[45,62]]
theorem fine_sign : ∀ w ∈ signs, Fine (5, w, 0) := by
  intro w hw
  simp only [signs, List.mem_cons, List.not_mem_nil, or_false] at hw
  rcases hw with rfl | rfl | rfl | rfl | rfl | rfl | rfl | rfl | rfl | rfl | rfl | rfl | rfl | rfl | rfl | rfl | rfl
  all_goals (refine ⟨by decide, by decide, fun r hr => ?_⟩; rcases hr with rfl | ⟨r', rfl⟩)
  all_goals simp only [List.cons_append, List.nil_append]
  all_goals refine ⟨?_, ?_⟩
  all_goals first
    | decide
    | (unfold gap; rw [if_neg (by simp)]; rfl)
    | rfl
end Lx
end Go.Proofs.Ytlmfjaaooklhnaa
