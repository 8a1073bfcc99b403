/- The words of a text, as the document says them: a plain function on lists of bytes, and its laws. -/
namespace Go.Proofs.Ytlmfjaaooklhnaa
namespace Lx
abbrev Bs := List UInt8
def isDigit (c : UInt8) : Bool := decide (48 ≤ (c.toNat : Int)) && decide ((c.toNat : Int) ≤ 57)
def isLetter (c : UInt8) : Bool := (decide (97 ≤ (c.toNat : Int)) && decide ((c.toNat : Int) ≤ 122)) || ((decide (65 ≤ (c.toNat : Int)) && decide ((c.toNat : Int) ≤ 90)) || ((c.toNat : Int) == 95))
def isPart (c : UInt8) : Bool := isLetter c || isDigit c
def vstep (n : Int) (c : UInt8) : Int := min (n * 10 + ((c.toNat : Int) - 48)) 2147483649
def val (l : Bs) : Int := l.foldl vstep 0
def isNl (c : UInt8) : Bool := (c.toNat : Int) == 10
def gap (l : Bs) : Nat :=
  if [45, 45] <+: l then (l.takeWhile (fun c => !(isNl c))).length
  else match l with
    | [] => 0
    | c :: _ => if (c.toNat : Int) == 32 || ((c.toNat : Int) == 9 || (c.toNat : Int) == 10) then 1 else 0
def keys : List Bs := [[97,110,100],[97,117,116,111,109,97,116,111,110],[98,111,111,108],[99,111,110,116,105,110,117,101],[100,111],[101,108,115,101],[101,110,100],[101,118,101,114,121],[102,97,108,115,101],[102,98,121],[105,102],[105,110,116],[108,97,115,116],[108,101,116],[109,101,114,103,101],[109,111,100],[110,111,100,101],[110,111,116],[111,114],[112,114,101],[114,101,115,101,116],[114,101,116,117,114,110,115],[115,119,105,116,99,104],[116,101,108],[116,104,101,110],[116,114,117,101],[116,121,112,101],[117,110,108,101,115,115],[117,110,116,105,108],[118,97,114],[119,104,101,110],[120,111,114]]
def isKey (l : Bs) : Bool := keys.contains l
/-- kind, text, number, what is wrong -/
structure Wd where
  k : Int
  t : Bs
  n : Int
  bad : Int
def wrapN (n : Int) : Int := if n = 2147483648 then -2147483648 else n
def after (l : Bs) : Bool := match l.dropWhile isDigit with | [] => false | c :: _ => isLetter c
def number (l : Bs) : Wd :=
  let d := l.takeWhile isDigit
  if 2147483648 < val d then ⟨0, [], 0, 3⟩
  else if after l then ⟨0, [], 0, 1⟩
  else ⟨1, d, wrapN (val d), 0⟩
def name (l : Bs) : Wd :=
  let d := l.takeWhile isPart
  if 32 < d.length then ⟨0, [], 0, 3⟩
  else if d.headD 0 = 95 then ⟨0, [], 0, 1⟩
  else if isKey d then ⟨4, d, 0, 0⟩
  else if ((d.headD 0).toNat : Int) ≤ 90 then ⟨3, d, 0, 0⟩
  else ⟨2, d, 0, 0⟩
def twos : List Bs := [[60,62],[60,61],[62,61],[45,62]]
def ones : Bs := [40,41,61,43,45,42,47,60,62,59,58,44,124]
def sign (l : Bs) : Wd :=
  if twos.contains (l.take 2) then ⟨5, l.take 2, 0, 0⟩
  else if ones.contains (l.headD 0) then ⟨5, l.take 1, 0, 0⟩
  else ⟨0, [], 0, 1⟩
def word (l : Bs) : Wd :=
  match l with
  | [] => ⟨0, [], 0, 0⟩
  | c :: _ => if isDigit c then number l else if isLetter c then name l else sign l
structure Tok where
  k : Int
  t : Bs
  n : Int
  line : Int
  col : Int
abbrev Out := Sum (List Tok) (Int × Int × Int)
def consO (t : Tok) : Out → Out
  | .inl l => .inl (t :: l)
  | .inr e => .inr e
def lineB (l : Bs) (line : Int) : Int := if l == [10] then line + 1 else line
def colB (l : Bs) (col : Int) : Int := if l == [10] then 1 else col + l.length
def lxF : Nat → Bs → Int → Int → Out
  | 0, _, _, _ => .inl []
  | f + 1, l, line, col =>
    if 0 < gap l then lxF f (l.drop (gap l)) (lineB (l.take (gap l)) line) (colB (l.take (gap l)) col)
    else if (word l).bad ≠ 0 then .inr ((word l).bad, line, col)
    else if (word l).k = 0 then .inl [⟨0, [], 0, line, col⟩]
    else consO ⟨(word l).k, (word l).t, (word l).n, line, col⟩ (lxF f (l.drop (word l).t.length) line (col + (word l).t.length))
def lx (l : Bs) (line col : Int) : Out := lxF (l.length + 1) l line col

theorem gap_le (l : Bs) : gap l ≤ l.length := by
  unfold gap
  split
  · exact (List.takeWhile_prefix _).length_le
  · cases l with
    | nil => simp
    | cons c r => simp; split <;> omega
theorem gap_nil : gap [] = 0 := by simp [gap]
theorem takeWhile_pos {p : UInt8 → Bool} {c : UInt8} {r : Bs} (h : p c = true) : 0 < ((c :: r).takeWhile p).length := by simp [h]
def Good (l : Bs) (x : Wd) : Prop := x.bad = 0 → x.k ≠ 0 → 0 < x.t.length ∧ x.t.length ≤ l.length
theorem Good.bad {l : Bs} (k : Int) (t : Bs) (n b : Int) (h : b ≠ 0) : Good l ⟨k, t, n, b⟩ := fun h' => absurd h' h
theorem Good.tok {l : Bs} (k : Int) (t : Bs) (n b : Int) (h1 : 0 < t.length) (h2 : t.length ≤ l.length) : Good l ⟨k, t, n, b⟩ := fun _ _ => ⟨h1, h2⟩
theorem Good.ite {l : Bs} {c : Prop} [Decidable c] {x y : Wd} (hx : Good l x) (hy : Good l y) : Good l (if c then x else y) := by split <;> assumption
theorem number_good {c : UInt8} {r : Bs} (hd : isDigit c = true) : Good (c :: r) (number (c :: r)) := by
  unfold number
  exact .ite (.bad _ _ _ _ (by decide)) (.ite (.bad _ _ _ _ (by decide)) (.tok _ _ _ _ (takeWhile_pos hd) (List.takeWhile_prefix _).length_le))
theorem name_good {c : UInt8} {r : Bs} (hd : isPart c = true) : Good (c :: r) (name (c :: r)) := by
  unfold name
  have h1 := takeWhile_pos (r := r) hd
  have h2 : ((c :: r).takeWhile isPart).length ≤ (c :: r).length := (List.takeWhile_prefix _).length_le
  exact .ite (.bad _ _ _ _ (by decide)) (.ite (.bad _ _ _ _ (by decide)) (.ite (.tok _ _ _ _ h1 h2) (.ite (.tok _ _ _ _ h1 h2) (.tok _ _ _ _ h1 h2))))
theorem sign_good {c : UInt8} {r : Bs} : Good (c :: r) (sign (c :: r)) := by
  unfold sign
  exact .ite (.tok _ _ _ _ (by simp) (by simp; omega)) (.ite (.tok _ _ _ _ (by simp) (by simp)) (.bad _ _ _ _ (by decide)))
theorem word_good {l : Bs} : Good l (word l) := by
  cases l with
  | nil => exact fun _ h => absurd rfl h
  | cons c r =>
    unfold word
    simp only
    by_cases hd : isDigit c = true
    · rw [if_pos hd]; exact number_good hd
    · rw [if_neg hd]
      by_cases hl : isLetter c = true
      · rw [if_pos hl]; exact name_good (by simp [isPart, hl])
      · rw [if_neg hl]; exact sign_good
def Kok (x : Wd) : Prop := x.bad = 0 → x.k ≠ 0
theorem Kok.bad (k : Int) (t : Bs) (n b : Int) (h : b ≠ 0) : Kok ⟨k, t, n, b⟩ := fun h' => absurd h' h
theorem Kok.tok (k : Int) (t : Bs) (n b : Int) (h : k ≠ 0) : Kok ⟨k, t, n, b⟩ := fun _ => h
theorem Kok.ite {c : Prop} [Decidable c] {x y : Wd} (hx : Kok x) (hy : Kok y) : Kok (if c then x else y) := by split <;> assumption
theorem word_k (c : UInt8) (r : Bs) : Kok (word (c :: r)) := by
  have b := fun (k : Int) (t : Bs) (n : Int) (b : Int) (h : b ≠ 0) => Kok.bad k t n b h
  unfold word
  refine .ite ?_ (.ite ?_ ?_)
  · unfold number
    exact .ite (.bad _ _ _ _ (by decide)) (.ite (.bad _ _ _ _ (by decide)) (.tok _ _ _ _ (by decide)))
  · unfold name
    exact .ite (.bad _ _ _ _ (by decide)) (.ite (.bad _ _ _ _ (by decide)) (.ite (.tok _ _ _ _ (by decide)) (.ite (.tok _ _ _ _ (by decide)) (.tok _ _ _ _ (by decide)))))
  · unfold sign
    exact .ite (.tok _ _ _ _ (by decide)) (.ite (.tok _ _ _ _ (by decide)) (.bad _ _ _ _ (by decide)))
theorem lxF_fuel : ∀ (f g : Nat) (l : Bs) (line col : Int), l.length < f → l.length < g → lxF f l line col = lxF g l line col
  | 0, _, _, _, _, h, _ => by omega
  | _ + 1, 0, _, _, _, _, h => by omega
  | f + 1, g + 1, l, line, col, hf, hg => by
    unfold lxF
    by_cases hG : 0 < gap l
    · rw [if_pos hG, if_pos hG]
      have := gap_le l
      exact lxF_fuel f g _ _ _ (by simp; omega) (by simp; omega)
    · rw [if_neg hG, if_neg hG]
      by_cases hb : (word l).bad ≠ 0
      · rw [if_pos hb, if_pos hb]
      · rw [if_neg hb, if_neg hb]
        by_cases hk : (word l).k = 0
        · rw [if_pos hk, if_pos hk]
        · rw [if_neg hk, if_neg hk]
          have := word_good (l := l) (by omega) hk
          rw [lxF_fuel f g _ _ _ (by simp; omega) (by simp; omega)]
theorem lx_eq (l : Bs) (line col : Int) : lx l line col =
    if 0 < gap l then lx (l.drop (gap l)) (lineB (l.take (gap l)) line) (colB (l.take (gap l)) col)
    else if (word l).bad ≠ 0 then .inr ((word l).bad, line, col)
    else if (word l).k = 0 then .inl [⟨0, [], 0, line, col⟩]
    else consO ⟨(word l).k, (word l).t, (word l).n, line, col⟩ (lx (l.drop (word l).t.length) line (col + (word l).t.length)) := by
  conv => lhs; unfold lx lxF
  by_cases hG : 0 < gap l
  · rw [if_pos hG, if_pos hG]
    have := gap_le l
    exact lxF_fuel _ _ _ _ _ (by simp; omega) (by simp)
  · rw [if_neg hG, if_neg hG]
    by_cases hb : (word l).bad ≠ 0
    · rw [if_pos hb, if_pos hb]
    · rw [if_neg hb, if_neg hb]
      by_cases hk : (word l).k = 0
      · rw [if_pos hk, if_pos hk]
      · rw [if_neg hk, if_neg hk]
        have := word_good (l := l) (by omega) hk
        unfold lx
        rw [lxF_fuel l.length ((l.drop (word l).t.length).length + 1) _ _ _ (by simp; omega) (by simp)]

/-- Two outputs that are alike but for places. -/
def sameT (a b : Tok) : Prop := a.k = b.k ∧ a.t = b.t ∧ a.n = b.n
def likeO : Out → Out → Prop
  | .inl l, .inl m => l.length = m.length ∧ ∀ (i : Nat) (a b : Tok), l[i]? = some a → m[i]? = some b → sameT a b
  | .inr (k, _, _), .inr (k', _, _) => k = k'
  | _, _ => False
theorem like_cons {a b : Tok} {x y : Out} (h : sameT a b) (hx : likeO x y) : likeO (consO a x) (consO b y) := by
  rcases x with x | ⟨a1, a2, a3⟩ <;> rcases y with y | ⟨b1, b2, b3⟩ <;> simp only [likeO, consO] at hx ⊢
  · refine ⟨by simp [hx.1], fun i c d => ?_⟩
    cases i with
    | zero => simp; rintro rfl rfl; exact h
    | succ i => simp; exact hx.2 i c d
  · exact hx
theorem lxF_like : ∀ (f : Nat) (l : Bs) (line col line' col' : Int), likeO (lxF f l line col) (lxF f l line' col')
  | 0, _, _, _, _, _ => by simp [lxF, likeO]
  | f + 1, l, line, col, line', col' => by
    unfold lxF
    by_cases hG : 0 < gap l
    · rw [if_pos hG, if_pos hG]
      exact lxF_like f _ _ _ _ _
    · rw [if_neg hG, if_neg hG]
      by_cases hb : (word l).bad ≠ 0
      · rw [if_pos hb, if_pos hb]; simp [likeO]
      · rw [if_neg hb, if_neg hb]
        by_cases hk : (word l).k = 0
        · rw [if_pos hk, if_pos hk]
          refine ⟨rfl, fun i a b => ?_⟩
          cases i with
          | zero => simp; rintro rfl rfl; exact ⟨rfl, rfl, rfl⟩
          | succ i => simp
        · rw [if_neg hk, if_neg hk]
          exact like_cons ⟨rfl, rfl, rfl⟩ (lxF_like f _ _ _ _ _)
theorem lx_like (l : Bs) (line col line' col' : Int) : likeO (lx l line col) (lx l line' col') := lxF_like _ _ _ _ _ _
def appO : Out → Out → Out
  | .inr e, _ => .inr e
  | .inl _, .inr e => .inr e
  | .inl l, .inl m => .inl (l.dropLast ++ m)
theorem takeWhile_nl {p : UInt8 → Bool} (hp : p 10 = false) : ∀ (x y : Bs), (x ++ 10 :: y).takeWhile p = x.takeWhile p
  | [], y => by simp [hp]
  | c :: x, y => by
    by_cases h : p c = true
    · simp [h, takeWhile_nl hp x y]
    · simp [h]
theorem after_nl : ∀ (x y z : Bs), after (x ++ 10 :: y) = after (x ++ 10 :: z)
  | [], y, z => by simp [after, show isDigit 10 = false from rfl]
  | c :: x, y, z => by
    have := after_nl x y z
    unfold after at this ⊢
    by_cases h : isDigit c = true
    · simpa [h] using this
    · simp [h]
theorem pre2_nl : ∀ (x y z : Bs), ([45, 45] <+: (x ++ 10 :: y)) ↔ ([45, 45] <+: (x ++ 10 :: z))
  | [], y, z => by simp
  | [c], y, z => by simp
  | c :: d :: x, y, z => by simp
theorem take2_nl : ∀ (c : UInt8) (x y z : Bs), (c :: x ++ 10 :: y).take 2 = (c :: x ++ 10 :: z).take 2
  | c, [], y, z => by simp
  | c, d :: x, y, z => by simp
theorem gap_nl (c : UInt8) (x y z : Bs) : gap (c :: x ++ 10 :: y) = gap (c :: x ++ 10 :: z) := by
  unfold gap
  have h := pre2_nl (c :: x) y z
  by_cases h1 : [45, 45] <+: (c :: x ++ 10 :: y)
  · rw [if_pos h1, if_pos (h.1 h1), takeWhile_nl (p := fun c => !(isNl c)) rfl, takeWhile_nl (p := fun c => !(isNl c)) rfl]
  · rw [if_neg h1, if_neg (fun g => h1 (h.2 g))]
    rfl
theorem gap_nl_le (c : UInt8) (x y : Bs) : gap (c :: x ++ 10 :: y) ≤ (c :: x).length := by
  unfold gap
  by_cases h1 : [45, 45] <+: (c :: x ++ 10 :: y)
  · rw [if_pos h1, takeWhile_nl (p := fun c => !(isNl c)) rfl]
    exact (List.takeWhile_prefix _).length_le
  · rw [if_neg h1]
    simp only [List.cons_append, List.length_cons]
    split <;> omega
theorem word_nl (c : UInt8) (x y z : Bs) : word (c :: x ++ 10 :: y) = word (c :: x ++ 10 :: z) := by
  have hn : number (c :: x ++ 10 :: y) = number (c :: x ++ 10 :: z) := by
    unfold number
    rw [takeWhile_nl (p := isDigit) rfl, takeWhile_nl (p := isDigit) rfl, after_nl (c :: x) y z]
  have hm : name (c :: x ++ 10 :: y) = name (c :: x ++ 10 :: z) := by
    unfold name
    rw [takeWhile_nl (p := isPart) rfl, takeWhile_nl (p := isPart) rfl]
  have hs : sign (c :: x ++ 10 :: y) = sign (c :: x ++ 10 :: z) := by
    unfold sign
    rw [take2_nl c x y z]
    rfl
  unfold word
  simp only [List.cons_append] at hn hm hs ⊢
  rw [hn, hm, hs]
theorem word_nl_le (c : UInt8) (x y : Bs) (hb : (word (c :: x ++ 10 :: y)).bad = 0) (hk : (word (c :: x ++ 10 :: y)).k ≠ 0) : (word (c :: x ++ 10 :: y)).t.length ≤ (c :: x).length := by
  have key : ∀ w : Wd, (w.t = [] ∨ w.t = (c :: x).takeWhile isDigit ∨ w.t = (c :: x).takeWhile isPart ∨ w.t = [c] ∨ (twos.contains w.t = true ∧ w.t = (c :: x ++ 10 :: y).take 2)) → w.t.length ≤ (c :: x).length := by
    rintro w (h | h | h | h | ⟨h, h2⟩)
    · rw [h]; simp
    · rw [h]; exact (List.takeWhile_prefix _).length_le
    · rw [h]; exact (List.takeWhile_prefix _).length_le
    · rw [h]; simp
    · cases x with
      | nil =>
        simp at h2
        rw [h2] at h
        simp [twos] at h
      | cons d x => rw [h2]; simp
  apply key
  unfold word
  simp only [List.cons_append]
  by_cases hd : isDigit c = true
  · rw [if_pos hd]
    unfold number
    have e := takeWhile_nl (p := isDigit) rfl (c :: x) y
    simp only [List.cons_append] at e
    simp only [e]
    split
    · exact .inl rfl
    · split
      · exact .inl rfl
      · exact .inr (.inl rfl)
  · rw [if_neg hd]
    by_cases hl : isLetter c = true
    · rw [if_pos hl]
      unfold name
      have e := takeWhile_nl (p := isPart) rfl (c :: x) y
      simp only [List.cons_append] at e
      simp only [e]
      split
      · exact .inl rfl
      · split
        · exact .inl rfl
        · split
          · exact .inr (.inr (.inl rfl))
          · split <;> exact .inr (.inr (.inl rfl))
    · rw [if_neg hl]
      unfold sign
      split
      · rename_i h
        exact .inr (.inr (.inr (.inr ⟨h, rfl⟩)))
      · split
        · exact .inr (.inr (.inr (.inl rfl)))
        · exact .inl rfl
theorem app_cons (t : Tok) (x y : Out) (hx : x ≠ .inl []) : consO t (appO x y) = appO (consO t x) y := by
  cases x with
  | inr => rfl
  | inl l =>
    cases y with
    | inr => rfl
    | inl m =>
      cases l with
      | nil => exact absurd rfl hx
      | cons a l => rfl
theorem cons_ne (t : Tok) (x : Out) : consO t x ≠ .inl [] := by cases x <;> simp [consO]
theorem lxF_ne : ∀ (f : Nat) (l : Bs) (line col : Int), l.length < f → lxF f l line col ≠ .inl []
  | 0, _, _, _, h => by omega
  | f + 1, l, line, col, hf => by
    unfold lxF
    by_cases hG : 0 < gap l
    · rw [if_pos hG]
      have := gap_le l
      exact lxF_ne f _ _ _ (by simp; omega)
    · rw [if_neg hG]
      by_cases hb : (word l).bad ≠ 0
      · rw [if_pos hb]; simp
      · rw [if_neg hb]
        by_cases hk : (word l).k = 0
        · rw [if_pos hk]; simp
        · rw [if_neg hk]
          exact cons_ne _ _
theorem lx_ne (l : Bs) (line col : Int) : lx l line col ≠ .inl [] := lxF_ne _ _ _ _ (by omega)
theorem app_end (t : Tok) (y : Out) : appO (.inl [t]) y = y := by cases y <;> rfl
theorem lx_cut : ∀ (n : Nat) (x y : Bs) (line col : Int), x.length ≤ n → ∃ line', lx (x ++ 10 :: y) line col = appO (lx (x ++ [10]) line col) (lx y line' 1)
  | n, [], y, line, col, _ => by
    refine ⟨line + 1, ?_⟩
    have g1 : ∀ z : Bs, gap (10 :: z) = 1 := fun z => by simp [gap]
    have e : ∀ z : Bs, lx (10 :: z) line col = lx z (line + 1) 1 := fun z => by
      rw [lx_eq, if_pos (by rw [g1]; omega), g1]
      simp [lineB, colB]
    simp only [List.nil_append]
    rw [e, e, lx_eq [], if_neg (by simp [gap_nil])]
    exact (app_end _ _).symm
  | 0, c :: x, y, _, _, h => by simp at h
  | n + 1, c :: x, y, line, col, h => by
    have hg := gap_nl c x y []
    have hw := word_nl c x y []
    have hgl := gap_nl_le c x []
    rw [lx_eq (c :: x ++ 10 :: y), lx_eq (c :: x ++ [10]), hg, hw]
    by_cases hG : 0 < gap (c :: x ++ [10])
    · rw [if_pos hG, if_pos hG]
      rw [List.drop_append_of_le_length hgl, List.drop_append_of_le_length hgl, List.take_append_of_le_length hgl, List.take_append_of_le_length hgl]
      refine lx_cut n _ _ _ _ ?_
      simp only [List.length_drop, List.length_cons] at h ⊢
      omega
    · rw [if_neg hG, if_neg hG]
      by_cases hb : (word (c :: x ++ [10])).bad ≠ 0
      · rw [if_pos hb, if_pos hb]; exact ⟨0, rfl⟩
      · rw [if_neg hb, if_neg hb]
        by_cases hk : (word (c :: x ++ [10])).k = 0
        · have hk2 := word_k c (x ++ [10])
          simp only [List.cons_append] at hk hb
          exact absurd hk (hk2 (by omega))
        · rw [if_neg hk, if_neg hk]
          have hwl := word_nl_le c x [] (by omega) hk
          have hpos := (word_good (l := c :: x ++ [10]) (by omega) hk).1
          rw [List.drop_append_of_le_length hwl, List.drop_append_of_le_length hwl]
          obtain ⟨line', e⟩ := lx_cut n (List.drop (word (c :: x ++ [10])).t.length (c :: x)) y line (col + (word (c :: x ++ [10])).t.length) (by simp only [List.length_drop, List.length_cons] at h ⊢; omega)
          refine ⟨line', ?_⟩
          rw [e]
          exact app_cons _ _ _ (lx_ne _ _ _)
end Lx
end Go.Proofs.Ytlmfjaaooklhnaa
