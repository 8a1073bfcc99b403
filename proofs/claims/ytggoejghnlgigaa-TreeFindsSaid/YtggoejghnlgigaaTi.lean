/- A constructor's number, by the program; the constructors of a type, by both. -/
import Derived.Test.YtggoejghnlgigaaTh
import Derived.Test.YtggoejghnlgigaaShelf
namespace Go.Proofs.Ytggoejghnlgigaa
open Go.ChangeShapes Go.WideShapes Go.ChangeAt Go.RowKit Go.Maps
namespace Tx
set_option linter.unusedVariables false
set_option linter.unusedSimpArgs false
theorem bel_drewN {N : Nat} {W w : World} (h : Below N W w) (n : Nat) : Below N W (w.drewN n) := ⟨h.os, h.tape, h.output, h.size, h.block⟩
theorem NamesIn.small {B : Nat → Prop} {w : World} {v : Value} {ns : List ByteArray} (h : NamesIn B w v ns) : ∀ s ∈ ns, s.size ≤ maxLen := by
  intro s hs
  rcases h with ⟨_, rfl⟩ | ⟨b, o, cap, e, h1, h2, h3, h4⟩
  · cases hs
  · obtain ⟨i, hi, rfl⟩ := List.mem_iff_getElem.1 hs
    exact (h4 i _ (List.getElem?_eq_getElem hi)).1
theorem names_of_own {w' : World} {base : Nat} {t : TypeId} {v' : Value} {ns : List ByteArray} (h : w'.ownsRow base t 1 v' ns.length (ns.map Value.string)) (hs : ∀ s ∈ ns, s.size ≤ maxLen) : NamesIn (fun k => k < w'.heap.size) w' v' ns := by
  rcases h.2 with ⟨hv, h0⟩ | ⟨g, cap, cur, hv, h1, h2, h3, h4, h5, h6⟩
  · exact .inl ⟨⟨none, 0, hv⟩, List.length_eq_zero_iff.1 h0⟩
  · refine .inr ⟨g, 0, cap, hv, h3, h4, (Array.getElem?_eq_some_iff.1 h2).1, fun i s hi => ⟨hs s (List.mem_of_getElem? hi), ?_⟩⟩
    have hc := h.cells (g := g) (by rw [hv]; rfl) i (.string s) (by rw [List.getElem?_map, hi]; rfl)
    have hadd : (⟨g, 0, none⟩ : Addr).add i = ⟨g, i, none⟩ := by unfold Addr.add; split <;> simp_all
    rw [hadd] at hc
    rw [Nat.zero_add]
    exact hc
theorem NamesIn.lift {B : Nat → Prop} {w w' : World} {v : Value} {ns : List ByteArray} (h : NamesIn B w v ns) (hl : ∀ k, B k → k < w.heap.size) (hb : Below w.heap.size w w') : NamesIn (fun k => k < w'.heap.size) w' v ns :=
  (h.keep fun b o u hB hc => (hb.cell (p := ⟨b, o, none⟩) (hl b hB)).trans hc).mono fun k hk => Nat.lt_of_lt_of_le (hl k hk) hb.size
/-- A list of names is answered. -/
def Gives (ns : List ByteArray) (W : World) (e : Ending) (w' : World) : Prop := ∃ v', e = .returned v' ∧ Below W.heap.size W w' ∧ NamesIn (fun k => k < w'.heap.size) w' v' ns
set_option maxHeartbeats 1000000 in
theorem clone_any (B : Nat → Prop) (w : World) (v : Value) (ns : List ByteArray) (h : NamesIn B w v ns) (h40 : ns.length ≤ 40) : Calls Try.prog 41 #[v] w (Gives ns w) := by
  have hs := h.small
  rcases h with ⟨⟨a, c, rfl⟩, rfl⟩ | ⟨b, o, cap, rfl, h1, h2, h3, h4⟩
  · cases a with
    | none =>
      refine (Try.slices_Clone_string_nil 0 c w).mono ?_
      rintro e w' ⟨rfl, rfl⟩
      exact ⟨_, rfl, Below.refl _ _, .inl ⟨⟨_, _, rfl⟩, rfl⟩⟩
    | some a =>
      refine (Try.slices_Clone_string_zero a c w).mono ?_
      rintro e w' ⟨v', rfl, ho, _, hb⟩
      exact ⟨v', rfl, hb, names_of_own (ns := []) ho (by simp)⟩
  · refine (Try.slices_Clone_string b o ns.length cap ns w (Nat.le_refl _) (by omega) (fun j hj => ?_)).mono ?_
    · rw [(h4 j ns[j] (List.getElem?_eq_getElem hj)).2]
      simp [List.getD, hj]
    · rintro e w' ⟨v', rfl, ho, _, hb⟩
      rw [List.take_length] at ho
      exact ⟨v', rfl, hb, names_of_own ho hs⟩
theorem ctorAt_cases (s : ByteArray) : ∀ (ts : List En) (k : Nat), ctorAt s ts k = (-1, -1) ∨ ∃ i t, ts[i]? = some t ∧ ctorAt s ts k = (((k + i : Nat) : Int), ixOf (isS s) t.cs 0) ∧ 0 ≤ ixOf (isS s) t.cs 0
  | [], k => .inl rfl
  | t :: r, k => by
    have e : ctorAt s (t :: r) k = if 0 ≤ ixOf (isS s) t.cs 0 then ((k : Int), ixOf (isS s) t.cs 0) else ctorAt s r (k + 1) := rfl
    rw [e]
    by_cases h : 0 ≤ ixOf (isS s) t.cs 0
    · exact .inr ⟨0, t, rfl, by rw [if_pos h]; rfl, h⟩
    · rw [if_neg h]
      rcases ctorAt_cases s r (k + 1) with h1 | ⟨i, t', h1, h2, h3⟩
      · exact .inl h1
      · exact .inr ⟨i + 1, t', h1, by rw [h2, show k + 1 + i = k + (i + 1) by omega], h3⟩
set_option maxRecDepth 100000 in
set_option maxHeartbeats 4000000 in
theorem value_ctor (B : Nat → Prop) (s : ByteArray) (W : World) (v : Value) (ts : List En) (hr : EnsIn B W v ts) (h40 : ∀ t ∈ ts, t.cs.length ≤ 40) (n : Int) (ok : Bool) (hn : (ok, n) = if 0 ≤ (ctorAt s ts 0).1 then (true, (ctorAt s ts 0).2) else (false, 0)) :
    Calls Try.prog 17 #[v, exp 3 0 0 s (.slice none 0 0) (.slice none 0 0)] W (Makes W (.tuple #[.int .i32 n, .bool ok])) := by
  have hfst := ctorAt_fst s ts 0
  obtain ⟨ao, c, rfl⟩ := hr.row.form
  have HR := Lib.hid hr
  obtain ⟨N, hN⟩ : ∃ N, ts.length = N := ⟨_, rfl⟩
  rw [hN]
  have HN := Lib.hid hN
  have hb1 : ∀ o, Below W.heap.size W (W.alloc o) := fun o => (Below.refl _ _).alloc (Nat.le_refl _) _
  unfold exp
  rcases ctorAt_cases s ts 0 with h | ⟨i, t, hi, h, h0⟩
  · rw [h] at hn hfst
    rw [if_neg (by decide)] at hn
    obtain ⟨rfl, rfl⟩ := Prod.mk.inj hn
    clear hr hN hn h
    go_enter Try.func17, Try.ntmps17
    go_wp2_with fail
    generalize hW2 : W.alloc _ = W2
    have hb2 : Below W.heap.size W W2 := by rw [← hW2]; exact hb1 _
    have g2 : W2.heap[W.heap.size]? = some (.cells #[.int .u8 3, .int .u8 0, .int .i32 0, .string s, .slice none 0 0, .slice none 0 0, .int .i64 0, .int .i64 0] 30 (0, 0)) := by rw [← hW2]; exact alloc_at W _
    clear hW2 hb1
    have hr1 := HR.out.below hb2
    rw [HN.out] at hr1
    refine (ctorEnum_any B s _ _ ts hr1).mono ?_
    rintro e w1 ⟨rfl, hb⟩
    rw [← hfst]
    have HB := Lib.hid (bel hb2 hb2.size hb)
    clear hr1 hb hb2 hfst g2
    go_wp2
    exact bodyPost_ret (v := .tuple #[.int .i32 0, .bool false]) (by simp [results, Try.results17, go_sem]) rfl ⟨rfl, HB.out⟩
  · rw [h] at hn hfst
    rw [if_pos (by simp)] at hn
    obtain ⟨rfl, rfl⟩ := Prod.mk.inj hn
    rw [Nat.zero_add] at hfst
    have hiN : i < N := by have := (List.getElem?_eq_some_iff.1 hi).1; omega
    have HI := Lib.hid hi
    have hrange := ixOf_range (p := isS s) t.cs 0
    have hm := h40 t (List.mem_of_getElem? hi)
    generalize hq : ixOf (isS s) t.cs 0 = q at h0 hrange
    have HQ := Lib.hid hq
    have hq40 : q < 40 := by omega
    have hqw : IntKind.i32.wrap q = q := IntWalk.i32_in q (by omega)
    clear hr hN hn h hi hq hm hrange
    go_enter Try.func17, Try.ntmps17
    go_wp2_with fail
    generalize hW2 : W.alloc _ = W2
    have hb2 : Below W.heap.size W W2 := by rw [← hW2]; exact hb1 _
    have g2 : W2.heap[W.heap.size]? = some (.cells #[.int .u8 3, .int .u8 0, .int .i32 0, .string s, .slice none 0 0, .slice none 0 0, .int .i64 0, .int .i64 0] 30 (0, 0)) := by rw [← hW2]; exact alloc_at W _
    clear hW2 hb1
    have hr1 := HR.out.below hb2
    rw [HN.out] at hr1
    refine (ctorEnum_any B s _ _ ts hr1).mono ?_
    rintro e w1 ⟨rfl, hb⟩
    rw [← hfst]
    have HB := Lib.hid (bel hb2 hb2.size hb)
    have hr2 := hr1.below hb
    obtain ⟨b, t', a1, c1, rfl, ht', hv, e0, e1, hn1⟩ := hr2.at (i := i) (by have := HN.out; omega)
    obtain rfl : t' = t := Option.some.inj (ht'.symm.trans HI.out)
    have g3 : w1.heap[W.heap.size]? = _ := (hb.block W.heap.size (Array.getElem?_eq_some_iff.1 g2).1).trans g2
    obtain ⟨x0, x1, x2, x3, x4, x5, x6, x7⟩ := cells8 g3
    have HN1 := Lib.hid hn1
    clear hr1 hr2 hb hb2 hfst g2 g3 ht' hv e0 hn1
    go_wp2_with fail
    clear x0 x1 x2 x4 x5 x6 x7
    have HI2 : Hid (∀ n, Calls Try.prog 42 #[.slice a1 t'.cs.length c1, .string s] (w1.drewN n) (fun e w' => e = .returned (.int .i64 q) ∧ w' = w1.drewN n)) := Lib.hid (fun n => by
      have h := index_any B s (w1.drewN n) _ t'.cs (HN1.out.keep (fun b o v hb hc => hc))
      rw [HQ.out] at h
      exact h)
    go_quiet ((go_at_call 42; exact Calls.quiet_of_same (HI2.out _)))
    go_wp2
    exact bodyPost_ret (v := .tuple #[.int .i32 q, .bool true]) (by simp [results, Try.results17, go_sem]) rfl ⟨rfl, bel_drewN HB.out nq⟩
/-- The constructors of the first type of a name. -/
def firstEn (s : ByteArray) : List En → List ByteArray
  | [] => []
  | t :: r => if isS s t.nm = true then t.cs else firstEn s r
theorem first_cases (s : ByteArray) : ∀ (ts : List En) (k : Nat), (ixOf (fun t => isS s t.nm) ts k = -1 ∧ firstEn s ts = []) ∨ ∃ i t, ts[i]? = some t ∧ ixOf (fun t => isS s t.nm) ts k = ((k + i : Nat) : Int) ∧ firstEn s ts = t.cs
  | [], k => .inl ⟨rfl, rfl⟩
  | t :: r, k => by
    have e : ixOf (fun t => isS s t.nm) (t :: r) k = if isS s t.nm = true then (k : Int) else ixOf (fun t => isS s t.nm) r (k + 1) := rfl
    have e2 : firstEn s (t :: r) = if isS s t.nm = true then t.cs else firstEn s r := rfl
    rw [e, e2]
    by_cases h : isS s t.nm = true
    · exact .inr ⟨0, t, rfl, by rw [if_pos h]; rfl, by rw [if_pos h]⟩
    · rw [if_neg h, if_neg h]
      rcases first_cases s r (k + 1) with h1 | ⟨i, t', h1, h2, h3⟩
      · exact .inl h1
      · exact .inr ⟨i + 1, t', h1, by rw [h2, show k + 1 + i = k + (i + 1) by omega], h3⟩
theorem firstEn_drop {s : ByteArray} {ts : List En} {i : Nat} {t : En} (h : ts[i]? = some t) : firstEn s (ts.drop i) = if isS s t.nm = true then t.cs else firstEn s (ts.drop (i + 1)) := by
  obtain ⟨hi, rfl⟩ := List.getElem?_eq_some_iff.1 h
  rw [List.drop_eq_getElem_cons hi]
  rfl
theorem firstEn_end {s : ByteArray} {ts : List En} {i : Nat} (h : ts.length ≤ i) : firstEn s (ts.drop i) = [] := by
  rw [List.drop_eq_nil_of_le h]
  rfl
def bTF : List ByteArray := [⟨#[102, 97, 108, 115, 101]⟩, ⟨#[116, 114, 117, 101]⟩]
def ctorsOf (k : Int) (s : ByteArray) (ts : List En) : List ByteArray := if (k == 1) = true then bTF else if (k == 3) = true then firstEn s ts else []
theorem gives_bools {W W1 : World} (hb : Below W.heap.size W W1) (v' : Value) (g : Nat) (hv : v' = .slice (some ⟨g, 0, none⟩) 2 2) (w' : World) (hb1 : Below W1.heap.size W1 w') (hg : w'.heap[g]? = some (.cells #[.string ⟨#[102, 97, 108, 115, 101]⟩, .string ⟨#[116, 114, 117, 101]⟩] 9 (0, 0))) : Gives bTF W (.returned v') w' := by
  refine ⟨v', rfl, bel hb hb.size hb1, .inr ⟨g, 0, 2, hv, by decide, by decide, (Array.getElem?_eq_some_iff.1 hg).1, fun i s hi => ?_⟩⟩
  rw [Nat.zero_add, cell_of_row w' g i _ _ _ hg]
  rcases i with _ | _ | i
  · obtain rfl := Option.some.inj hi; exact ⟨by decide, rfl⟩
  · obtain rfl := Option.some.inj hi; exact ⟨by decide, rfl⟩
  · simp [bTF] at hi
theorem gives_nil {W w' : World} (hb : Below W.heap.size W w') : Gives [] W (.returned (.slice none 0 0)) w' := ⟨_, rfl, hb, .inl ⟨⟨_, _, rfl⟩, rfl⟩⟩
set_option maxRecDepth 100000 in
set_option maxHeartbeats 4000000 in
theorem treeCtors_any (B : Nat → Prop) (s : ByteArray) (hs : s.size ≤ maxLen) (k : Int) (W : World) (v : Value) (ts : List En) (hr : EnsIn B W v ts) (h40 : ∀ t ∈ ts, t.cs.length ≤ 40) :
    Calls Try.prog 15 #[v, .agg #[.int .u8 k, .string s]] W (Gives (ctorsOf k s ts) W) := by
  obtain ⟨ao, c, rfl⟩ := hr.row.form
  have HR := Lib.hid hr
  obtain ⟨N, hN⟩ : ∃ N, ts.length = N := ⟨_, rfl⟩
  rw [hN]
  have HN := Lib.hid hN
  clear hr hN
  have hb1 : ∀ o, Below W.heap.size W (W.alloc o) := fun o => (Below.refl _ _).alloc (Nat.le_refl _) _
  unfold ctorsOf
  cases t1 : (k == 1)
  · rw [if_neg (by decide)]
    cases t3 : (k == 3)
    · rw [if_neg (by decide)]
      go_enter Try.func15, Try.ntmps15
      go_wp2
      go_ret
      exact gives_nil (hb1 _)
    · rw [if_pos rfl]
      rcases first_cases s ts 0 with ⟨h1, h2⟩ | ⟨i, t, hi, h1, h2⟩
      · rw [h2]
        clear h2
        go_enter Try.func15, Try.ntmps15
        go_wp2_with fail
        generalize hW2 : W.alloc _ = W2
        have hb2 : Below W.heap.size W W2 := by rw [← hW2]; exact hb1 _
        have hr1 := HR.out.below hb2
        rw [HN.out] at hr1
        clear hW2
        refine (findEnum_any B s hs _ _ ts hr1).mono ?_
        rintro e w1 ⟨rfl, hb⟩
        rw [h1]
        have HB := Lib.hid (bel hb2 hb2.size hb)
        clear hr1 hb hb2 hb1 h1
        go_wp2
        go_ret
        exact gives_nil HB.out
      · rw [h2]
        rw [Nat.zero_add] at h1
        have hiN : i < N := by have := (List.getElem?_eq_some_iff.1 hi).1; have := HN.out; omega
        have HI := Lib.hid hi
        have hm := h40 t (List.mem_of_getElem? hi)
        clear h2 hi
        go_enter Try.func15, Try.ntmps15
        go_wp2_with fail
        generalize hW2 : W.alloc _ = W2
        have hb2 : Below W.heap.size W W2 := by rw [← hW2]; exact hb1 _
        have hr1 := HR.out.below hb2
        rw [HN.out] at hr1
        clear hW2
        refine (findEnum_any B s hs _ _ ts hr1).mono ?_
        rintro e w1 ⟨rfl, hb⟩
        rw [h1]
        have HB := Lib.hid (bel hb2 hb2.size hb)
        have hr2 := hr1.below hb
        obtain ⟨b, t', a1, c1, rfl, ht', hv, e0, e1, hn1⟩ := hr2.at (i := i) (by have := HN.out; omega)
        obtain rfl : t' = t := Option.some.inj (ht'.symm.trans HI.out)
        have HN1 := Lib.hid hn1
        clear hr1 hr2 hb hb2 hb1 h1 ht' hv e0 hn1
        go_wp2_with fail
        refine (clone_any B w1 _ t'.cs HN1.out hm).mono ?_
        rintro e w2 ⟨v', rfl, hb3, hn3⟩
        have HG := Lib.hid (show Gives t'.cs W (.returned v') w2 from ⟨v', rfl, bel HB.out HB.out.size hb3, hn3⟩)
        clear hb3 hn3
        go_wp2
        go_ret
        exact HG.out
  · rw [if_pos rfl]
    go_enter Try.func15, Try.ntmps15
    go_wp2
    go_ret
    exact gives_bools (hb1 _) _ (W.heap.size + 1) rfl _ ((Below.refl _ _).alloc (Nat.le_refl _) _) (blk_second W _ _)
set_option maxRecDepth 100000 in
set_option maxHeartbeats 4000000 in
theorem refCtors_any (B : Nat → Prop) (s : ByteArray) (hs : s.size ≤ maxLen) (k : Int) (W : World) (v : Value) (ts : List En) (hr : EnsIn B W v ts) :
    Calls Try.prog 16 #[v, .agg #[.int .u8 k, .string s]] W (Gives (ctorsOf k s ts) W) := by
  obtain ⟨ao, c, rfl⟩ := hr.row.form
  have HR := Lib.hid hr
  obtain ⟨N, hN⟩ : ∃ N, ts.length = N := ⟨_, rfl⟩
  have hle : N ≤ maxLen := by have := hr.row.le; omega
  unfold maxLen at hle
  rw [hN]
  have HN := Lib.hid hN
  clear hr hN
  have hb1 : ∀ o, Below W.heap.size W (W.alloc o) := fun o => (Below.refl _ _).alloc (Nat.le_refl _) _
  unfold ctorsOf
  cases t1 : (k == 1)
  · rw [if_neg (by decide)]
    cases t3 : (k == 3)
    · rw [if_neg (by decide)]
      go_enter Try.func16, Try.ntmps16
      go_wp2
      go_ret
      exact gives_nil (hb1 _)
    · rw [if_pos rfl]
      go_enter Try.func16, Try.ntmps16
      go_wp2_with fail
      generalize hW2 : W.alloc _ = W2
      have hb2 : Below W.heap.size W W2 := by rw [← hW2]; exact hb1 _
      have g0 : W2.cell? ⟨W.heap.size, 1, none⟩ = some (.string s) := by rw [← hW2]; simp [go_sem]
      have hr1 := HR.out.below hb2
      rw [HN.out] at hr1
      have HR1 := Lib.hid hr1
      have HB2 := Lib.hid hb2
      clear hW2 hr1 hb2 hb1
      go_loopg [5] N (fun g iv wr => ∃ i q : Nat, i + g = N ∧ iv = .int .i64 i ∧ wr = W2.drewN q ∧ firstEn s (ts.drop i) = firstEn s ts)
      case atStart => exact ⟨0, 0, by omega, rfl, rfl, rfl⟩
      case round =>
        obtain ⟨i, q, hi, rfl, rfl, hs2⟩ := hrel
        have HS := Lib.hid hs2
        clear hs2
        by_cases hlt : i < N
        · obtain ⟨b, t, a1, c1, rfl, ht, hv, e0, e1, hn1⟩ := HR1.out.at (i := i) (by have := HN.out; omega)
          have HT := Lib.hid ht
          have HN1 := Lib.hid hn1
          obtain ⟨M, hM⟩ : ∃ M, t.cs.length = M := ⟨_, rfl⟩
          have HM := Lib.hid hM
          rw [hM] at e1
          clear ht hv hn1 hM
          cases hp : isS s t.nm
          · have ht2 : (t.nm.toList == s.toList) = false := hp
            go_wp2
            go_quiet (fail)
            go_wp2
            go_roundg (N - (i + 1))
            case measure => omega
            case rel => exact ⟨i + 1, q + nq, by omega, by go_num, (by first | rfl | exact drew2 _ _ _), by have h := HS.out; rw [firstEn_drop HT.out, hp, if_neg (by decide)] at h; exact h⟩
          · have ht2 : (t.nm.toList == s.toList) = true := hp
            go_wp2
            go_quiet (fail)
            go_wp2
            go_ret
            have h := HS.out
            rw [firstEn_drop HT.out, hp, if_pos rfl] at h
            rw [← h]
            have hn := HN1.out
            rw [HM.out] at hn
            refine ⟨_, rfl, ?_, ?_⟩
            · exact bel_drewN HB2.out (q + nq)
            · exact (hn.keep (w' := W2.drewN (q + nq)) (fun b o v hb hc => hc)).mono fun k hk => HR1.out.lt k hk
        · go_wp2
          go_ret
          have h := HS.out
          rw [firstEn_end (by have := HN.out; omega)] at h
          rw [← h]
          exact gives_nil (bel_drewN HB2.out q)
  · rw [if_pos rfl]
    go_enter Try.func16, Try.ntmps16
    go_wp2
    go_ret
    exact gives_bools (hb1 _) _ (W.heap.size + 1) rfl _ ((Below.refl _ _).alloc (Nat.le_refl _) _) (blk_second W _ _)
end Tx
end Go.Proofs.Ytggoejghnlgigaa
