/- How deep an expression is. -/
import Derived.Test.YtggoejghnlgigaaTs
import Derived.WalkLawsBesides
namespace Go.Proofs.Ytggoejghnlgigaa
open Go.ChangeShapes Go.WideShapes Go.ChangeAt Go.RowKit
namespace Tx
set_option linter.unusedVariables false
set_option linter.unusedSimpArgs false
theorem dE1 (args : Array Value) (w : World) : (callFunc 50 args).run Try.prog w = .ok (.enter 50 args) w := by kernel_rfl
theorem dE2 (args : Array Value) (w : World) : (callFunc 51 args).run Try.prog w = .ok (.enter 51 args) w := by kernel_rfl
set_option maxHeartbeats 1000000 in
theorem depth_leave (lb : Nat) (l : Int) (v : Value) (w : World) (h1 : w.cell? ⟨lb, 0, none⟩ = some (.int .i64 l)) (h2 : w.frozen? ⟨lb, 0, none⟩ = false) :
    Calls Try.prog 51 #[v, .pointer (some ⟨lb, 0, none⟩)] w fun e w' => e = .returned (.bool true) ∧ w' = w.setCell ⟨lb, 0, none⟩ (.int .i64 (wrap64 (l - 1))) := by
  go_enter Try.func51, Try.ntmps51
  go_wp2
  go_ret
  exact ⟨rfl, rfl⟩
set_option maxHeartbeats 1000000 in
theorem depth_enter (lb mb : Nat) (hlm : lb ≠ mb) (l m : Int) (P : Nat → Prop) (w : World) (b o : Nat) (d : Dt) (ks : Fo) (nv kv : Value) (hx : ExAt P w b o d ks nv kv) (hP1 : ¬ P lb) (hP2 : ¬ P mb)
    (h1 : w.cell? ⟨lb, 0, none⟩ = some (.int .i64 l)) (h2 : w.frozen? ⟨lb, 0, none⟩ = false) (h3 : w.cell? ⟨mb, 0, none⟩ = some (.int .i64 m)) (h4 : w.frozen? ⟨mb, 0, none⟩ = false) :
    Calls Try.prog 50 #[.pointer (some ⟨b, o, none⟩), .pointer (some ⟨lb, 0, none⟩), .pointer (some ⟨mb, 0, none⟩)] w fun e w' => e = .returned kv ∧ w' = (w.setCell ⟨lb, 0, none⟩ (.int .i64 (wrap64 (l + 1)))).setCell ⟨mb, 0, none⟩ (.int .i64 (max m (wrap64 (l + 1)))) := by
  have n1 : b ≠ lb := fun e => hP1 (e ▸ hx.blk)
  have n2 : b ≠ mb := fun e => hP2 (e ▸ hx.blk)
  have hc := hx.c 5 (v := kv) rfl
  obtain ⟨ao, c, hkv⟩ := hx.kids.form
  subst hkv
  clear hx
  have hml := hlm.symm
  go_enter Try.func50, Try.ntmps50
  go_wp2
  all_goals go_ret
  · refine ⟨rfl, ?_⟩
    rw [show max m (wrap64 (l + 1)) = wrap64 (l + 1) by omega]
  · refine ⟨rfl, ?_⟩
    rw [show max m (wrap64 (l + 1)) = m by omega]
abbrev LM := (Int × Int) × Nat
def entD : LM → Dt → LM := fun s _ => ((s.1.1 + 1, max s.1.2 (s.1.1 + 1)), s.2 - 1)
def lvD : LM → Dt → LM := fun s _ => ((s.1.1 - 1, s.1.2), s.2 - 1)
/-- Two numbers that are counted; as long as there is something left of the third, they are known. -/
def Dp (lb mb : Nat) (s : LM) (F : Nat → Prop) (w : World) : Prop := (F = fun k => k = lb ∨ k = mb) ∧ ∃ l m, w.cell? ⟨lb, 0, none⟩ = some (.int .i64 l) ∧ w.frozen? ⟨lb, 0, none⟩ = false ∧ w.cell? ⟨mb, 0, none⟩ = some (.int .i64 m) ∧ w.frozen? ⟨mb, 0, none⟩ = false ∧
  (0 < s.2 → l = s.1.1 ∧ m = s.1.2 ∧ s.1.1 + s.2 ≤ 1000000000000 ∧ -1000000000000 ≤ s.1.1 - s.2)
theorem Dp.keep (lb mb : Nat) (s : LM) (F S : Nat → Prop) (w w' : World) (h : Dp lb mb s F w) (hk : Keeps S w w') (hS : ∀ k, S k → ¬ F k) : Dp lb mb s F w' := by
  obtain ⟨rfl, l, m, h1, h2, h3, h4, h5⟩ := h
  have n1 : ¬ S lb := fun hs => hS lb hs (.inl rfl)
  have n2 : ¬ S mb := fun hs => hS mb hs (.inr rfl)
  exact ⟨rfl, l, m, hk.cell h1 n1, (World.frozen?_of_block (hk.block lb (World.block_lt_of_cell? w _ h1) n1)).trans h2, hk.cell h3 n2, (World.frozen?_of_block (hk.block mb (World.block_lt_of_cell? w _ h3) n2)).trans h4, h5⟩
theorem depth_visit (lb mb : Nat) (hlm : lb ≠ mb) : Visit entD selA lvD (fun _ => false) (fun _ => 0) 3000000 50 51 #[.pointer (some ⟨lb, 0, none⟩), .pointer (some ⟨mb, 0, none⟩)] #[.pointer (some ⟨lb, 0, none⟩)] (Dp lb mb) := by
  have hml := hlm.symm
  refine ⟨fun s F w h k hk => ?_, fun s F S w w' h hk hS => Dp.keep lb mb s F S w w' h hk hS, fun _ _ => Nat.zero_le _, fun _ _ => Nat.zero_le _, fun _ _ _ => rfl, fun P s F w b o d ks nv kv _ _ hR hF hx => ?_, fun P s F w b o d ks nv kv _ _ hR hF hx => ?_⟩
  · obtain ⟨rfl, l, m, h1, _, h3, _⟩ := h
    rcases hk with rfl | rfl
    · exact World.block_lt_of_cell? w _ h1
    · exact World.block_lt_of_cell? w _ h3
  · obtain ⟨rfl, l, m, h1, h2, h3, h4, h5⟩ := hR
    refine (depth_enter lb mb hlm l m P w b o d ks nv kv hx (hF lb (.inl rfl)) (hF mb (.inr rfl)) h1 h2 h3 h4).mono ?_
    rintro e w' ⟨rfl, rfl⟩
    have hk : Keeps (fun k => k = lb ∨ k = mb) w ((w.setCell ⟨lb, 0, none⟩ (.int .i64 (wrap64 (l + 1)))).setCell ⟨mb, 0, none⟩ (.int .i64 (max m (wrap64 (l + 1))))) := ((Keeps.refl (fun k => k = lb ∨ k = mb) w).setCell (p := ⟨lb, 0, none⟩) (.inl rfl) _).setCell (p := ⟨mb, 0, none⟩) (.inr rfl) _
    refine ⟨kv, rfl, (hx.keep hk (fun k hp e => hF k e hp)).kids.sl, _, ⟨rfl, wrap64 (l + 1), max m (wrap64 (l + 1)), ?_, ?_, ?_, ?_, fun hq => ?_⟩, hk, fun k h => .inl h⟩
    · simp [go_sem, h1, h3, hlm, hml]
    · simp [go_sem, h2, h4, hlm, hml]
    · simp [go_sem, h1, h3, hlm, hml]
    · simp [go_sem, h2, h4, hlm, hml]
    · simp only [entD] at hq ⊢
      obtain ⟨e1, e2, e3, e4⟩ := h5 (by omega)
      subst e1
      subst e2
      have : wrap64 (s.1.1 + 1) = s.1.1 + 1 := by unfold wrap64; omega
      rw [this]
      exact ⟨rfl, rfl, by omega, by omega⟩
  · obtain ⟨rfl, l, m, h1, h2, h3, h4, h5⟩ := hR
    refine (depth_leave lb l _ w h1 h2).mono ?_
    rintro e w' ⟨rfl, rfl⟩
    have hk : Keeps (fun k => k = lb ∨ k = mb) w (w.setCell ⟨lb, 0, none⟩ (.int .i64 (wrap64 (l - 1)))) := (Keeps.refl (fun k => k = lb ∨ k = mb) w).setCell (p := ⟨lb, 0, none⟩) (.inl rfl) _
    refine ⟨rfl, _, ⟨rfl, wrap64 (l - 1), m, ?_, ?_, ?_, ?_, fun hq => ?_⟩, hk, fun k h => .inl h⟩
    · simp [go_sem, h1, hlm, hml]
    · simp [go_sem, h2, hlm, hml]
    · simp [go_sem, h3, hlm, hml]
    · simp [go_sem, h4, hlm, hml]
    · simp only [lvD] at hq ⊢
      obtain ⟨e1, e2, e3, e4⟩ := h5 (by omega)
      subst e1
      subst e2
      have : wrap64 (s.1.1 - 1) = s.1.1 - 1 := by unfold wrap64; omega
      rw [this]
      exact ⟨rfl, rfl, by omega, by omega⟩
theorem wk_depth : ∀ (f : Fo) (l m : Int) (q : Nat), l ≤ m → wk entD selA lvD (fun _ => false) f f.len ((l, m), q) = ((l, max m (l + f.depth)), q - 2 * f.size)
  | .nil, l, m, q, h => by
    show ((l, m), q) = _
    simp only [Fo.depth, Fo.size]
    rw [show max m (l + ((0 : Nat) : Int)) = m by omega]
    rfl
  | .cons d ks r, l, m, q, h => by
    have h1 := wk_depth ks (l + 1) (max m (l + 1)) (q - 1) (by omega)
    have h2 := wk_depth r l (max (max m (l + 1)) (l + 1 + ks.depth)) (q - 1 - 2 * ks.size - 1) (by omega)
    show wk entD selA lvD (fun _ => false) r r.len (lvD (wk entD selA lvD (fun _ => false) ks ks.len ((l + 1, max m (l + 1)), q - 1)) d) = _
    rw [h1]
    show wk entD selA lvD (fun _ => false) r r.len ((l + 1 - 1, max (max m (l + 1)) (l + 1 + ks.depth)), q - 1 - 2 * ks.size - 1) = _
    rw [show l + 1 - 1 = l by omega, h2]
    simp only [Fo.depth, Fo.size]
    refine Prod.ext (Prod.ext rfl ?_) ?_
    · show max (max (max m (l + 1)) (l + 1 + ks.depth)) (l + r.depth) = max m (l + (max (1 + ks.depth) r.depth : Nat))
      omega
    · show q - 1 - 2 * ks.size - 1 - 2 * r.size = q - 2 * (1 + ks.size + r.size)
      omega
set_option maxRecDepth 100000 in
set_option maxHeartbeats 1000000 in
theorem depth_any (B : Nat → Prop) (W : World) (hB : ∀ k, B k → k < W.heap.size) (d : Dt) (ks : Fo) (nv kv : Value) (hn : NamesIn B W nv d.ns) (hk : KidsIn B W kv ks) (hsz : ks.size ≤ 1000000) :
    Calls Try.prog 29 #[exV d nv kv] W fun e w' => e = .returned (.int .i64 (1 + ks.depth)) ∧ Below W.heap.size W w' := by
  have hmf : ∀ (fn : Fn) (first cap : Array Value) (w : World), (Instr.makeFunc fn first cap).run Try.prog w = .ok (.func fn first cap) w := fun _ _ _ _ => rfl
  have HN := Lib.hid hn
  have HK := Lib.hid hk
  have HB := Lib.hid hB
  clear hn hk hB
  unfold exV
  go_enter Try.func29, Try.ntmps29
  go_wp2_with fail
  generalize hW2 : (((W.alloc (.cells #[.int .u8 d.k, .int .u8 d.op, .int .i32 d.n, .string d.nm, nv, kv, .int .i64 d.line, .int .i64 d.col] 30)).alloc (.cells #[.int .i64 0] 3)).alloc (.cells #[.int .i64 0] 3)) = W2
  have b2 : Below W.heap.size W W2 := by rw [← hW2]; exact (((Below.refl _ _).alloc (Nat.le_refl _) _).alloc (by simp) _).alloc (by simp; omega) _
  have c2 : W2.cell? ⟨W.heap.size + 1, 0, none⟩ = some (.int .i64 0) := by rw [← hW2]; simp [go_sem]
  have f2 : W2.frozen? ⟨W.heap.size + 1, 0, none⟩ = false := by rw [← hW2]; simp [go_sem]
  have c3 : W2.cell? ⟨W.heap.size + 1 + 1, 0, none⟩ = some (.int .i64 0) := by rw [← hW2]; simp [go_sem]
  have f3 : W2.frozen? ⟨W.heap.size + 1 + 1, 0, none⟩ = false := by rw [← hW2]; simp [go_sem]
  have g2 : W2.heap[W.heap.size]? = some (.cells (cells d nv kv).toArray 30 (0, 0)) := by rw [← hW2]; exact blk_of3 W _ _ _
  clear hW2
  have kp : ∀ b o v, B b → W.cell? ⟨b, o, none⟩ = some v → W2.cell? ⟨b, o, none⟩ = some v := fun b o v hb hc => (b2.cell (p := ⟨b, o, none⟩) (HB.out b hb)).trans hc
  have hx2 := exAt_cell kp HN.out HK.out g2
  refine (walk_any entD selA lvD (fun _ => false) (fun _ => 0) 3000000 _ _ _ _ (Dp (W.heap.size + 1) (W.heap.size + 1 + 1)) (depth_visit _ _ (by omega)) dE1 dE2 (fun k => B k ∨ k = W.heap.size) W2 (fun k hk => by rcases hk with hk | rfl; exact Nat.lt_of_lt_of_le (HB.out k hk) b2.size; exact (Array.getElem?_eq_some_iff.1 g2).1) ((0, 0), 3000000) (fun k => k = W.heap.size + 1 ∨ k = W.heap.size + 1 + 1) ⟨rfl, 0, 0, c2, f2, c3, f3, fun _ => ⟨rfl, rfl, by decide, by decide⟩⟩ (fun k hk hb => by rcases hb with hb | hb; (have := HB.out k hb; omega); omega) d ks nv kv _ _ hx2 rfl hsz (by omega)).mono ?_
  rintro e w4 ⟨rfl, F', hR, hkk, hnew⟩
  have hwk : wk entD selA lvD (fun _ => false) (.cons d ks .nil) 1 ((0, 0), 3000000) = ((0, 1 + (ks.depth : Int)), 3000000 - 2 * (1 + ks.size)) := by
    have := wk_depth (.cons d ks .nil) 0 0 3000000 (by omega)
    rw [show (1 : Nat) = (Fo.cons d ks .nil).len from rfl, this]
    simp only [Fo.depth, Fo.size]
    refine Prod.ext (Prod.ext rfl ?_) rfl
    show max (0 : Int) (0 + (max (1 + ks.depth) 0 : Nat)) = 1 + ks.depth
    omega
  rw [hwk] at hR
  obtain ⟨rfl, l, m, c4, f4, c5, f5, h5⟩ := hR
  obtain ⟨rfl, rfl, _, _⟩ := h5 (by show 0 < 3000000 - 2 * (1 + ks.size); omega)
  clear hwk h5
  go_wp2
  go_ret
  exact ⟨rfl, keeps_below b2 hkk b2.size (fun k hk => by omega)⟩
end Tx
end Go.Proofs.Ytggoejghnlgigaa
