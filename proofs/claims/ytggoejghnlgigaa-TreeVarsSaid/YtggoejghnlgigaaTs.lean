/- How great an expression is, and how deep. -/
import Derived.Test.YtggoejghnlgigaaTvw
namespace Go.Proofs.Ytggoejghnlgigaa
open Go.ChangeShapes Go.WideShapes Go.ChangeAt Go.RowKit
namespace Tx
set_option linter.unusedVariables false
set_option linter.unusedSimpArgs false
theorem wkE_walk (args : Array Value) (w : World) : (callFunc 48 args).run Try.prog w = .ok (.enter 48 args) w := by kernel_rfl
theorem wkE_pass (args : Array Value) (w : World) : (callFunc 49 args).run Try.prog w = .ok (.enter 49 args) w := by kernel_rfl
theorem pass_any (v : Value) (w : World) : Calls Try.prog 49 #[v] w fun e w' => e = .returned (.bool true) ∧ w = w' := by
  go_enter Try.func49, Try.ntmps49
  go_wp2
  go_ret
  exact ⟨rfl, rfl⟩
theorem KidsIn.form {B : Nat → Prop} {w : World} {v : Value} {ks : Fo} (h : KidsIn B w v ks) : ∃ ao c, v = .slice ao ks.len c := by
  rcases h with ⟨h, rfl⟩ | ⟨b, o, cap, e, _⟩
  · exact h
  · exact ⟨_, _, e⟩
theorem ExAt.c (j : Nat) {P : Nat → Prop} {w : World} {b o : Nat} {d : Dt} {ks : Fo} {nv kv : Value} (h : ExAt P w b o d ks nv kv) {v : Value} (hv : (cells d nv kv)[j]? = some v) : w.cell? ⟨b, o + j, none⟩ = some v := h.cell j v hv
/-- A number that is counted lies in a block of its own. -/
def Num (nb : Nat) (n : Int) (F : Nat → Prop) (w : World) : Prop := (F = fun k => k = nb) ∧ w.cell? ⟨nb, 0, none⟩ = some (.int .i64 n) ∧ w.frozen? ⟨nb, 0, none⟩ = false
theorem Num.keep (nb : Nat) (n : Int) (F S : Nat → Prop) (w w' : World) (h : Num nb n F w) (hk : Keeps S w w') (hS : ∀ k, S k → ¬ F k) : Num nb n F w' := by
  obtain ⟨rfl, h1, h2⟩ := h
  have hn : ¬ S nb := fun hs => hS nb hs rfl
  exact ⟨rfl, hk.cell h1 hn, (World.frozen?_of_block (hk.block nb (World.block_lt_of_cell? w _ h1) hn)).trans h2⟩
set_option maxHeartbeats 1000000 in
theorem size_enter (nb : Nat) (n : Int) (P F : Nat → Prop) (w : World) (b o : Nat) (d : Dt) (ks : Fo) (nv kv : Value) (hR : Num nb n F w) (hF : ∀ k, F k → ¬ P k) (hx : ExAt P w b o d ks nv kv) :
    Calls Try.prog 48 #[.pointer (some ⟨b, o, none⟩), .pointer (some ⟨nb, 0, none⟩)] w fun e w' => e = .returned kv ∧ w' = w.setCell ⟨nb, 0, none⟩ (.int .i64 (wrap64 (n + 1))) := by
  obtain ⟨rfl, h1, h2⟩ := hR
  have hne : b ≠ nb := fun e => hF nb rfl (e ▸ hx.blk)
  have hc := hx.c 5 (v := kv) rfl
  obtain ⟨ao, c, hkv⟩ := hx.kids.form
  subst hkv
  clear hx hF
  go_enter Try.func48, Try.ntmps48
  go_wp2
  go_ret
  exact ⟨rfl, rfl⟩
theorem wrap_succ (n : Int) : wrap64 (wrap64 n + 1) = wrap64 (n + 1) := by unfold wrap64; omega
def entS : Int → Dt → Int := fun n _ => n + 1
def selA {σ : Type} : σ → Dt → Fo → Nat := fun _ _ ks => ks.len
def lvN {σ : Type} : σ → Dt → σ := fun s _ => s
def NumW (nb : Nat) (n : Int) (F : Nat → Prop) (w : World) : Prop := Num nb (wrap64 n) F w
theorem size_visit (nb : Nat) : Visit entS selA lvN (fun _ => false) (fun _ => 0) 3000000 48 49 #[.pointer (some ⟨nb, 0, none⟩)] #[] (NumW nb) := by
  refine ⟨fun s F w h k hk => ?_, fun s F S w w' h hk hS => Num.keep nb _ F S w w' h hk hS, fun _ _ => Nat.zero_le _, fun _ _ => Nat.zero_le _, fun _ _ _ => rfl, fun P s F w b o d ks nv kv _ _ hR hF hx => ?_, fun P s F w b o d ks nv kv _ _ hR hF hx => ?_⟩
  · obtain ⟨rfl, h1, _⟩ := h
    subst hk
    exact World.block_lt_of_cell? w _ h1
  · refine (size_enter nb _ P F w b o d ks nv kv hR hF hx).mono ?_
    rintro e w' ⟨rfl, rfl⟩
    obtain ⟨rfl, h1, h2⟩ := hR
    have hk : Keeps (fun k => k = nb) w (w.setCell ⟨nb, 0, none⟩ (.int .i64 (wrap64 (wrap64 s + 1)))) := (Keeps.refl (fun k => k = nb) w).setCell (p := ⟨nb, 0, none⟩) rfl _
    refine ⟨kv, rfl, (hx.keep hk (fun k hp e => hF k e hp)).kids.sl, _, ⟨rfl, ?_, ?_⟩, hk, fun k h => .inl h⟩
    · rw [wrap_succ]
      simp [go_sem, h1]
      rfl
    · simp [go_sem, h2]
  · refine (pass_any _ w).mono ?_
    rintro e w' ⟨rfl, rfl⟩
    exact ⟨rfl, F, hR, Keeps.refl _ _, fun k h => .inl h⟩
theorem wk_size : ∀ (f : Fo) (n : Int), wk entS selA lvN (fun _ => false) f f.len n = n + f.size
  | .nil, n => by simp [wk, Fo.size]
  | .cons d ks r, n => by
    have h1 := wk_size ks (n + 1)
    have h2 := wk_size r (n + 1 + ks.size)
    show wk entS selA lvN (fun _ => false) r r.len (wk entS selA lvN (fun _ => false) ks ks.len (n + 1)) = _
    rw [h1, h2]
    simp only [Fo.size]
    omega
theorem keeps_below {N : Nat} {F : Nat → Prop} {W W2 w : World} (h : Below N W W2) (hk : Keeps F W2 w) (hN : N ≤ W2.heap.size) (hF : ∀ k, F k → N ≤ k) : Below N W w :=
  ⟨hk.os.trans h.os, hk.tape.trans h.tape, hk.output.trans h.output, Nat.le_trans h.size hk.size, fun k hlt => (hk.block k (Nat.lt_of_lt_of_le hlt hN) (fun hf => by have := hF k hf; omega)).trans (h.block k hlt)⟩
/-- An expression in a cell of its own. -/
theorem exAt_cell {B : Nat → Prop} {W W2 : World} {d : Dt} {ks : Fo} {nv kv : Value} {g : Nat} (hb : ∀ b o v, B b → W.cell? ⟨b, o, none⟩ = some v → W2.cell? ⟨b, o, none⟩ = some v) (hn : NamesIn B W nv d.ns) (hk : KidsIn B W kv ks) (hg : W2.heap[g]? = some (.cells (cells d nv kv).toArray 30 (0, 0))) : ExAt (fun k => B k ∨ k = g) W2 g 0 d ks nv kv :=
  ⟨.inr rfl, fun j v hj => by rw [Nat.zero_add, cell_of_row W2 g j _ _ _ hg]; simpa using hj, (hn.keep hb).mono fun k h => .inl h, (hk.keep hb).mono fun k h => .inl h⟩
theorem blk_of3 (w : World) (o0 o1 o2 : Obj) : (((w.alloc o0).alloc o1).alloc o2).heap[w.heap.size]? = some o0 := by
  have e : (((w.alloc o0).alloc o1).alloc o2).heap = ((w.heap.push o0).push o1).push o2 := rfl
  rw [e, Array.getElem?_push, if_neg (by simp only [Array.size_push]; omega), Array.getElem?_push, if_neg (by simp only [Array.size_push]; omega), Array.getElem?_push, if_pos rfl]
/-- An expression by value. -/
def exV (d : Dt) (nv kv : Value) : Value := .agg #[.int .u8 d.k, .int .u8 d.op, .int .i32 d.n, .string d.nm, nv, kv, .int .i64 d.line, .int .i64 d.col]
set_option maxRecDepth 100000 in
set_option maxHeartbeats 1000000 in
theorem size_any (B : Nat → Prop) (W : World) (hB : ∀ k, B k → k < W.heap.size) (d : Dt) (ks : Fo) (nv kv : Value) (hn : NamesIn B W nv d.ns) (hk : KidsIn B W kv ks) (hsz : ks.size ≤ 1000000) :
    Calls Try.prog 28 #[exV d nv kv] W fun e w' => e = .returned (.int .i64 (1 + ks.size)) ∧ Below W.heap.size W w' := by
  have hmf : ∀ (fn : Fn) (first cap : Array Value) (w : World), (Instr.makeFunc fn first cap).run Try.prog w = .ok (.func fn first cap) w := fun _ _ _ _ => rfl
  have HN := Lib.hid hn
  have HK := Lib.hid hk
  have HB := Lib.hid hB
  clear hn hk hB
  unfold exV
  go_enter Try.func28, Try.ntmps28
  go_wp2_with fail
  generalize hW2 : ((W.alloc (.cells #[.int .u8 d.k, .int .u8 d.op, .int .i32 d.n, .string d.nm, nv, kv, .int .i64 d.line, .int .i64 d.col] 30)).alloc (.cells #[.int .i64 0] 3)) = W2
  have b2 : Below W.heap.size W W2 := by rw [← hW2]; exact ((Below.refl _ _).alloc (Nat.le_refl _) _).alloc (by simp) _
  have c2 : W2.cell? ⟨W.heap.size + 1, 0, none⟩ = some (.int .i64 0) := by rw [← hW2]; simp [go_sem]
  have f2 : W2.frozen? ⟨W.heap.size + 1, 0, none⟩ = false := by rw [← hW2]; simp [go_sem]
  have g2 : W2.heap[W.heap.size]? = some (.cells (cells d nv kv).toArray 30 (0, 0)) := by rw [← hW2]; exact blk_first W _ _
  clear hW2
  have kp : ∀ b o v, B b → W.cell? ⟨b, o, none⟩ = some v → W2.cell? ⟨b, o, none⟩ = some v := fun b o v hb hc => (b2.cell (p := ⟨b, o, none⟩) (HB.out b hb)).trans hc
  have hx2 := exAt_cell kp HN.out HK.out g2
  refine (walk_any entS selA lvN (fun _ => false) (fun _ => 0) 3000000 _ _ _ _ (NumW (W.heap.size + 1)) (size_visit _) wkE_walk wkE_pass (fun k => B k ∨ k = W.heap.size) W2 (fun k hk => by rcases hk with hk | rfl; exact Nat.lt_of_lt_of_le (HB.out k hk) b2.size; exact (Array.getElem?_eq_some_iff.1 g2).1) 0 (fun k => k = W.heap.size + 1) ⟨rfl, (show wrap64 0 = 0 by unfold wrap64; omega).symm ▸ c2, f2⟩ (fun k hk hb => by rcases hb with hb | hb; (have := HB.out k hb; omega); omega) d ks nv kv _ _ hx2 rfl hsz (by omega)).mono ?_
  rintro e w4 ⟨rfl, F', hR, hkk, hnew⟩
  have hwk : wk entS selA lvN (fun _ => false) (.cons d ks .nil) 1 0 = 1 + (ks.size : Int) := by
    have := wk_size (.cons d ks .nil) 0
    simp only [Fo.size] at this
    rw [show (1 : Nat) = (Fo.cons d ks .nil).len from rfl, this]
    omega
  rw [hwk] at hR
  obtain ⟨rfl, c4, f4⟩ := hR
  rw [show wrap64 (1 + (ks.size : Int)) = 1 + (ks.size : Int) by unfold wrap64; omega] at c4
  clear hwk
  go_wp2
  go_ret
  exact ⟨rfl, keeps_below b2 hkk b2.size (fun k hk => by omega)⟩
end Tx
end Go.Proofs.Ytggoejghnlgigaa
