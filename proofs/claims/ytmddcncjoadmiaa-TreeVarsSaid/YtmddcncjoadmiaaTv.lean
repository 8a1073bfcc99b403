/- Package tree's walk: its contract. -/
import Derived.Test.YtmddcncjoadmiaaTm
import Derived.Deep.Cut
import Derived.Deep.CutRange
import Derived.Deep.DeepCutAuto
import Derived.IntWalk
namespace Go.Proofs.Ytmddcncjoadmiaa
open Go.ChangeShapes Go.WideShapes Go.ChangeAt Go.RowKit
namespace Tx
set_option linter.unusedVariables false
set_option linter.unusedSimpArgs false
def zeros : Array Value := #[.slice none 0 0, .int .i64 0, .slice none 0 0, .int .i64 0, .slice none 0 0, .int .i64 0, .slice none 0 0, .int .i64 0, .slice none 0 0, .int .i64 0, .slice none 0 0, .int .i64 0, .slice none 0 0, .int .i64 0, .slice none 0 0, .int .i64 0, .slice none 0 0, .int .i64 0, .slice none 0 0, .int .i64 0, .slice none 0 0, .int .i64 0, .slice none 0 0, .int .i64 0, .slice none 0 0, .int .i64 0, .slice none 0 0, .int .i64 0, .slice none 0 0, .int .i64 0, .slice none 0 0, .int .i64 0]
theorem make_levels (w : World) : (Instr.makeSlice 122 (.int .i64 0) (.int .i64 16)).run Try.prog w = .ok (.slice (some ⟨w.heap.size, 0, none⟩) 0 16) (w.alloc (.cells zeros 124)) := by kernel_rfl
/-- An expression lies at an address. -/
structure ExAt (P : Nat → Prop) (w : World) (b o : Nat) (d : Dt) (ks : Fo) (nv kv : Value) : Prop where
  blk : P b
  cell : ∀ j v, (cells d nv kv)[j]? = some v → w.cell? ⟨b, o + j, none⟩ = some v
  names : NamesIn P w nv d.ns
  kids : KidsIn P w kv ks
section
variable {σ : Type} (ent : σ → Dt → σ) (sel : σ → Dt → Fo → Nat) (lv : σ → Dt → σ) (cnt : σ → Nat) (M : Nat)
/-- What is left behind a call: what is known of s, in some blocks; all others stay. -/
def After (R : σ → (Nat → Prop) → World → Prop) (s : σ) (F : Nat → Prop) (w w' : World) : Prop := ∃ F', R s F' w' ∧ Keeps F w w' ∧ ∀ k, F' k → F k ∨ w.heap.size ≤ k
def EnterOut (P : Nat → Prop) (R : σ → (Nat → Prop) → World → Prop) (s : σ) (F : Nat → Prop) (f : Fo) (n : Nat) (w : World) (e : Ending) (w' : World) : Prop :=
  ∃ v, e = .returned v ∧ KidSl P w' v f n ∧ After R s F w w'
def LeaveOut (R : σ → (Nat → Prop) → World → Prop) (s : σ) (F : Nat → Prop) (w : World) (e : Ending) (w' : World) : Prop := e = .returned (.tuple #[]) ∧ After R s F w w'
/-- What a walk calls: R s F w: s is known in w, and lies in the blocks F. -/
structure Visit (fe fl : FuncId) (ce cL : Array Value) (R : σ → (Nat → Prop) → World → Prop) : Prop where
  lt : ∀ s F w, R s F w → ∀ k, F k → k < w.heap.size
  keep : ∀ s F S w w', R s F w → Keeps S w w' → (∀ k, S k → ¬ F k) → R s F w'
  ci : ∀ s d, cnt (ent s d) ≤ cnt s + 1
  cl : ∀ s d, cnt (lv s d) ≤ cnt s + 1
  enter : ∀ (P : Nat → Prop) s F w b o d ks nv kv, cnt s ≤ M → R s F w → (∀ k, F k → ¬ P k) → ExAt P w b o d ks nv kv → Calls Try.prog fe (#[.pointer (some ⟨b, o, none⟩)] ++ ce) w (EnterOut P R (ent s d) F ks (sel (ent s d) d ks) w)
  leave : ∀ (P : Nat → Prop) s F w b o d ks nv kv, cnt s ≤ M → R s F w → (∀ k, F k → ¬ P k) → ExAt P w b o d ks nv kv → Calls Try.prog fl (#[.pointer (some ⟨b, o, none⟩)] ++ cL) w (LeaveOut R (lv s d) F w)
/-- The stack as it is at first. -/
def StartAt (B : Nat → Prop) (W : World) (d : Dt) (ks : Fo) (v : Value) (w : World) : Prop :=
  ∃ g lb : Nat, v = .slice (some ⟨g, 0, none⟩) 1 16 ∧ W.heap.size ≤ g ∧ W.heap.size ≤ lb ∧ g ≠ lb ∧ Mach (fun k => B k ∨ k = lb) W.heap.size w v [⟨.slice (some ⟨lb, 0, none⟩) 1 1, 1, 0, .cons d ks .nil, d⟩] ∧ Below W.heap.size W w ∧ lb < w.heap.size
theorem start_of {B : Nat → Prop} {W w : World} {d : Dt} {ks : Fo} {nv kv : Value} (g lb : Nat) (hn : NamesIn B W nv d.ns) (hk : KidsIn B W kv ks) (hB : ∀ k, B k → k < W.heap.size) (h1 : W.heap.size ≤ g) (h2 : W.heap.size ≤ lb) (h3 : g ≠ lb)
    (hg : w.heap[g]? = some (.cells ((zeros.setIfInBounds 0 (.slice (some ⟨lb, 0, none⟩) 1 1)).setIfInBounds 1 (.int .i64 0)) 124 (0, 0))) (hl : w.heap[lb]? = some (.cells (cells d nv kv).toArray 44 (0, 0))) (hb : Below W.heap.size W w) :
    StartAt B W d ks (.slice (some ⟨g, 0, none⟩) 1 16) w := by
  refine ⟨g, lb, rfl, h1, h2, h3, ⟨⟨rfl, .inr ⟨g, 16, _, rfl, h1, hg, (show 1 ≤ 16 by decide), (show 16 ≤ maxLen by decide), rfl, rfl⟩⟩, ?_⟩, hb, (Array.getElem?_eq_some_iff.1 hl).1⟩
  intro L hL
  simp only [List.mem_singleton] at hL
  subst hL
  have kp : ∀ b o u, B b → W.cell? ⟨b, o, none⟩ = some u → w.cell? ⟨b, o, none⟩ = some u := fun b o u hb' hc => (hb.cell (p := ⟨b, o, none⟩) (hB b hb')).trans hc
  refine ⟨.inr ⟨lb, 0, 1, rfl, Nat.le_refl _, Nat.le_refl _, by decide, .inr rfl, ⟨nv, kv, fun j v hj => ?_, (hn.keep kp).mono fun k h => .inl h, ?_⟩, trivial⟩, Nat.zero_le _, fun h => absurd h (Nat.lt_irrefl _)⟩
  · rw [Nat.zero_add, cell_of_row w lb j _ _ _ hl]
    simpa using hj
  · exact (hk.keep kp).mono fun k h => .inl h
theorem infoLev : (Try.prog.info? 124).map (fun i => (i.zero, i.size, i.bytes)) = some (some (Value.agg #[.slice none 0 0, .int .i64 0]), 2, 32) := by kernel_rfl
theorem KidSl.form {B : Nat → Prop} {w : World} {v : Value} {f : Fo} {n : Nat} (h : KidSl B w v f n) : ∃ ao c, v = .slice ao n c := by
  rcases h with ⟨h, rfl⟩ | ⟨b, o, cap, e, _⟩
  · exact h
  · exact ⟨_, _, e⟩
theorem blk3 (W : World) (o0 o1 o2 o3 : Obj) : ((((W.alloc o0).alloc o1).alloc o2).alloc o3).drew.heap[W.heap.size + 1]? = some o1 ∧ ((((W.alloc o0).alloc o1).alloc o2).alloc o3).drew.heap[W.heap.size + 1 + 1]? = some o2 ∧ ((((W.alloc o0).alloc o1).alloc o2).alloc o3).drew.heap[W.heap.size + 1 + 1 + 1]? = some o3 := by
  have e : ((((W.alloc o0).alloc o1).alloc o2).alloc o3).drew.heap = (((W.heap.push o0).push o1).push o2).push o3 := rfl
  rw [e]
  refine ⟨?_, ?_, ?_⟩
  · rw [Array.getElem?_push, if_neg (by simp only [Array.size_push]; omega), Array.getElem?_push, if_neg (by simp only [Array.size_push]; omega), Array.getElem?_push, if_pos (by simp only [Array.size_push])]
  · rw [Array.getElem?_push, if_neg (by simp only [Array.size_push]; omega), Array.getElem?_push, if_pos (by simp only [Array.size_push])]
  · rw [Array.getElem?_push, if_pos (by simp only [Array.size_push])]
theorem below3 (W : World) (o0 o1 o2 o3 : Obj) : Below W.heap.size W ((((W.alloc o0).alloc o1).alloc o2).alloc o3).drew :=
  (((((Below.refl _ _).alloc (Nat.le_refl _) _).alloc (by simp) _).alloc (by simp; omega) _).alloc (by simp; omega) _).drew
/-- How far the walk is. -/
structure WalkAt (P : Nat → Prop) (W : World) (R : σ → (Nat → Prop) → World → Prop) (F0 : Nat → Prop) (res : σ) (k : Nat) (v : Value) (w : World) (st : List Lev) (s : σ) (F : Nat → Prop) : Prop where
  mach : Mach P W.heap.size w v st
  ne : st ≠ []
  pos : ∀ A ∈ st.tail, 0 < A.i
  left : todo st ≤ k
  bd : todo st ≤ 2000003
  cn : cnt s + todo st ≤ M
  fin : fin ent sel lv st s = res
  r : R s F w
  dis : ∀ j, F j → ¬ P j
  own : ∀ g, v.ownBlock = some g → ¬ F g ∧ ¬ P g
  keeps : Keeps F0 W w
  new : ∀ j, F j → F0 j ∨ W.heap.size ≤ j
  pl : ∀ j, P j → j < w.heap.size
theorem ExAt.keep {P S : Nat → Prop} {w w' : World} {b o : Nat} {d : Dt} {ks : Fo} {nv kv : Value} (h : ExAt P w b o d ks nv kv) (hk : Keeps S w w') (hP : ∀ k, P k → ¬ S k) : ExAt P w' b o d ks nv kv :=
  have kp : ∀ b o v, P b → w.cell? ⟨b, o, none⟩ = some v → w'.cell? ⟨b, o, none⟩ = some v := fun b _ _ hb hc => hk.cell hc (hP b hb)
  ⟨h.blk, fun j v hj => kp _ _ _ h.blk (h.cell j v hj), h.names.keep kp, h.kids.keep kp⟩
theorem Keeps.grown {w w' : World} {row : Option Nat} (h : w.grownBy w' row) : Keeps (fun k => row = some k) w w' := ⟨h.os, h.tape, h.output, h.size, fun k hk hs => h.block k hk (fun e => hs e.symm)⟩
variable {ent sel lv cnt M}
/-- Behind the store of the top's next place. -/
theorem WalkAt.mid {P : Nat → Prop} {W : World} {R : σ → (Nat → Prop) → World → Prop} {F0 : Nat → Prop} {res : σ} {k g cap b o : Nat} {wr : World} {T : Lev} {st : List Lev} {s : σ} {F : Nat → Prop} {fe fl : FuncId} {ce cl : Array Value} {d : Dt} {ks : Fo} {nv kv : Value}
    (hV : Visit ent sel lv cnt M fe fl ce cl R) (h : WalkAt ent sel lv cnt M P W R F0 res k (.slice (some ⟨g, 0, none⟩) (st.length + 1) cap) wr (T :: st) s F) (hi : T.i < T.n) (q : Nat)
    (hx : T.f.get T.i = some (d, ks) ∧ P b ∧ (∀ j v, (cells d nv kv)[j]? = some v → wr.cell? ⟨b, o + T.i * 8 + j, none⟩ = some v) ∧ NamesIn P wr nv d.ns ∧ KidsIn P wr kv ks) (hg : W.heap.size ≤ g) (Wc : World) (hWc : (wr.drewN q).setCell ⟨g, st.length * 2 + 1, none⟩ (.int .i64 (T.i + 1 : Nat)) = Wc) :
    Mach P W.heap.size Wc (.slice (some ⟨g, 0, none⟩) (st.length + 1) cap) ({ T with i := T.i + 1, d := d } :: st) ∧ R s F Wc ∧ ExAt P Wc b (o + T.i * 8) d ks nv kv ∧ Keeps F0 W Wc ∧ Keeps (fun k => k = g) wr Wc := by
  obtain ⟨hget, hP, hc, hn, hk⟩ := hx
  obtain ⟨hFg, hPg⟩ := h.own g rfl
  have k1 : Keeps (fun _ => False) wr (wr.drewN q) := (Keeps.refl _ wr).drewN q
  have m1 : Mach P W.heap.size (wr.drewN q) (.slice (some ⟨g, 0, none⟩) (st.length + 1) cap) (T :: st) := h.mach.keep k1 (fun _ _ h => h) (fun _ _ h => h)
  have k2 : Keeps (fun k => k = g) wr Wc := by
    rw [← hWc]
    exact ((Keeps.refl (fun k => k = g) wr).drewN q).setCell (p := ⟨g, st.length * 2 + 1, none⟩) rfl _
  have kp : ∀ b o v, P b → wr.cell? ⟨b, o, none⟩ = some v → Wc.cell? ⟨b, o, none⟩ = some v := fun b o v hb hc => k2.cell hc (fun e => hPg (e ▸ hb))
  refine ⟨by rw [← hWc]; exact m1.next d ks hi hget hPg, hV.keep _ _ _ _ _ h.r k2 (fun j hj hF => hFg (hj ▸ hF)), ⟨hP, fun j v hj => kp _ _ _ hP (hc j v hj), hn.keep kp, hk.keep kp⟩, ?_, k2⟩
  refine ⟨k2.os.trans h.keeps.os, k2.tape.trans h.keeps.tape, k2.output.trans h.keeps.output, Nat.le_trans h.keeps.size k2.size, fun j hj hF => ?_⟩
  rw [k2.block j (Nat.lt_of_lt_of_le hj h.keeps.size) (by omega), h.keeps.block j hj hF]
/-- Behind what is called ahead of the kids, and the append. -/
theorem WalkAt.push {P : Nat → Prop} {W : World} {R : σ → (Nat → Prop) → World → Prop} {F0 : Nat → Prop} {res : σ} {k g cap g2 cap2 : Nat} {wr Wc w4 w5 : World} {T : Lev} {st : List Lev} {s : σ} {F : Nat → Prop} {fe fl : FuncId} {ce cl : Array Value} {d : Dt} {ks : Fo} {v4 : Value} {ob : Obj}
    (hV : Visit ent sel lv cnt M fe fl ce cl R) (h : WalkAt ent sel lv cnt M P W R F0 res k (.slice (some ⟨g, 0, none⟩) (st.length + 1) cap) wr (T :: st) s F) (hi : T.i < T.n) (hget : T.f.get T.i = some (d, ks)) (hg : W.heap.size ≤ g)
    (hm : Mach P W.heap.size Wc (.slice (some ⟨g, 0, none⟩) (st.length + 1) cap) ({ T with i := T.i + 1, d := d } :: st)) (hkW : Keeps F0 W Wc) (hkr : Keeps (fun k => k = g) wr Wc)
    (hsl : KidSl P w4 v4 ks (sel (ent s d) d ks)) (ha : After R (ent s d) F Wc w4)
    (hown : w5.ownsRow W.heap.size 124 2 (.slice (some ⟨g2, 0, none⟩) (st.length + 1 + 1) cap2) (st.length + 1 + 1) (({ T with i := T.i + 1, d := d } :: st).reverse.flatMap lc ++ [v4, .int .i64 0])) (hgrow : (w4.alloc ob).grownBy w5 (some g)) (hat : some g = some g2 ∨ g2 = w4.heap.size + 1) :
    ∃ F', WalkAt ent sel lv cnt M P W R F0 res (todo (⟨v4, sel (ent s d) d ks, 0, ks, d⟩ :: { T with i := T.i + 1, d := d } :: st)) (.slice (some ⟨g2, 0, none⟩) (st.length + 1 + 1) cap2) w5 (⟨v4, sel (ent s d) d ks, 0, ks, d⟩ :: { T with i := T.i + 1, d := d } :: st) (ent s d) F' := by
  obtain ⟨F', hr, hk4, hnew⟩ := ha
  obtain ⟨hFg, hPg⟩ := h.own g rfl
  have hlt4 := hV.lt _ _ _ hr
  have hltP : ∀ j, P j → j < Wc.heap.size := fun j hj => Nat.lt_of_lt_of_le (h.pl j hj) hkr.size
  have glt : g < Wc.heap.size := (hm.own.lt g rfl).2
  have k5 : Keeps (fun k => some g = some k) w4 w5 := ((Keeps.refl _ w4).alloc ob).trans (Keeps.grown hgrow)
  have z45 : w4.heap.size + 1 ≤ w5.heap.size := by have := hgrow.size; simpa using this
  have hF'P : ∀ j, F' j → ¬ P j := fun j hj hp => by
    rcases hnew j hj with h1 | h1
    · exact h.dis j h1 hp
    · have := hltP j hp; omega
  have hF'g : ¬ F' g := fun hf => by
    rcases hnew g hf with h1 | h1
    · exact hFg h1
    · omega
  have m4 : Mach P W.heap.size w4 (.slice (some ⟨g, 0, none⟩) (st.length + 1) cap) ({ T with i := T.i + 1, d := d } :: st) := hm.keep hk4 (fun g' e => by simp only [Value.ownBlock, Option.some.injEq] at e; subst e; exact hFg) (fun j hj hf => h.dis j hf hj)
  have kp : ∀ b o v, P b → w4.cell? ⟨b, o, none⟩ = some v → w5.cell? ⟨b, o, none⟩ = some v := fun b o v hb hc => k5.cell hc (fun e => by cases e; exact hPg hb)
  refine ⟨F', ⟨⟨by simpa [lc] using hown, ?_⟩, by simp, ?_, Nat.le_refl _, ?_, ?_, ?_, hV.keep _ _ _ _ _ hr k5 (fun j hj hf => by cases hj; exact hF'g hf), hF'P, ?_, ?_, ?_, fun j hj => Nat.lt_of_lt_of_le (hltP j hj) (Nat.le_trans hk4.size k5.size)⟩⟩
  · intro L hL
    simp only [List.mem_cons] at hL
    rcases hL with rfl | rfl | hL
    · exact ⟨hsl.keep kp, Nat.zero_le _, fun h0 => absurd h0 (Nat.lt_irrefl _)⟩
    · exact (m4.lev _ (by simp)).keep kp
    · exact (m4.lev _ (by simp [hL])).keep kp
  · intro A hA
    simp only [List.tail_cons, List.mem_cons] at hA
    rcases hA with rfl | hA
    · exact Nat.succ_pos _
    · exact h.pos A hA
  · have := todo_push T st d ks v4 (sel (ent s d) d ks) d hget
    have := h.bd
    omega
  · have := todo_push T st d ks v4 (sel (ent s d) d ks) d hget
    have := h.cn
    have := hV.ci s d
    omega
  · rw [← h.fin, fin_push ent sel lv T st s d ks v4 d hi hget]
  · intro g' e
    simp only [Value.ownBlock, Option.some.injEq] at e
    subst e
    rcases hat with e | e
    · cases e; exact ⟨hF'g, hPg⟩
    · refine ⟨fun hf => ?_, fun hp => ?_⟩
      · have := hlt4 _ hf; omega
      · have := hltP _ hp; have := hk4.size; omega
  · refine ⟨k5.os.trans (hk4.os.trans hkW.os), k5.tape.trans (hk4.tape.trans hkW.tape), k5.output.trans (hk4.output.trans hkW.output), Nat.le_trans hkW.size (Nat.le_trans hk4.size k5.size), fun j hj hF => ?_⟩
    rw [k5.block j (Nat.lt_of_lt_of_le hj (Nat.le_trans hkW.size hk4.size)) (fun e => by cases e; omega), hk4.block j (Nat.lt_of_lt_of_le hj hkW.size) (fun hf => by rcases h.new j hf with h1 | h1; exact hF h1; omega), hkW.block j hj hF]
  · intro j hj
    rcases hnew j hj with h1 | h1
    · exact h.new j h1
    · exact .inr (by have := hkW.size; omega)
/-- What is needed of the level below the top. -/
theorem WalkAt.below {P : Nat → Prop} {W : World} {R : σ → (Nat → Prop) → World → Prop} {F0 : Nat → Prop} {res : σ} {k : Nat} {v : Value} {wr : World} {T A : Lev} {st : List Lev} {s : σ} {F : Nat → Prop} (h : WalkAt ent sel lv cnt M P W R F0 res k v wr (T :: A :: st) s F) :
    ∃ b o c nv kv ks, A.v = .slice (some ⟨b, o, none⟩) A.n c ∧ A.n ≤ c ∧ c ≤ maxLen ∧ 0 < A.i ∧ A.i ≤ A.n ∧ ExAt P wr b (o + (A.i - 1) * 8) A.d ks nv kv := by
  have hp := h.pos A (by simp)
  have hl := h.mach.lev A (by simp)
  rcases hl.sl with ⟨_, h0⟩ | ⟨b, o, c, hv, h1, h2, h3, h4⟩
  · have := hl.le; omega
  · obtain ⟨ks, hks⟩ := hl.d hp
    obtain ⟨q1, nv, kv, q2, q3, q4⟩ := FoIn.at A.f b o h4 (A.i - 1) A.d ks hks
    exact ⟨b, o, c, nv, kv, ks, hv, h2, h3, hp, hl.le, ⟨q1, q2, q3, q4⟩⟩
theorem WalkAt.pop {P : Nat → Prop} {W : World} {R : σ → (Nat → Prop) → World → Prop} {F0 : Nat → Prop} {res : σ} {k g cap : Nat} {wr w' w6 : World} {T A : Lev} {st : List Lev} {s : σ} {F : Nat → Prop} {fe fl : FuncId} {ce cl : Array Value}
    (hV : Visit ent sel lv cnt M fe fl ce cl R) (h : WalkAt ent sel lv cnt M P W R F0 res k (.slice (some ⟨g, 0, none⟩) (st.length + 1 + 1) cap) wr (T :: A :: st) s F) (hi : ¬ T.i < T.n) (hg : W.heap.size ≤ g) (hw : Keeps (fun _ => False) wr w') (ha : After R (lv s A.d) F w' w6) :
    ∃ F', WalkAt ent sel lv cnt M P W R F0 res (todo (A :: st)) (.slice (some ⟨g, 0, none⟩) (st.length + 1) cap) w6 (A :: st) (lv s A.d) F' := by
  obtain ⟨F', hr, hk, hnew⟩ := ha
  obtain ⟨hFg, hPg⟩ := h.own g rfl
  have glt : g < w'.heap.size := Nat.lt_of_lt_of_le (h.mach.own.lt g rfl).2 hw.size
  have hltP : ∀ j, P j → j < w'.heap.size := fun j hj => Nat.lt_of_lt_of_le (h.pl j hj) hw.size
  have m1 : Mach P W.heap.size w6 (.slice (some ⟨g, 0, none⟩) (st.length + 1) cap) (A :: st) := ((Mach.pop (st := A :: st) h.mach).keep hw (fun _ _ h => h) (fun _ _ h => h)).keep hk (fun g' e => by simp only [Value.ownBlock, Option.some.injEq] at e; subst e; exact hFg) (fun j hj hf => h.dis j hf hj)
  refine ⟨F', ⟨m1, by simp, fun B hB => h.pos B (by simp only [List.tail_cons] at hB ⊢; exact List.mem_cons_of_mem _ hB), Nat.le_refl _, ?_, ?_, ?_, hr, ?_, ?_, ?_, ?_, fun j hj => Nat.lt_of_lt_of_le (hltP j hj) hk.size⟩⟩
  · have := h.bd
    simp only [todo] at this ⊢
    omega
  · have h1 := h.cn
    have h2 := hV.cl s A.d
    simp only [todo] at h1 ⊢
    omega
  · rw [← h.fin, fin_pop ent sel lv T (A :: st) s hi]
    rfl
  · intro j hj hp
    rcases hnew j hj with h1 | h1
    · exact h.dis j h1 hp
    · have := hltP j hp; omega
  · intro g' e
    simp only [Value.ownBlock, Option.some.injEq] at e
    subst e
    refine ⟨fun hf => ?_, hPg⟩
    rcases hnew g hf with h1 | h1
    · exact hFg h1
    · omega
  · refine ⟨hk.os.trans (hw.os.trans h.keeps.os), hk.tape.trans (hw.tape.trans h.keeps.tape), hk.output.trans (hw.output.trans h.keeps.output), Nat.le_trans h.keeps.size (Nat.le_trans hw.size hk.size), fun j hj hF => ?_⟩
    rw [hk.block j (Nat.lt_of_lt_of_le hj (Nat.le_trans h.keeps.size hw.size)) (fun hf => by rcases h.new j hf with h1 | h1; exact hF h1; omega), hw.block j (Nat.lt_of_lt_of_le hj h.keeps.size) id, h.keeps.block j hj hF]
  · intro j hj
    rcases hnew j hj with h1 | h1
    · exact h.new j h1
    · exact .inr (by have := h.keeps.size; have := hw.size; omega)
theorem WalkAt.done {P : Nat → Prop} {W : World} {R : σ → (Nat → Prop) → World → Prop} {F0 : Nat → Prop} {res : σ} {k : Nat} {v : Value} {wr : World} {T : Lev} {st : List Lev} {s : σ} {F : Nat → Prop} {fe fl : FuncId} {ce cl : Array Value}
    (hV : Visit ent sel lv cnt M fe fl ce cl R) (h : WalkAt ent sel lv cnt M P W R F0 res k v wr (T :: st) s F) (hi : ¬ T.i < T.n) (hs : st = []) (q : Nat) : LeaveOut R res F0 W (.returned (.tuple #[])) (wr.drewN q) := by
  subst hs
  have k1 : Keeps (fun _ => False) wr (wr.drewN q) := (Keeps.refl _ wr).drewN q
  refine ⟨rfl, F, ?_, ⟨k1.os.trans h.keeps.os, k1.tape.trans h.keeps.tape, k1.output.trans h.keeps.output, Nat.le_trans h.keeps.size k1.size, fun j hj hF => (k1.block j (Nat.lt_of_lt_of_le hj h.keeps.size) id).trans (h.keeps.block j hj hF)⟩, h.new⟩
  rw [← h.fin, fin_pop ent sel lv T [] s hi]
  exact hV.keep _ _ _ _ _ h.r k1 (fun _ h => h.elim)
variable (ent sel lv cnt M)
set_option maxRecDepth 100000 in
set_option maxHeartbeats 4000000 in
theorem walk_any (fe fl : FuncId) (ce cl : Array Value) (R : σ → (Nat → Prop) → World → Prop) (hV : Visit ent sel lv cnt M fe fl ce cl R)
    (hfe : ∀ (args : Array Value) (w : World), (callFunc fe args).run Try.prog w = .ok (.enter fe args) w) (hfl : ∀ (args : Array Value) (w : World), (callFunc fl args).run Try.prog w = .ok (.enter fl args) w)
    (B : Nat → Prop) (W : World) (hB : ∀ k, B k → k < W.heap.size) (s : σ) (F : Nat → Prop) (hR : R s F W) (hF : ∀ k, F k → ¬ B k) (d : Dt) (ks : Fo) (nv kv : Value) (hn : NamesIn B W nv d.ns) (hk : KidsIn B W kv ks) (hsz : ks.size ≤ 1000000) (hcn : cnt s + (3 + 2 * ks.size) ≤ M) :
    Calls Try.prog 42 #[.agg #[.int .u8 d.k, .int .u8 d.op, .int .i32 d.n, .string d.nm, nv, kv, .int .i64 d.line, .int .i64 d.col], .func (Fn.func fe) #[] ce, .func (Fn.func fl) #[] cl] W
      (LeaveOut R (wk ent sel lv (.cons d ks .nil) 1 s) F W) := by
  have HV := Lib.hid hV
  have HN := Lib.hid hn
  have HK := Lib.hid hk
  have HR := Lib.hid hR
  have HB := Lib.hid hB
  have HF := Lib.hid hF
  clear hV hn hk hR hB hF
  have hmk : ∀ w, (Instr.makeSlice 122 (.int .i64 0) (.int .i64 16)).run Try.prog w = .ok (.slice (some ⟨w.heap.size, 0, none⟩) 0 16) (w.alloc (.cells zeros 124)) := make_levels
  have hz0 : zeros[0]? = some (.slice none 0 0) := rfl
  have hz1 : zeros[1]? = some (.int .i64 0) := rfl
  have hzs : zeros.size = 32 := rfl
  go_enter Try.func42, Try.ntmps42
  go_upto_region 1 with (fail)
  go_cut [6] (fun v w => StartAt B W d ks v w)
  case first =>
    go_region
    all_goals (go_wp2; go_meet)
    case rel => exact start_of (W.heap.size + 1) (W.heap.size + 1 + 1) HN.out HK.out HB.out (by omega) (by omega) (by omega) (blk3 W _ _ _ _).1 (blk3 W _ _ _ _).2.1 (below3 W _ _ _ _)
    case rel => exact start_of (W.heap.size + 1 + 1) (W.heap.size + 1) HN.out HK.out HB.out (by omega) (by omega) (by omega) (blk3 W _ _ _ _).2.1 (blk3 W _ _ _ _).1 (below3 W _ _ _ _)
    case rel => exact start_of (W.heap.size + 1 + 1 + 1) (W.heap.size + 1) HN.out HK.out HB.out (by omega) (by omega) (by omega) (blk3 W _ _ _ _).2.2 (blk3 W _ _ _ _).1 (below3 W _ _ _ _)
  case rest =>
    clear hmk hz0 hz1 hzs
    obtain ⟨g0, lb, rfl, hg0, hlb, hne, hM, hb0, hlz⟩ := hcut
    have hst : WalkAt ent sel lv cnt M (fun k => B k ∨ k = lb) W R F (wk ent sel lv (.cons d ks .nil) 1 s) (3 + 2 * ks.size) (.slice (some ⟨g0, 0, none⟩) 1 16) wc [⟨.slice (some ⟨lb, 0, none⟩) 1 1, 1, 0, .cons d ks .nil, d⟩] s F := by
      have hlt := HV.out.lt _ _ _ HR.out
      refine ⟨hM, by simp, fun A hA => (by simp at hA), ?_, ?_, ?_, rfl, HV.out.keep _ _ (fun _ => False) _ _ HR.out (Keeps.below hb0) (fun _ h => h.elim), ?_, ?_, Keeps.below hb0, fun j hj => .inl hj, ?_⟩
      · simp only [Tx.todo, Fo.rest, Fo.drop, Fo.size]; omega
      · simp only [Tx.todo, Fo.rest, Fo.drop, Fo.size]; omega
      · simp only [Tx.todo, Fo.rest, Fo.drop, Fo.size]; omega
      · rintro j hj (h | h)
        · exact HF.out j hj h
        · have := hlt j hj; omega
      · intro g hg
        simp only [Value.ownBlock, Option.some.injEq] at hg
        refine ⟨fun h => by have := hlt g h; omega, ?_⟩
        rintro (h | h)
        · have := HB.out g h; omega
        · omega
      · rintro j (h | h)
        · exact Nat.lt_of_lt_of_le (HB.out j h) hb0.size
        · subst h
          exact hlz
    go_wp2
    go_loopg [6] (3 + 2 * ks.size) (fun k v wr => ∃ st s' F', WalkAt ent sel lv cnt M (fun k => B k ∨ k = lb) W R F (wk ent sel lv (.cons d ks .nil) 1 s) k v wr st s' F')
    case atStart => exact ⟨_, _, _, hst⟩
    case round =>
      obtain ⟨st, s', F', hw⟩ := hrel
      obtain ⟨T, st', rfl⟩ : ∃ T st', st = T :: st' := by
        cases st with
        | nil => exact absurd rfl hw.ne
        | cons T st' => exact ⟨T, st', rfl⟩
      obtain ⟨g, cap, rfl, hcap, hmax, hgb, hgl, c0, c1, hfz⟩ := hw.mach.top
      have hTl := hw.mach.lev T (by simp)
      have hbd := hw.bd
      have hln := todo_len (T :: st')
      obtain ⟨N, hN⟩ : ∃ N, st'.length = N := ⟨_, rfl⟩
      have HNN := Lib.hid hN
      rw [List.length_cons, hN] at hln
      rw [hN] at c0 c1 hcap ⊢
      have HW := Lib.hid hw
      have hNb : N ≤ 2000003 := by omega
      unfold maxLen at hmax
      clear hw hN hst hM hb0 hlz
      have f1 := hfz (N * 2 + 1)
      clear hfz
      by_cases hi : T.i < T.n
      · rcases hTl.sl with ⟨_, h0⟩ | ⟨b, o, kc, hv, hn1, hn2, hn3, hfo⟩
        · omega
        rw [hv] at c0
        obtain ⟨d1, ks1, hget⟩ := T.f.get_lt T.i (by omega)
        obtain ⟨hPb, nv1, kv1, hcell1, hnm1, hkd1⟩ := FoIn.at T.f b o hfo T.i d1 ks1 hget
        have HX := Lib.hid (And.intro hget (And.intro hPb (And.intro hcell1 (And.intro hnm1 hkd1))))
        have HV2 := Lib.hid hv
        unfold maxLen at hn3
        obtain ⟨i1, hi1⟩ : ∃ i, T.i = i := ⟨_, rfl⟩
        obtain ⟨n1, hn1'⟩ : ∃ n, T.n = n := ⟨_, rfl⟩
        rw [hi1] at c1 hi
        rw [hn1'] at c0 hn2 hi
        have HI := Lib.hid (And.intro hi1 hn1')
        clear hget hPb hcell1 hnm1 hkd1 hv hi1 hn1' hfo hTl hbd hln hn1
        go_wp2
        go_quiet (fail)
        revert nq
        intro q1
        go_wp2
        go_quiet (fail)
        go_wp2_with fail
        generalize hWc : (wr.drewN (q1 + nq)).setCell ⟨g, N * 2 + 1, none⟩ (.int .i64 (↑i1 + 1)) = Wc
        have hiT : T.i < T.n := by rw [HI.out.1, HI.out.2]; exact hi
        obtain ⟨m1, m2, m3, m4, m5⟩ := HW.out.mid HV.out hiT (q1 + nq) HX.out hgb Wc (by rw [HNN.out, HI.out.1]; exact hWc)
        rw [HI.out.1] at m3
        have M1 := Lib.hid m1
        have M45 := Lib.hid (And.intro m4 m5)
        clear hWc m1 m4 m5 f1 c0 c1
        refine (HV.out.enter (fun k => B k ∨ k = lb) s' F' Wc b (o + i1 * 8) d1 ks1 nv1 kv1 (by have := HW.out.cn; omega) m2 HW.out.dis m3).mono ?_
        rintro e w4 ⟨v4, rfl, hsl, ha⟩
        clear m2 m3
        have HA := Lib.hid ha
        have HSL := Lib.hid hsl
        obtain ⟨ao, c4, hv4⟩ := hsl.form
        have hmach4 : Mach (fun k => B k ∨ k = lb) W.heap.size w4 (.slice (some ⟨g, 0, none⟩) (st'.length + 1) cap) ({ T with i := T.i + 1, d := d1 } :: st') := by
          obtain ⟨F4, hr4, hk4, hn4⟩ := ha
          exact M1.out.keep hk4 (fun g' e => by simp only [Value.ownBlock, Option.some.injEq] at e; subst e; exact (HW.out.own g rfl).1) (fun j hj hf => HW.out.dis j hf hj)
        have hz4 : W.heap.size ≤ w4.heap.size := by
          obtain ⟨F4, hr4, hk4, hn4⟩ := ha
          exact Nat.le_trans M45.out.1.size hk4.size
        have HM4 := Lib.hid hmach4.own
        clear ha hsl hmach4
        obtain ⟨i0, hi0, hz0', hz1', hz2'⟩ := info_parts infoLev
        rw [hv4] at HSL ⊢
        clear hv4
        go_wp2_with (at_builtin; refine wpList_append_lies _ rfl (.tmp 47) (.tmp 52) 122 rfl W.heap.size 124 i0 _ 2 32 Try.underlying122 hi0 hz0' hz1' hz2' rfl (by decide) (.slice (some ⟨g, 0, none⟩) (N + 1) cap) (N + 1) _ rfl (by have := HM4.out.alloc; rw [List.length_cons, HNN.out] at this; exact this _) ⟨w4.heap.size, 0, none⟩ 1 1 [.slice ao (sel (ent s' d1) d1 ks1) c4, .int .i64 0] rfl rfl ?_ ?_ (by omega) ?_ ?_ ?_ _ rfl ?_; rotate_left 5; intro g2 cap2 w5 hown hgrow hat hlt2; have HP := Lib.hid (HW.out.push HV.out hiT HX.out.1 hgb M1.out M45.out.1 M45.out.2 HSL.out HA.out (by rw [HNN.out]; exact hown) hgrow (by simpa [Value.ownBlock] using hat)); clear hown hgrow hat)
        · obtain ⟨F5, hp⟩ := HP.out
          rw [HNN.out] at hp
          go_roundg (todo (⟨.slice ao (sel (ent s' d1) d1 ks1) c4, sel (ent s' d1) d1 ks1, 0, ks1, d1⟩ :: { T with i := T.i + 1, d := d1 } :: st'))
          case measure =>
            have h1 := todo_push T st' d1 ks1 (.slice ao (sel (ent s' d1) d1 ks1) c4) (sel (ent s' d1) d1 ks1) d1 HX.out.1
            have h2 := HW.out.left
            omega
          case rel => exact ⟨_, _, F5, hp⟩
        · intro jj u hj
          rcases jj with _ | _ | jj <;> simp at hj <;> subst hj <;> simp [Addr.add, go_sem]
        · intro u hu
          simp at hu
          rcases hu with rfl | rfl <;> rfl
        · unfold maxLen; omega
        · omega
        · simp; omega
      · obtain ⟨ao, tc, htv⟩ := hTl.sl.form
        rw [htv] at c0
        obtain ⟨i1, hi1⟩ : ∃ i, T.i = i := ⟨_, rfl⟩
        obtain ⟨n1, hn1'⟩ : ∃ n, T.n = n := ⟨_, rfl⟩
        have hiT := hi
        rw [hi1] at c1 hi
        rw [hn1'] at c0 hi
        have HIT := Lib.hid hiT
        clear hi1 hn1' hTl hbd htv hiT
        by_cases hN0 : N = 0
        · subst hN0
          rw [Nat.zero_mul] at c0
          rw [Nat.zero_mul, Nat.zero_add] at c1
          go_wp2
          go_quiet (fail)
          go_wp2
          go_end0
          exact HW.out.done HV.out HIT.out (List.length_eq_zero_iff.1 HNN.out) nq
        · obtain ⟨A, st2, rfl⟩ : ∃ A st2, st' = A :: st2 := by
            cases st' with
            | nil => exact absurd HNN.out.symm hN0
            | cons A st2 => exact ⟨A, st2, rfl⟩
          obtain ⟨M, rfl⟩ : ∃ M, N = M + 1 := ⟨N - 1, by omega⟩
          have hM2 : st2.length = M := by have := HNN.out; simp at this; exact this
          obtain ⟨b2, o2, kc2, nv2, kv2, ks2, av, a1, a2, a3, a4, ax⟩ := HW.out.below
          obtain ⟨g', cap', hgv, _, _, _, _, e0, e1, _⟩ := (Mach.pop (st := A :: st2) HW.out.mach).top
          simp only [List.length_cons, Value.slice.injEq, Option.some.injEq, Addr.mk.injEq, and_true] at hgv
          obtain ⟨rfl, _, rfl⟩ := hgv
          rw [hM2, av] at e0
          rw [hM2] at e1
          have HM2 := Lib.hid hM2
          have HX2 := Lib.hid ax
          obtain ⟨i2, hi2⟩ : ∃ i, A.i = i := ⟨_, rfl⟩
          obtain ⟨n2, hn2⟩ : ∃ n, A.n = n := ⟨_, rfl⟩
          rw [hi2] at e1 a3 a4
          rw [hn2] at e0 a1 a4
          have HI2 := Lib.hid hi2
          unfold maxLen at a2
          clear hM2 av ax hi2 hn2
          have r1 : IntKind.i64.wrap ((i2 : Int) - 1) = (i2 : Int) - 1 := IntWalk.i64_in _ (by omega)
          have r2 : 0 ≤ (i2 : Int) - 1 := by omega
          have r3 : ((i2 : Int) - 1).toNat = i2 - 1 := by omega
          have r4 : (i2 : Int) - 1 < (n2 : Int) := by omega
          have hm0 : (((M : Int) + 1) == 0) = false := by rw [beq_eq_false_iff_ne]; omega
          go_wp2
          go_quiet (fail)
          revert nq
          intro q1
          go_wp2
          have HLV := Lib.hid (show ∀ w', Keeps (fun _ => False) wr w' → Calls Try.prog fl (#[.pointer (some ⟨b2, o2 + (i2 - 1) * 8, none⟩)] ++ cl) w' (LeaveOut R (lv s' A.d) F' w') from fun w' hw' =>
            HV.out.leave (fun k => B k ∨ k = lb) s' F' w' b2 _ A.d ks2 nv2 kv2 (by have := HW.out.cn; omega) (HV.out.keep _ _ _ _ _ HW.out.r hw' (fun _ h => h.elim)) HW.out.dis (by have := HX2.out.keep hw' (fun _ _ h => h); rw [HI2.out] at this; exact this))
          go_region_with (refine (HLV.out _ (by exact ⟨rfl, rfl, rfl, Nat.le_refl _, fun _ _ _ => rfl⟩)).mono ?_; rintro e w6 ⟨rfl, ha⟩; have HA := Lib.hid (HW.out.pop (st := st2) (w6 := w6) HV.out HIT.out hgb (by exact ⟨rfl, rfl, rfl, Nat.le_refl _, fun _ _ _ => rfl⟩) ha); clear ha)
          all_goals
            obtain ⟨F6, hp⟩ := HA.out
            rw [HM2.out] at hp
            go_wp2
            go_roundg (todo (A :: st2))
            case measure =>
              have h2 := HW.out.left
              simp only [todo] at h2 ⊢
              omega
            case rel => exact ⟨_, _, F6, hp⟩
end
end Tx
end Go.Proofs.Ytmddcncjoadmiaa
