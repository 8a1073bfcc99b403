/- Package walk's walk through an expression: its contract. -/
import Derived.Test.YtggoejghnlgigaaTm
import Derived.Deep.Cut
import Derived.Deep.CutRange
import Derived.Deep.DeepCutAuto
import Derived.IntWalk
namespace Go.Proofs.Ytggoejghnlgigaa
open Go.ChangeShapes Go.WideShapes Go.ChangeAt Go.RowKit
namespace Tx
set_option linter.unusedVariables false
set_option linter.unusedSimpArgs false
def zeros : Array Value := #[.pointer none, .slice none 0 0, .pointer none, .slice none 0 0, .pointer none, .slice none 0 0, .pointer none, .slice none 0 0, .pointer none, .slice none 0 0, .pointer none, .slice none 0 0, .pointer none, .slice none 0 0, .pointer none, .slice none 0 0, .pointer none, .slice none 0 0, .pointer none, .slice none 0 0, .pointer none, .slice none 0 0, .pointer none, .slice none 0 0, .pointer none, .slice none 0 0, .pointer none, .slice none 0 0, .pointer none, .slice none 0 0, .pointer none, .slice none 0 0]
theorem make_levels (w : World) : (Instr.makeSlice 92 (.int .i64 0) (.int .i64 16)).run Try.prog w = .ok (.slice (some ⟨w.heap.size, 0, none⟩) 0 16) (w.alloc (.cells zeros 94)) := by kernel_rfl
section
variable {σ : Type} (ent : σ → Dt → σ) (sel : σ → Dt → Fo → Nat) (lv : σ → Dt → σ) (stop : σ → Bool) (cnt : σ → Nat) (M : Nat)
/-- What is left behind a call: what is known of s, in some blocks; all others stay. -/
def After (R : σ → (Nat → Prop) → World → Prop) (s : σ) (F : Nat → Prop) (w w' : World) : Prop := ∃ F', R s F' w' ∧ Keeps F w w' ∧ ∀ k, F' k → F k ∨ w.heap.size ≤ k
def EnterOut (P : Nat → Prop) (R : σ → (Nat → Prop) → World → Prop) (s : σ) (F : Nat → Prop) (f : Fo) (n : Nat) (w : World) (e : Ending) (w' : World) : Prop :=
  ∃ v, e = .returned v ∧ KidSl P w' v f n ∧ After R s F w w'
def LeaveOut (R : σ → (Nat → Prop) → World → Prop) (s : σ) (F : Nat → Prop) (w : World) (e : Ending) (w' : World) : Prop := e = .returned (.tuple #[]) ∧ After R s F w w'
def LeftOut (b : Bool) (R : σ → (Nat → Prop) → World → Prop) (s : σ) (F : Nat → Prop) (w : World) (e : Ending) (w' : World) : Prop := e = .returned (.bool b) ∧ After R s F w w'
/-- What a walk calls: R s F w: s is known in w, and lies in the blocks F. -/
structure Visit (fe fl : FuncId) (ce cL : Array Value) (R : σ → (Nat → Prop) → World → Prop) : Prop where
  lt : ∀ s F w, R s F w → ∀ k, F k → k < w.heap.size
  keep : ∀ s F S w w', R s F w → Keeps S w w' → (∀ k, S k → ¬ F k) → R s F w'
  ci : ∀ s d, cnt (ent s d) ≤ cnt s + 1
  cl : ∀ s d, cnt (lv s d) ≤ cnt s + 1
  es : ∀ s d, stop s = false → stop (ent s d) = false
  enter : ∀ (P : Nat → Prop) s F w b o d ks nv kv, stop s = false → cnt s ≤ M → R s F w → (∀ k, F k → ¬ P k) → ExAt P w b o d ks nv kv → Calls Try.prog fe (#[.pointer (some ⟨b, o, none⟩)] ++ ce) w (EnterOut P R (ent s d) F ks (sel (ent s d) d ks) w)
  leave : ∀ (P : Nat → Prop) s F w b o d ks nv kv, stop s = false → cnt s ≤ M → R s F w → (∀ k, F k → ¬ P k) → ExAt P w b o d ks nv kv → Calls Try.prog fl (#[.pointer (some ⟨b, o, none⟩)] ++ cL) w (LeftOut (!stop (lv s d)) R (lv s d) F w)
theorem infoLev : (Try.prog.info? 94).map (fun i => (i.zero, i.size, i.bytes)) = some (some (Value.agg #[.pointer none, .slice none 0 0]), 2, 32) := by kernel_rfl
theorem KidSl.form {B : Nat → Prop} {w : World} {v : Value} {f : Fo} {n : Nat} (h : KidSl B w v f n) : ∃ ao c, v = .slice ao n c := by
  rcases h with ⟨h, rfl⟩ | ⟨b, o, cap, e, _⟩
  · exact h
  · exact ⟨_, _, e⟩
/-- The first of some expressions, and the others. -/
theorem KidSl.uncons {B : Nat → Prop} {w : World} {v : Value} {f : Fo} {n : Nat} (h : KidSl B w v f (n + 1)) :
    ∃ d ks r b o c nv kv, f = .cons d ks r ∧ v = .slice (some ⟨b, o, none⟩) (n + 1) c ∧ n + 1 ≤ c ∧ c ≤ maxLen ∧ ExAt B w b o d ks nv kv ∧ ∀ c', n ≤ c' → c' ≤ maxLen → KidSl B w (.slice (some ⟨b, o + 8, none⟩) n c') r n := by
  rcases h with ⟨h, h0⟩ | ⟨b, o, cap, e, h1, h2, h3, h4⟩
  · omega
  · cases f with
    | nil => simp [Fo.len] at h1
    | cons d ks r =>
      obtain ⟨hB, ⟨nv, kv, hc, hn, hk⟩, hr⟩ := h4
      refine ⟨d, ks, r, b, o, cap, nv, kv, rfl, e, h2, h3, ⟨hB, hc, hn, hk⟩, fun c' h1' h2' => .inr ⟨b, o + 8, c', rfl, ?_, h1', h2', hr⟩⟩
      simp only [Fo.len] at h1
      omega
/-- How far the walk is. -/
structure WalkAt (P : Nat → Prop) (W : World) (R : σ → (Nat → Prop) → World → Prop) (F0 : Nat → Prop) (res : σ) (k : Nat) (v : Value) (w : World) (st : List Lev) (s : σ) (F : Nat → Prop) : Prop where
  mach : Mach P W.heap.size w v st
  left : todo st ≤ k
  bd : todo st ≤ 2000003
  cn : cnt s + todo st ≤ M
  go : stop s = false
  fin : fin ent sel lv stop st s = res
  r : R s F w
  dis : ∀ j, F j → ¬ P j
  own : ∀ g, v.ownBlock = some g → ¬ F g ∧ ¬ P g
  keeps : Keeps F0 W w
  new : ∀ j, F j → F0 j ∨ W.heap.size ≤ j
  pl : ∀ j, P j → j < w.heap.size
theorem ExAt.keep {P S : Nat → Prop} {w w' : World} {b o : Nat} {d : Dt} {ks : Fo} {nv kv : Value} (h : ExAt P w b o d ks nv kv) (hk : Keeps S w w') (hP : ∀ k, P k → ¬ S k) : ExAt P w' b o d ks nv kv :=
  h.keepB fun b o v hb hc => hk.cell hc (hP b hb)
theorem Keeps.grown {w w' : World} {row : Option Nat} (h : w.grownBy w' row) : Keeps (fun k => row = some k) w w' := ⟨h.os, h.tape, h.output, h.size, fun k hk hs => h.block k hk (fun e => hs e.symm)⟩
variable {ent sel lv stop cnt M}
/-- Behind the store of the top's next place. -/
theorem WalkAt.mid {P : Nat → Prop} {W : World} {R : σ → (Nat → Prop) → World → Prop} {F0 : Nat → Prop} {res : σ} {k g cap b o n : Nat} {wr : World} {a v v' : Value} {f r : Fo} {dt : Dt} {st : List Lev} {s : σ} {F : Nat → Prop} {fe fl : FuncId} {ce cl : Array Value} {d : Dt} {ks : Fo} {nv kv : Value}
    (hV : Visit ent sel lv stop cnt M fe fl ce cl R) (h : WalkAt ent sel lv stop cnt M P W R F0 res k (.slice (some ⟨g, 0, none⟩) (st.length + 1) cap) wr (⟨a, v, n + 1, f, dt⟩ :: st) s F) (q : Nat)
    (hsl : KidSl P wr v' r n) (hx : ExAt P wr b o d ks nv kv) (hg : W.heap.size ≤ g) (Wc : World) (hWc : (wr.drewN q).setCell ⟨g, st.length * 2 + 1, none⟩ v' = Wc) :
    Mach P W.heap.size Wc (.slice (some ⟨g, 0, none⟩) (st.length + 1) cap) (⟨a, v', n, r, dt⟩ :: st) ∧ R s F Wc ∧ ExAt P Wc b o d ks nv kv ∧ Keeps F0 W Wc ∧ Keeps (fun k => k = g) wr Wc := by
  obtain ⟨hFg, hPg⟩ := h.own g rfl
  have k1 : Keeps (fun _ => False) wr (wr.drewN q) := (Keeps.refl _ wr).drewN q
  have m1 : Mach P W.heap.size (wr.drewN q) (.slice (some ⟨g, 0, none⟩) (st.length + 1) cap) (⟨a, v, n + 1, f, dt⟩ :: st) := h.mach.keep k1 (fun _ _ h => h) (fun _ _ h => h)
  have k2 : Keeps (fun k => k = g) wr Wc := by
    rw [← hWc]
    exact ((Keeps.refl (fun k => k = g) wr).drewN q).setCell (p := ⟨g, st.length * 2 + 1, none⟩) rfl _
  have kp : ∀ b o v, P b → wr.cell? ⟨b, o, none⟩ = some v → Wc.cell? ⟨b, o, none⟩ = some v := fun b o v hb hc => k2.cell hc (fun e => hPg (e ▸ hb))
  refine ⟨by rw [← hWc]; exact m1.next v' n r (KidSl.keep (w := wr) (w' := wr.drewN q) (fun b o v hb hc => hc) hsl) hPg, hV.keep _ _ _ _ _ h.r k2 (fun j hj hF => hFg (hj ▸ hF)), hx.keepB kp, ?_, k2⟩
  refine ⟨k2.os.trans h.keeps.os, k2.tape.trans h.keeps.tape, k2.output.trans h.keeps.output, Nat.le_trans h.keeps.size k2.size, fun j hj hF => ?_⟩
  rw [k2.block j (Nat.lt_of_lt_of_le hj h.keeps.size) (by omega), h.keeps.block j hj hF]
/-- Behind what is called ahead of the kids, and the append. -/
theorem WalkAt.push {P : Nat → Prop} {W : World} {R : σ → (Nat → Prop) → World → Prop} {F0 : Nat → Prop} {res : σ} {k g cap g2 cap2 b o n : Nat} {wr Wc w4 w5 : World} {a v v' : Value} {f r : Fo} {dt : Dt} {st : List Lev} {s : σ} {F : Nat → Prop} {fe fl : FuncId} {ce cl : Array Value} {d : Dt} {ks : Fo} {nv kv v4 : Value} {ob : Obj}
    (hV : Visit ent sel lv stop cnt M fe fl ce cl R) (h : WalkAt ent sel lv stop cnt M P W R F0 res k (.slice (some ⟨g, 0, none⟩) (st.length + 1) cap) wr (⟨a, v, n + 1, f, dt⟩ :: st) s F) (hf : f = Fo.cons d ks r) (hg : W.heap.size ≤ g)
    (hm : Mach P W.heap.size Wc (.slice (some ⟨g, 0, none⟩) (st.length + 1) cap) (⟨a, v', n, r, dt⟩ :: st)) (hkW : Keeps F0 W Wc) (hkr : Keeps (fun k => k = g) wr Wc) (hx : ExAt P Wc b o d ks nv kv)
    (hsl : KidSl P w4 v4 ks (sel (ent s d) d ks)) (ha : After R (ent s d) F Wc w4)
    (hown : w5.ownsRow W.heap.size 94 2 (.slice (some ⟨g2, 0, none⟩) (st.length + 1 + 1) cap2) (st.length + 1 + 1) ((⟨a, v', n, r, dt⟩ :: st : List Lev).reverse.flatMap lc ++ [.pointer (some ⟨b, o, none⟩), v4])) (hgrow : (w4.alloc ob).grownBy w5 (some g)) (hat : some g = some g2 ∨ g2 = w4.heap.size + 1) :
    ∃ F', WalkAt ent sel lv stop cnt M P W R F0 res (todo (⟨.pointer (some ⟨b, o, none⟩), v4, sel (ent s d) d ks, ks, d⟩ :: ⟨a, v', n, r, dt⟩ :: st)) (.slice (some ⟨g2, 0, none⟩) (st.length + 1 + 1) cap2) w5 (⟨.pointer (some ⟨b, o, none⟩), v4, sel (ent s d) d ks, ks, d⟩ :: ⟨a, v', n, r, dt⟩ :: st) (ent s d) F' := by
  obtain ⟨F', hr, hk4, hnew⟩ := ha
  obtain ⟨hFg, hPg⟩ := h.own g rfl
  have hlt4 := hV.lt _ _ _ hr
  have hltP : ∀ j, P j → j < Wc.heap.size := fun j hj => Nat.lt_of_lt_of_le (h.pl j hj) hkr.size
  have glt : g < Wc.heap.size := (hm.own.lt g rfl).2
  have k5 : Keeps (fun k => some g = some k) w4 w5 := ((Keeps.refl _ w4).alloc ob).trans (Keeps.grown hgrow)
  have z45 : w4.heap.size + 1 ≤ w5.heap.size := by have := hgrow.size; simpa using this
  have hF'P : ∀ j, F' j → ¬ P j := fun j hj hp => by
    rcases hnew j hj with h1 | h1
    · exact h.dis j h1 hp
    · have := hltP j hp; omega
  have hF'g : ¬ F' g := fun hf => by
    rcases hnew g hf with h1 | h1
    · exact hFg h1
    · omega
  have m4 : Mach P W.heap.size w4 (.slice (some ⟨g, 0, none⟩) (st.length + 1) cap) (⟨a, v', n, r, dt⟩ :: st) := hm.keep hk4 (fun g' e => by simp only [Value.ownBlock, Option.some.injEq] at e; subst e; exact hFg) (fun j hj hf => h.dis j hf hj)
  have hx4 := hx.keep hk4 (fun j hj hf => h.dis j hf hj)
  have kp : ∀ b o v, P b → w4.cell? ⟨b, o, none⟩ = some v → w5.cell? ⟨b, o, none⟩ = some v := fun b o v hb hc => k5.cell hc (fun e => by cases e; exact hPg hb)
  have htp := todo_push a v dt (n + 1) f (.pointer (some ⟨b, o, none⟩)) v4 (sel (ent s d) d ks) d ks r v' n st hf
  refine ⟨F', ⟨⟨by simpa [lc] using hown, ?_⟩, Nat.le_refl _, ?_, ?_, hV.es _ _ h.go, ?_, hV.keep _ _ _ _ _ hr k5 (fun j hj hf => by cases hj; exact hF'g hf), hF'P, ?_, ?_, ?_, fun j hj => Nat.lt_of_lt_of_le (hltP j hj) (Nat.le_trans hk4.size k5.size)⟩⟩
  · intro L hL
    simp only [List.mem_cons] at hL
    rcases hL with rfl | rfl | hL
    · exact ⟨hsl.keep kp, b, o, ks, nv, kv, rfl, hx4.keepB kp⟩
    · exact (m4.lev _ (by simp)).keep kp
    · exact (m4.lev _ (by simp [hL])).keep kp
  · have := h.bd
    omega
  · have := h.cn
    have := hV.ci s d
    omega
  · rw [← h.fin, fin_push ent sel lv stop a v n dt f st s (.pointer (some ⟨b, o, none⟩)) v4 d ks r hf]
    rfl
  · intro g' e
    simp only [Value.ownBlock, Option.some.injEq] at e
    subst e
    rcases hat with e | e
    · cases e; exact ⟨hF'g, hPg⟩
    · refine ⟨fun hf => ?_, fun hp => ?_⟩
      · have := hlt4 _ hf; omega
      · have := hltP _ hp; have := hk4.size; omega
  · refine ⟨k5.os.trans (hk4.os.trans hkW.os), k5.tape.trans (hk4.tape.trans hkW.tape), k5.output.trans (hk4.output.trans hkW.output), Nat.le_trans hkW.size (Nat.le_trans hk4.size k5.size), fun j hj hF => ?_⟩
    rw [k5.block j (Nat.lt_of_lt_of_le hj (Nat.le_trans hkW.size hk4.size)) (fun e => by cases e; omega), hk4.block j (Nat.lt_of_lt_of_le hj hkW.size) (fun hf => by rcases h.new j hf with h1 | h1; exact hF h1; omega), hkW.block j hj hF]
  · intro j hj
    rcases hnew j hj with h1 | h1
    · exact h.new j h1
    · exact .inr (by have := hkW.size; omega)
theorem WalkAt.leftK {P : Nat → Prop} {W : World} {R : σ → (Nat → Prop) → World → Prop} {F0 : Nat → Prop} {res : σ} {k g cap : Nat} {wr w' w6 : World} {T : Lev} {st : List Lev} {s : σ} {F F' : Nat → Prop}
    (h : WalkAt ent sel lv stop cnt M P W R F0 res k (.slice (some ⟨g, 0, none⟩) (st.length + 1) cap) wr (T :: st) s F) (hw : Keeps (fun _ => False) wr w') (hk : Keeps F w' w6) : Keeps F0 W w6 := by
  refine ⟨hk.os.trans (hw.os.trans h.keeps.os), hk.tape.trans (hw.tape.trans h.keeps.tape), hk.output.trans (hw.output.trans h.keeps.output), Nat.le_trans h.keeps.size (Nat.le_trans hw.size hk.size), fun j hj hF => ?_⟩
  rw [hk.block j (Nat.lt_of_lt_of_le hj (Nat.le_trans h.keeps.size hw.size)) (fun hf => by rcases h.new j hf with h1 | h1; exact hF h1; omega), hw.block j (Nat.lt_of_lt_of_le hj h.keeps.size) id, h.keeps.block j hj hF]
theorem WalkAt.pop {P : Nat → Prop} {W : World} {R : σ → (Nat → Prop) → World → Prop} {F0 : Nat → Prop} {res : σ} {k g cap : Nat} {wr w' w6 : World} {T : Lev} {st : List Lev} {s : σ} {F : Nat → Prop} {fe fl : FuncId} {ce cl : Array Value}
    (hV : Visit ent sel lv stop cnt M fe fl ce cl R) (h : WalkAt ent sel lv stop cnt M P W R F0 res k (.slice (some ⟨g, 0, none⟩) (st.length + 1) cap) wr (T :: st) s F) (hi : T.n = 0) (hs : stop (lv s T.d) = false) (hg : W.heap.size ≤ g) (hw : Keeps (fun _ => False) wr w') (ha : After R (lv s T.d) F w' w6) (q : Nat) :
    ∃ F', WalkAt ent sel lv stop cnt M P W R F0 res (todo st) (.slice (some ⟨g, 0, none⟩) st.length cap) (w6.drewN q) st (lv s T.d) F' := by
  obtain ⟨F', hr, hk0, hnew⟩ := ha
  have hk : Keeps F w' (w6.drewN q) := hk0.drewN q
  have hr := hV.keep _ _ (fun _ => False) _ _ hr ((Keeps.refl _ w6).drewN q) (fun _ h => h.elim)
  obtain ⟨hFg, hPg⟩ := h.own g rfl
  have glt : g < w'.heap.size := Nat.lt_of_lt_of_le (h.mach.own.lt g rfl).2 hw.size
  have hltP : ∀ j, P j → j < w'.heap.size := fun j hj => Nat.lt_of_lt_of_le (h.pl j hj) hw.size
  have m1 : Mach P W.heap.size (w6.drewN q) (.slice (some ⟨g, 0, none⟩) st.length cap) st := ((Mach.pop h.mach).keep hw (fun _ _ h => h) (fun _ _ h => h)).keep hk (fun g' e => by simp only [Value.ownBlock, Option.some.injEq] at e; subst e; exact hFg) (fun j hj hf => h.dis j hf hj)
  refine ⟨F', ⟨m1, Nat.le_refl _, ?_, ?_, hs, ?_, hr, ?_, ?_, h.leftK (F' := F) hw hk, ?_, fun j hj => Nat.lt_of_lt_of_le (hltP j hj) hk.size⟩⟩
  · have := h.bd
    simp only [todo] at this ⊢
    omega
  · have h1 := h.cn
    have h2 := hV.cl s T.d
    simp only [todo] at h1 ⊢
    omega
  · rw [← h.fin, fin_pop ent sel lv stop T st s hi h.go, if_neg (by rw [hs]; decide)]
  · intro j hj hp
    rcases hnew j hj with h1 | h1
    · exact h.dis j h1 hp
    · have := hltP j hp; omega
  · intro g' e
    simp only [Value.ownBlock, Option.some.injEq] at e
    subst e
    refine ⟨fun hf => ?_, hPg⟩
    rcases hnew g hf with h1 | h1
    · exact hFg h1
    · omega
  · intro j hj
    rcases hnew j hj with h1 | h1
    · exact h.new j h1
    · exact .inr (by have := h.keeps.size; have := hw.size; omega)
theorem WalkAt.broke {P : Nat → Prop} {W : World} {R : σ → (Nat → Prop) → World → Prop} {F0 : Nat → Prop} {res : σ} {k g cap : Nat} {wr w' w6 : World} {T : Lev} {st : List Lev} {s : σ} {F : Nat → Prop} {fe fl : FuncId} {ce cl : Array Value}
    (hV : Visit ent sel lv stop cnt M fe fl ce cl R) (h : WalkAt ent sel lv stop cnt M P W R F0 res k (.slice (some ⟨g, 0, none⟩) (st.length + 1) cap) wr (T :: st) s F) (hi : T.n = 0) (hs : stop (lv s T.d) = true) (hw : Keeps (fun _ => False) wr w') (ha : After R (lv s T.d) F w' w6) : LeaveOut R res F0 W (.returned (.tuple #[])) w6 := by
  obtain ⟨F', hr, hk, hnew⟩ := ha
  refine ⟨rfl, F', ?_, h.leftK (F' := F) hw hk, ?_⟩
  · rw [← h.fin, fin_pop ent sel lv stop T st s hi h.go, if_pos hs]
    exact hr
  · intro j hj
    rcases hnew j hj with h1 | h1
    · exact h.new j h1
    · exact .inr (by have := h.keeps.size; have := hw.size; omega)
theorem WalkAt.done {P : Nat → Prop} {W : World} {R : σ → (Nat → Prop) → World → Prop} {F0 : Nat → Prop} {res : σ} {k : Nat} {v : Value} {wr : World} {s : σ} {F : Nat → Prop} {fe fl : FuncId} {ce cl : Array Value}
    (hV : Visit ent sel lv stop cnt M fe fl ce cl R) (h : WalkAt ent sel lv stop cnt M P W R F0 res k v wr [] s F) : LeaveOut R res F0 W (.returned (.tuple #[])) wr := by
  refine ⟨rfl, F, ?_, h.keeps, h.new⟩
  rw [← h.fin]
  exact h.r
end
end Tx
end Go.Proofs.Ytggoejghnlgigaa
