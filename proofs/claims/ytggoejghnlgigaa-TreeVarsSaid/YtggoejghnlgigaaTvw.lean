/- Package walk's walk through an expression: its contract. -/
import Derived.Test.YtggoejghnlgigaaTv
import Derived.Deep.RegionLaw
import Derived.Deep.RegionHeld3
namespace Go.Proofs.Ytggoejghnlgigaa
open Go.ChangeShapes Go.WideShapes Go.ChangeAt Go.RowKit
namespace Tx
set_option linter.unusedVariables false
set_option linter.unusedSimpArgs false
section
variable {σ : Type} (ent : σ → Dt → σ) (sel : σ → Dt → Fo → Nat) (lv : σ → Dt → σ) (stop : σ → Bool) (cnt : σ → Nat) (M : Nat)
/-- The stack as it is at first. -/
structure StartAt (B : Nat → Prop) (W : World) (R : σ → (Nat → Prop) → World → Prop) (F : Nat → Prop) (s : σ) (a : Value) (d : Dt) (ks : Fo) (n : Nat) (v : Value) (w : World) : Prop where
  at_ : ∃ g cap v4 F', v = .slice (some ⟨g, 0, none⟩) 1 cap ∧ W.heap.size ≤ g ∧ Mach B W.heap.size w v [⟨a, v4, n, ks, d⟩] ∧ R s F' w ∧ Keeps F W w ∧ (∀ k, F' k → F k ∨ W.heap.size ≤ k) ∧ ¬ F' g ∧ (∀ k, B k → k < w.heap.size)
theorem start_own {ent : σ → Dt → σ} {sel : σ → Dt → Fo → Nat} {lv : σ → Dt → σ} {stop : σ → Bool} {cnt : σ → Nat} {M : Nat} {fe fl : FuncId} {ce cl : Array Value} {R : σ → (Nat → Prop) → World → Prop} {s s1 : σ} {F : Nat → Prop} {W w4 : World} (hR : R s F W) (hV : Visit ent sel lv stop cnt M fe fl ce cl R) (ha : After R s1 F (W.alloc (.cells zeros 94)) w4) :
    w4.heap[W.heap.size]? = some (.cells zeros 94 (0, 0)) ∧ W.heap.size + 1 ≤ w4.heap.size := by
  obtain ⟨F', hr, hk, hn⟩ := ha
  have hlt := hV.lt _ _ _ hR
  have hz := hk.size
  rw [show (W.alloc (.cells zeros 94)).heap.size = W.heap.size + 1 by simp] at hz
  refine ⟨?_, hz⟩
  rw [hk.block W.heap.size (by simp) (fun hf => by have := hlt _ hf; omega)]
  exact heap_alloc_new W _
theorem start_cells {w4 : World} {g : Nat} (h : w4.heap[g]? = some (.cells zeros 94 (0, 0))) : w4.cell? ⟨g, 0, none⟩ = some (.pointer none) ∧ w4.cell? ⟨g, 1, none⟩ = some (.slice none 0 0) ∧ ∀ o, w4.frozen? ⟨g, o, none⟩ = false :=
  ⟨by rw [cell_of_row w4 g 0 _ _ _ h]; rfl, by rw [cell_of_row w4 g 1 _ _ _ h]; rfl, fun o => by simp [World.frozen?, h]⟩
theorem start_cells2 {w4 : World} {g : Nat} (h : w4.heap[g]? = some (.cells zeros 94 (0, 0))) :
    (∀ o, (w4.alloc o).cell? ⟨g, 0, none⟩ = some (.pointer none)) ∧ (∀ o, (w4.alloc o).cell? ⟨g, 1, none⟩ = some (.slice none 0 0)) ∧ (∀ o, (w4.alloc o).frozen? ⟨g, 0, none⟩ = false) ∧ ∀ o, (w4.alloc o).frozen? ⟨g, 1, none⟩ = false := by
  have hlt : g < w4.heap.size := (Array.getElem?_eq_some_iff.1 h).1
  have h1 : ∀ o, (w4.alloc o).heap[g]? = some (.cells zeros 94 (0, 0)) := fun o => (heap_alloc_old w4 o hlt).trans h
  exact ⟨fun o => (start_cells (h1 o)).1, fun o => (start_cells (h1 o)).2.1, fun o => (start_cells (h1 o)).2.2 0, fun o => (start_cells (h1 o)).2.2 1⟩
theorem start_row {w4 : World} {g : Nat} {u v : Value} (o : Obj) (h : w4.heap[g]? = some (.cells zeros 94 (0, 0))) :
    (((w4.alloc o).setCell ⟨g, 0, none⟩ u).setCell ⟨g, 1, none⟩ v).heap[g]? = some (.cells ((zeros.setIfInBounds 0 u).setIfInBounds 1 v) 94 (0, 0)) := by
  have hlt : g < w4.heap.size := (Array.getElem?_eq_some_iff.1 h).1
  have h1 : (w4.alloc o).heap[g]? = some (.cells zeros 94 (0, 0)) := (heap_alloc_old w4 o hlt).trans h
  simp [World.setCell, Array.getElem?_modify, h1]
theorem blk_first (w : World) (o0 o1 : Obj) : ((w.alloc o0).alloc o1).heap[w.heap.size]? = some o0 := by
  have e : ((w.alloc o0).alloc o1).heap = (w.heap.push o0).push o1 := rfl
  rw [e, Array.getElem?_push, if_neg (by simp only [Array.size_push]; omega), Array.getElem?_push, if_pos rfl]
theorem blk_second (w : World) (o0 o1 : Obj) : ((w.alloc o0).alloc o1).heap[w.heap.size + 1]? = some o1 := by
  have e : ((w.alloc o0).alloc o1).heap = (w.heap.push o0).push o1 := rfl
  rw [e, Array.getElem?_push, if_pos (by simp only [Array.size_push])]
theorem nil_form {w : World} {base : Nat} {t : TypeId} {size : Nat} {v : Value} {xs : List Value} (h : w.ownsRow base t size v 0 xs) : ∃ ao c, v = .slice ao 0 c := by
  rcases h.2 with ⟨hv, _⟩ | ⟨g, cap, cur, hv, _⟩
  · exact ⟨_, _, hv⟩
  · exact ⟨_, _, hv⟩
theorem Mach.after {B : Nat → Prop} {base : Nat} {w w4 : World} {v : Value} {st : List Lev} {R : σ → (Nat → Prop) → World → Prop} {s : σ} {F : Nat → Prop} (h : Mach B base w v st) (ha : After R s F w w4) (hg : ∀ g, v.ownBlock = some g → ¬ F g) (hB : ∀ k, B k → ¬ F k) : Mach B base w4 v st := by
  obtain ⟨F4, hr4, hk4, hn4⟩ := ha
  exact h.keep hk4 hg hB
theorem alloc_law (w : World) (o : Obj) : (w.alloc o).drew.heap[w.heap.size]? = some o := by
  have key : ∀ (a : Array Obj) (o : Obj), (a.push o)[a.size]? = some o := by intro a o; simp
  exact key _ _
theorem own_drew {w : World} {base : Nat} {t : TypeId} {size n : Nat} {v : Value} {xs : List Value} (h : w.ownsRow base t size v n xs) : w.drew.ownsRow base t size v n xs := h
theorem keeps_drew {S : Nat → Prop} {w w' : World} (h : Keeps S w w') : Keeps S w w'.drew := ⟨h.os, h.tape, h.output, h.size, h.block⟩
theorem after_drew {R : σ → (Nat → Prop) → World → Prop} {s : σ} {F : Nat → Prop} {w w' : World} (h : After R s F w.drew w') : After R s F w w' := by
  obtain ⟨F', hr, hk, hn⟩ := h
  exact ⟨F', hr, ⟨hk.os, hk.tape, hk.output, hk.size, hk.block⟩, hn⟩
variable {ent sel lv stop cnt M}
theorem start_at {B : Nat → Prop} {R : σ → (Nat → Prop) → World → Prop} {s1 : σ} {F : Nat → Prop} {W w4 w5 : World} {fe fl : FuncId} {ce cl : Array Value} {b o n g : Nat} {d : Dt} {ks : Fo} {nv kv v4 : Value} (hB : ∀ k, B k → k < W.heap.size) (hF : ∀ k, F k → ¬ B k) (hV : Visit ent sel lv stop cnt M fe fl ce cl R) (hx : ExAt B W b o d ks nv kv)
    (hsl : KidSl B w4 v4 ks n) (ha : ∃ F', R s1 F' w4 ∧ Keeps F W w4 ∧ (∀ k, F' k → F k ∨ W.heap.size ≤ k) ∧ ¬ F' g) (hg : W.heap.size ≤ g) (k5 : Keeps (fun k => k = g) w4 w5)
    (hz : w5.heap[g]? = some (.cells ((zeros.setIfInBounds 0 (.pointer (some ⟨b, o, none⟩))).setIfInBounds 1 v4) 94 (0, 0))) :
    StartAt B W R F s1 (.pointer (some ⟨b, o, none⟩)) d ks n (.slice (some ⟨g, 0, none⟩) 1 16) w5 := by
  obtain ⟨F', hr, k4, hn, hFz⟩ := ha
  have hown : w5.ownsRow W.heap.size 94 2 (.slice (some ⟨g, 0, none⟩) 1 16) 1 [.pointer (some ⟨b, o, none⟩), v4] := ⟨rfl, .inr ⟨g, 16, _, rfl, hg, hz, by decide, by decide, rfl, rfl⟩⟩
  have hlt4 := hV.lt _ _ _ hr
  have kp4 : ∀ b o v, B b → W.cell? ⟨b, o, none⟩ = some v → w4.cell? ⟨b, o, none⟩ = some v := fun b o v hb hc => k4.cell hc (fun hf => hF b hf hb)
  have kp5 : ∀ b o v, B b → w4.cell? ⟨b, o, none⟩ = some v → w5.cell? ⟨b, o, none⟩ = some v := fun b o v hb hc => k5.cell hc (fun e => by have := hB _ hb; omega)
  refine ⟨g, 16, v4, F', rfl, hg, ⟨by simpa [lc] using hown, ?_⟩, hV.keep _ _ _ _ _ hr k5 (fun k hk hf => by cases hk; exact hFz hf), ?_, hn, hFz, ?_⟩
  · intro L hL
    simp only [List.mem_singleton] at hL
    subst hL
    exact ⟨hsl.keep kp5, b, o, ks, nv, kv, rfl, (hx.keepB kp4).keepB kp5⟩
  · refine ⟨k5.os.trans k4.os, k5.tape.trans k4.tape, k5.output.trans k4.output, Nat.le_trans k4.size k5.size, fun j hj hF' => ?_⟩
    rw [k5.block j (by have := k4.size; omega) (fun e => by omega), k4.block j hj hF']
  · intro k hk; have := hB k hk; have := k4.size; have := k5.size; omega
/-- The call came behind the making of the stack, and ahead of it. -/
theorem after_made {R : σ → (Nat → Prop) → World → Prop} {s s1 : σ} {F : Nat → Prop} {W w4 : World} {fe fl : FuncId} {ce cl : Array Value} (hV : Visit ent sel lv stop cnt M fe fl ce cl R) (hR : R s F W) (ha : After R s1 F (W.alloc (.cells zeros 94)) w4) : ∃ F', R s1 F' w4 ∧ Keeps F W w4 ∧ (∀ k, F' k → F k ∨ W.heap.size ≤ k) ∧ ¬ F' W.heap.size := by
  obtain ⟨F', hr, hk, hn⟩ := ha
  have hlt := hV.lt _ _ _ hR
  rw [show (W.alloc (.cells zeros 94)).heap.size = W.heap.size + 1 by simp] at hn
  refine ⟨F', hr, ((Keeps.refl F W).alloc _).trans hk, fun k h => (hn k h).imp id (fun h => by omega), fun h => ?_⟩
  rcases hn _ h with h | h
  · have := hlt _ h; omega
  · omega
theorem after_new {R : σ → (Nat → Prop) → World → Prop} {s1 : σ} {F : Nat → Prop} {W w4 : World} {fe fl : FuncId} {ce cl : Array Value} (hV : Visit ent sel lv stop cnt M fe fl ce cl R) (ha : After R s1 F W w4) (g : Nat) (hg : w4.heap.size ≤ g) : ∃ F', R s1 F' w4 ∧ Keeps F W w4 ∧ (∀ k, F' k → F k ∨ W.heap.size ≤ k) ∧ ¬ F' g := by
  obtain ⟨F', hr, hk, hn⟩ := ha
  exact ⟨F', hr, hk, hn, fun h => by have := hV.lt _ _ _ hr _ h; omega⟩
variable (ent sel lv stop cnt M)
set_option maxRecDepth 100000 in
set_option maxHeartbeats 4000000 in
theorem walk_any (fe fl : FuncId) (ce cl : Array Value) (R : σ → (Nat → Prop) → World → Prop) (hV : Visit ent sel lv stop cnt M fe fl ce cl R)
    (hfe : ∀ (args : Array Value) (w : World), (callFunc fe args).run Try.prog w = .ok (.enter fe args) w) (hfl : ∀ (args : Array Value) (w : World), (callFunc fl args).run Try.prog w = .ok (.enter fl args) w)
    (B : Nat → Prop) (W : World) (hB : ∀ k, B k → k < W.heap.size) (s : σ) (F : Nat → Prop) (hR : R s F W) (hF : ∀ k, F k → ¬ B k) (d : Dt) (ks : Fo) (nv kv : Value) (b o : Nat) (hx : ExAt B W b o d ks nv kv) (hst : stop s = false) (hsz : ks.size ≤ 1000000) (hcn : cnt s + (3 + 2 * ks.size) ≤ M) :
    Calls Try.prog 47 #[.pointer (some ⟨b, o, none⟩), .func (Fn.func fe) #[] ce, .func (Fn.func fl) #[] cl] W
      (LeaveOut R (wk ent sel lv stop (.cons d ks .nil) 1 s) F W) := by
  have HV := Lib.hid hV
  have HX := Lib.hid hx
  have HR := Lib.hid hR
  have HB := Lib.hid hB
  have HF := Lib.hid hF
  clear hV hx hR hB hF
  have hmk : ∀ w, (Instr.makeSlice 92 (.int .i64 0) (.int .i64 16)).run Try.prog w = .ok (.slice (some ⟨w.heap.size, 0, none⟩) 0 16) (w.alloc (.cells zeros 94)) := make_levels
  have hz0 : zeros[0]? = some (.pointer none) := rfl
  have hz1 : zeros[1]? = some (.slice none 0 0) := rfl
  have hzs : zeros.size = 32 := rfl
  have HE := Lib.hid (show ∀ w', Keeps (fun _ => False) W w' → Calls Try.prog fe (#[.pointer (some ⟨b, o, none⟩)] ++ ce) w' (EnterOut B R (ent s d) F ks (sel (ent s d) d ks) w') from fun w' hw' =>
    HV.out.enter B s F w' b o d ks nv kv hst (by omega) (HV.out.keep _ _ _ _ _ HR.out hw' (fun _ h => h.elim)) HF.out (HX.out.keep hw' (fun _ _ h => h)))
  go_enter Try.func47, Try.ntmps47
  go_upto_region 0 with (fail)
  go_cut [6] (fun v w => StartAt B W R F (ent s d) (.pointer (some ⟨b, o, none⟩)) d ks (sel (ent s d) d ks) v w)
  case first =>
    obtain ⟨i0, hi0, hz0', hz1', hz2'⟩ := info_parts infoLev
    go_region_held3 (fun w' => True) (trivial)
      ((first
        | (refine (HE.out _ (keeps_drew ((Keeps.refl _ W).alloc _))).mono ?_; rintro e w4 ⟨v4, rfl, hsl, ha⟩; obtain ⟨ao, c4, hv4⟩ := hsl.form; subst hv4; replace ha := after_drew ha; have HO := start_own HR.out HV.out ha; have HB0 := Lib.hid HO.1; have HA := Lib.hid (after_made HV.out HR.out ha); have HSL := Lib.hid hsl; obtain ⟨x0, x1, xf0, xf1⟩ := start_cells2 HO.1; have hz4 := HO.2; have hmade := hz4; clear ha hsl HO)
        | (refine (HE.out _ (keeps_drew (Keeps.refl _ W))).mono ?_; rintro e w4 ⟨v4, rfl, hsl, ha⟩; obtain ⟨ao, c4, hv4⟩ := hsl.form; subst hv4; replace ha := after_drew ha; have HA := Lib.hid (after_new HV.out ha); have HSL := Lib.hid hsl; clear ha hsl)))
    all_goals (go_wp2; go_meet)
    case rel => exact start_at HB.out HF.out HV.out HX.out HSL.out HA.out (Nat.le_refl _) ((((Keeps.refl (fun k => k = W.heap.size) w4).alloc _).setCell (p := ⟨W.heap.size, 0, none⟩) (by exact rfl) _).setCell (p := ⟨W.heap.size, 1, none⟩) (by exact rfl) _) (start_row _ HB0.out)
    case rel => exact start_at HB.out HF.out HV.out HX.out HSL.out (HA.out _ (Nat.le_refl _)) (by obtain ⟨_, _, hk, _⟩ := HA.out _ (Nat.le_refl _); exact hk.size) (((Keeps.refl (fun k => k = w4.heap.size) w4).alloc _).alloc _) (blk_first w4 _ _)
    case rel => exact start_at HB.out HF.out HV.out HX.out HSL.out (HA.out _ (Nat.le_add_right _ 1)) (by obtain ⟨_, _, hk, _⟩ := HA.out _ (Nat.le_refl _); have := hk.size; omega) (((Keeps.refl (fun k => k = w4.heap.size + 1) w4).alloc _).alloc _) (blk_second w4 _ _)
  case rest =>
    clear hmk hz0 hz1 hzs
    obtain ⟨g0, cap0, v40, F0, rfl, hg0, hM, hr0, hk0, hn0, hfg, hB0⟩ := hcut.at_
    have hst0 : WalkAt ent sel lv stop cnt M B W R F (wk ent sel lv stop (.cons d ks .nil) 1 s) (3 + 2 * ks.size) (.slice (some ⟨g0, 0, none⟩) 1 cap0) wc [⟨.pointer (some ⟨b, o, none⟩), v40, sel (ent s d) d ks, ks, d⟩] (ent s d) F0 := by
      refine ⟨hM, ?_, ?_, ?_, HV.out.es _ _ hst, fin_root ent sel lv stop _ _ d ks s, hr0, ?_, ?_, hk0, hn0, hB0⟩
      · simp only [Tx.todo]; omega
      · simp only [Tx.todo]; omega
      · have := HV.out.ci s d; simp only [Tx.todo]; omega
      · intro j hj hp
        rcases hn0 j hj with h | h
        · exact HF.out j h hp
        · have := HB.out j hp; omega
      · intro g hg
        simp only [Value.ownBlock, Option.some.injEq] at hg
        subst hg
        exact ⟨hfg, fun hp => by have := HB.out _ hp; omega⟩
    clear hM hr0 hk0 hn0 hfg hB0 HE hcut
    go_wp2
    go_loopg [6] (3 + 2 * ks.size) (fun k v wr => ∃ st s' F', WalkAt ent sel lv stop cnt M B W R F (wk ent sel lv stop (.cons d ks .nil) 1 s) k v wr st s' F')
    case atStart => exact ⟨_, _, _, hst0⟩
    case round =>
      clear hst0
      obtain ⟨st, s', F', hw⟩ := hrel
      cases st with
      | nil =>
        obtain ⟨ao, c0, rfl⟩ := nil_form hw.mach.own
        have HW := Lib.hid hw
        clear hw
        go_wp2
        go_end0
        exact HW.out.done HV.out
      | cons T st' =>
        obtain ⟨g, cap, rfl, hcap, hmax, hgb, hgl, c0, c1, hfz⟩ := hw.mach.top
        have hTl := hw.mach.lev T (by simp)
        have hbd := hw.bd
        have hln := todo_len (T :: st')
        obtain ⟨a, tv, n, f, dt⟩ := T
        obtain ⟨N, hN⟩ : ∃ N, st'.length = N := ⟨_, rfl⟩
        have HNN := Lib.hid hN
        rw [List.length_cons, hN] at hln
        rw [hN] at c0 c1 hcap ⊢
        have HW := Lib.hid hw
        have hNb : N ≤ 2000003 := by omega
        unfold maxLen at hmax
        clear hw hN
        have f1 := hfz (N * 2 + 1)
        clear hfz
        cases n with
        | zero =>
          obtain ⟨b2, o2, ks2, nv2, kv2, rfl, hx2⟩ := hTl.ex
          obtain ⟨ao, tc, htv⟩ := hTl.sl.form
          replace htv : tv = .slice ao 0 tc := htv
          subst htv
          have HX2 := Lib.hid hx2
          clear hx2 hTl hbd hln
          have HLV := Lib.hid (show ∀ w', Keeps (fun _ => False) wr w' → Calls Try.prog fl (#[.pointer (some ⟨b2, o2, none⟩)] ++ cl) w' (LeftOut (!stop (lv s' dt)) R (lv s' dt) F' w') from fun w' hw' =>
            HV.out.leave B s' F' w' b2 o2 dt ks2 nv2 kv2 HW.out.go (by have := HW.out.cn; omega) (HV.out.keep _ _ _ _ _ HW.out.r hw' (fun _ h => h.elim)) HW.out.dis (HX2.out.keep hw' (fun _ _ h => h)))
          go_wp2_with fail
          refine (HLV.out _ (Keeps.refl _ _)).mono ?_
          rintro e w6 ⟨rfl, ha⟩
          clear HLV f1 c0 c1
          cases hs : stop (lv s' dt)
          · have HP := Lib.hid (HW.out.pop HV.out rfl hs hgb (Keeps.refl _ _) ha 0)
            clear ha
            rw [Bool.not_false]
            go_wp2
            obtain ⟨F6, hp⟩ := HP.out
            rw [HNN.out] at hp
            go_roundg (Tx.todo st')
            case measure =>
              have h2 := HW.out.left
              simp only [Tx.todo] at h2
              omega
            case rel => exact ⟨_, _, F6, hp⟩
          · have HP := Lib.hid (HW.out.broke HV.out rfl hs (Keeps.refl _ _) ha)
            clear ha
            rw [Bool.not_true]
            go_wp2
            go_end0
            exact HP.out
        | succ n =>
          obtain ⟨d1, ks1, r, b1, o1, kc, nv1, kv1, rfl, rfl, hn1, hn2, hx1, hsl1⟩ := hTl.sl.uncons
          have HX1 := Lib.hid hx1
          have HS1 := Lib.hid hsl1
          unfold maxLen at hn2
          clear hx1 hsl1 hTl hbd hln
          have hkc : (kc = 1 ∧ n = 0) ∨ (kc ≠ 1 ∧ 1 < kc) := by omega
          obtain ⟨i0, hi0, hz0', hz1', hz2'⟩ := info_parts infoLev
          rcases hkc with ⟨rfl, rfl⟩ | ⟨hkc, hkc2⟩
          · go_wp2
            generalize hv : Value.slice (some ⟨b1, o1, none⟩) 0 0 = v'
            have hs' : KidSl B wr v' r 0 := by rw [← hv]; exact .inl ⟨⟨_, _, rfl⟩, rfl⟩
            clear hv HS1
            generalize hWc : wr.setCell ⟨g, N * 2 + 1, none⟩ v' = Wc
            obtain ⟨m1, m2, m3, m4, m5⟩ := HW.out.mid HV.out 0 hs' HX1.out hgb Wc (by rw [HNN.out]; exact hWc)
            have M1 := Lib.hid m1
            have M45 := Lib.hid (And.intro m4 m5)
            have MX := Lib.hid m3
            clear hWc m1 m4 m5 f1 c0 c1 hs'
            refine (HV.out.enter B s' F' Wc b1 o1 d1 ks1 nv1 kv1 HW.out.go (by have := HW.out.cn; omega) m2 HW.out.dis m3).mono ?_
            rintro e w4 ⟨v4, rfl, hsl, ha⟩
            clear m2 m3
            have HA := Lib.hid ha
            have HSL := Lib.hid hsl
            obtain ⟨ao, c4, hv4⟩ := hsl.form
            have hmach4 := M1.out.after ha (fun g' e => by simp only [Value.ownBlock, Option.some.injEq] at e; subst e; exact (HW.out.own g rfl).1) (fun j hj hf => HW.out.dis j hf hj)
            have hz4 : W.heap.size ≤ w4.heap.size := by
              obtain ⟨F4, hr4, hk4, hn4⟩ := ha
              exact Nat.le_trans M45.out.1.size hk4.size
            have HM4 := Lib.hid hmach4.own
            clear ha hsl hmach4
            rw [hv4] at HSL ⊢
            clear hv4
            go_wp2_with (at_builtin; refine wpList_append_lies _ rfl (.tmp 44) (.tmp 50) 92 rfl W.heap.size 94 i0 _ 2 32 Try.underlying92 hi0 hz0' hz1' hz2' rfl (by decide) (.slice (some ⟨g, 0, none⟩) (N + 1) cap) (N + 1) _ rfl (by have := HM4.out.alloc; rw [List.length_cons, HNN.out] at this; exact this _) ⟨w4.heap.size, 0, none⟩ 1 1 [.pointer (some ⟨b1, o1, none⟩), .slice ao (sel (ent s' d1) d1 ks1) c4] rfl rfl ?_ ?_ (by omega) ?_ ?_ ?_ _ rfl ?_; rotate_left 5; intro g2 cap2 w5 hown hgrow hat hlt2; have HP := Lib.hid (HW.out.push HV.out rfl hgb M1.out M45.out.1 M45.out.2 MX.out HSL.out HA.out (by rw [HNN.out]; exact hown) hgrow (by simpa [Value.ownBlock] using hat)); clear hown hgrow hat)
            · obtain ⟨F5, hp⟩ := HP.out
              rw [HNN.out] at hp
              go_roundg (1 + 2 * ks1.size + (1 + 2 * r.size + Tx.todo st'))
              case measure =>
                have h2 := HW.out.left
                simp only [Tx.todo, Fo.size] at h2
                omega
              case rel => exact ⟨_, _, F5, hp⟩
            · intro jj u hj
              rcases jj with _ | _ | jj <;> simp at hj <;> subst hj <;> simp [Addr.add, go_sem]
            · intro u hu
              simp at hu
              rcases hu with rfl | rfl <;> rfl
            · unfold maxLen; omega
            · omega
            · simp; omega
          · go_wp2
            generalize hv : Value.slice (some ⟨b1, o1 + 8, none⟩) n (kc - 1) = v'
            have hs' : KidSl B wr v' r n := by rw [← hv]; exact HS1.out (kc - 1) (by omega) (by unfold maxLen; omega)
            clear hv HS1
            generalize hWc : wr.setCell ⟨g, N * 2 + 1, none⟩ v' = Wc
            obtain ⟨m1, m2, m3, m4, m5⟩ := HW.out.mid HV.out 0 hs' HX1.out hgb Wc (by rw [HNN.out]; exact hWc)
            have M1 := Lib.hid m1
            have M45 := Lib.hid (And.intro m4 m5)
            have MX := Lib.hid m3
            clear hWc m1 m4 m5 f1 c0 c1 hs'
            refine (HV.out.enter B s' F' Wc b1 o1 d1 ks1 nv1 kv1 HW.out.go (by have := HW.out.cn; omega) m2 HW.out.dis m3).mono ?_
            rintro e w4 ⟨v4, rfl, hsl, ha⟩
            clear m2 m3
            have HA := Lib.hid ha
            have HSL := Lib.hid hsl
            obtain ⟨ao, c4, hv4⟩ := hsl.form
            have hmach4 := M1.out.after ha (fun g' e => by simp only [Value.ownBlock, Option.some.injEq] at e; subst e; exact (HW.out.own g rfl).1) (fun j hj hf => HW.out.dis j hf hj)
            have hz4 : W.heap.size ≤ w4.heap.size := by
              obtain ⟨F4, hr4, hk4, hn4⟩ := ha
              exact Nat.le_trans M45.out.1.size hk4.size
            have HM4 := Lib.hid hmach4.own
            clear ha hsl hmach4
            rw [hv4] at HSL ⊢
            clear hv4
            go_wp2_with (at_builtin; refine wpList_append_lies _ rfl (.tmp 44) (.tmp 50) 92 rfl W.heap.size 94 i0 _ 2 32 Try.underlying92 hi0 hz0' hz1' hz2' rfl (by decide) (.slice (some ⟨g, 0, none⟩) (N + 1) cap) (N + 1) _ rfl (by have := HM4.out.alloc; rw [List.length_cons, HNN.out] at this; exact this _) ⟨w4.heap.size, 0, none⟩ 1 1 [.pointer (some ⟨b1, o1, none⟩), .slice ao (sel (ent s' d1) d1 ks1) c4] rfl rfl ?_ ?_ (by omega) ?_ ?_ ?_ _ rfl ?_; rotate_left 5; intro g2 cap2 w5 hown hgrow hat hlt2; have HP := Lib.hid (HW.out.push HV.out rfl hgb M1.out M45.out.1 M45.out.2 MX.out HSL.out HA.out (by rw [HNN.out]; exact hown) hgrow (by simpa [Value.ownBlock] using hat)); clear hown hgrow hat)
            · obtain ⟨F5, hp⟩ := HP.out
              rw [HNN.out] at hp
              go_roundg (1 + 2 * ks1.size + (1 + 2 * r.size + Tx.todo st'))
              case measure =>
                have h2 := HW.out.left
                simp only [Tx.todo, Fo.size] at h2
                omega
              case rel => exact ⟨_, _, F5, hp⟩
            · intro jj u hj
              rcases jj with _ | _ | jj <;> simp at hj <;> subst hj <;> simp [Addr.add, go_sem]
            · intro u hu
              simp at hu
              rcases hu with rfl | rfl <;> rfl
            · unfold maxLen; omega
            · omega
            · simp; omega
end
end Tx
end Go.Proofs.Ytggoejghnlgigaa
