/- First, over errors of one At each. -/
import Derived.Test.YtlmfjaaooklhnaaDoorFCmp
import Derived.Deep.LoopGhost
namespace Go.Proofs.YtlmfjaaooklhnaaDoor
open Go.ChangeShapes Go.WideShapes Go.ChangeAt Go.RowKit Go.Extern.Stop Go.Stop Go.Extern
namespace Fk
set_option linter.unusedVariables false
set_option linter.unusedSimpArgs false
/-- No error, or an At: its block, line, column, kind. -/
abbrev El := Option (Nat × Int × Int × Int)
def ev : El → Value
  | none => .nilIface
  | some (b, _) => .iface 39 (.pointer (some ⟨b, 0, none⟩))
def ElOk (w : World) : El → Prop
  | none => True
  | some (b, l, c, k) => Chain w (some k) [(l, c, false)] (.iface 39 (.pointer (some ⟨b, 0, none⟩)))
def step (f x : El) : El :=
  match x, f with
  | none, f => f
  | some e, none => some e
  | some e, some f => if ltP e.2.1 e.2.2.1 f.2.1 f.2.2.1 < 0 then some e else some f
def pick (xs : List El) : El := xs.foldl step none
theorem pick_take {xs : List El} {k : Nat} {x : El} (h : xs[k]? = some x) : pick (xs.take (k + 1)) = step (pick (xs.take k)) x := by
  unfold pick
  rw [List.take_add_one, h, List.foldl_append]
  rfl
theorem ltP_neg (l c l' c' : Int) : ltP l c l' c' < 0 ↔ (l < l' ∨ l = l' ∧ c < c') := by
  have h1 : cmpI l l' = -1 ∧ l < l' ∨ cmpI l l' = 0 ∧ l = l' ∨ cmpI l l' = 1 ∧ l' < l := by unfold cmpI; split <;> (try split) <;> omega
  have h2 : cmpI c c' = -1 ∧ c < c' ∨ cmpI c c' = 0 ∧ c = c' ∨ cmpI c c' = 1 ∧ c' < c := by unfold cmpI; split <;> (try split) <;> omega
  unfold ltP orI
  split <;> omega
/-- How far First is. -/
def FirstAt (W : World) (xs : List El) (k : Nat) (fv : Value) (w : World) : Prop :=
  fv = ev (pick (xs.take k)) ∧ Below W.heap.size W w ∧ ∃ l c, w.cell? ⟨W.heap.size, 0, none⟩ = some (.int .i64 l) ∧ w.cell? ⟨W.heap.size, 1, none⟩ = some (.int .i64 c) ∧ w.frozen? ⟨W.heap.size, 0, none⟩ = false ∧ w.frozen? ⟨W.heap.size, 1, none⟩ = false ∧ ∀ e, pick (xs.take k) = some e → l = e.2.1 ∧ c = e.2.2.1
set_option maxRecDepth 100000 in
set_option maxHeartbeats 4000000 in
theorem first_any (W : World) (xs : List El) (b o cap : Nat) (hl : xs.length ≤ 100) (hc : ∀ (i : Nat) (x : El), xs[i]? = some x → W.cell? ⟨b, o + i, none⟩ = some (ev x)) (hx : ∀ (i : Nat) (x : El), xs[i]? = some x → ElOk W x) (hb : b < W.heap.size) :
    Calls Tryd.prog 7 #[.slice (some ⟨b, o, none⟩) xs.length cap] W fun e w' => e = .returned (ev (pick xs)) ∧ Below W.heap.size W w' := by
  have HC := Lib.hid hc
  have HX := Lib.hid hx
  clear hc hx
  go_enter Tryd.func7, Tryd.ntmps7
  go_wp2
  go_loopw [3, 10] (fun fv iv wr => ∃ k : Nat, k ≤ xs.length ∧ iv = .int .i64 k ∧ FirstAt W xs k fv wr) (fun _ iv _ => xs.length - (intOf iv).toNat)
  case atStart => exact ⟨0, by omega, rfl, by rfl, (Below.refl _ _).alloc (Nat.le_refl _) _, 0, 0, by simp [go_sem], by simp [go_sem], by simp [go_sem], by simp [go_sem], fun e h => by simp [pick] at h⟩
  case round =>
    obtain ⟨k, hk, rfl, rfl, hbl, l, c, c0, c1, f0, f1, he⟩ := hrel
    have HE := Lib.hid he
    clear he
    by_cases hlt : k < xs.length
    · have hxk : xs[k]? = some xs[k] := List.getElem?_eq_getElem hlt
      have hp := pick_take hxk
      have hq := (hbl.cell (p := ⟨b, o + k, none⟩) hb).trans (HC.out k _ hxk)
      have hok := HX.out k _ hxk
      have HP := Lib.hid hp
      clear hp
      rcases hxe : xs[k] with _ | ⟨eb, el, ec, ek⟩
      · rw [hxe] at hq
        simp only [ev] at hq
        go_wp2
        have e : pick (xs.take (k + 1)) = pick (xs.take k) := by rw [HP.out, hxe]; cases pick (xs.take k) <;> rfl
        refine ⟨⟨k + 1, by omega, by go_num, by rw [e], hbl, l, c, c0, c1, f0, f1, by rw [e]; exact HE.out⟩, by simp [intOf]; omega⟩
      · rw [hxe] at hq hok
        simp only [ev] at hq
        have hz : W.heap.size < wr.heap.size := World.block_lt_of_cell? _ _ c0
        have HK := Lib.hid (chain_keep hbl hok)
        rcases hf : pick (xs.take k) with _ | ⟨fb, fl, fc, fk⟩
        · have ep : pick (xs.take (k + 1)) = some (eb, el, ec, ek) := by rw [HP.out, hxe, hf]; rfl
          clear hf
          simp only [ev]
          go_wp2_with (go_at_call 9; refine (where_is (k := some ek) (l := [(el, ec, false)]) el ec (by exact HK.out) (by simp) rfl).mono ?_; rintro e w1 ⟨rfl, hb1⟩; have p0 := (hb1.cell (p := ⟨W.heap.size, 0, none⟩) hz).trans c0; have p1 := (hb1.cell (p := ⟨W.heap.size, 1, none⟩) hz).trans c1; have g0 := (hb1.frozen (p := ⟨W.heap.size, 0, none⟩) hz).trans f0; have g1 := (hb1.frozen (p := ⟨W.heap.size, 1, none⟩) hz).trans f1; have hz1 : W.heap.size < w1.heap.size := Nat.lt_of_lt_of_le hz hb1.size; have hbl1 := hbl.trans (hb1.mono hbl.size); clear hb1)
          go_region
          go_wp2
          refine ⟨⟨k + 1, by omega, by go_num, by rw [ep]; rfl, ?_, el, ec, ?_, ?_, ?_, ?_, fun e h => by rw [ep] at h; cases h; exact ⟨rfl, rfl⟩⟩, by simp [intOf]; omega⟩
          · exact (((hbl1.setCell (p := ⟨W.heap.size, 0, none⟩) (Nat.le_refl _) _).setCell (p := ⟨W.heap.size, 1, none⟩) (Nat.le_refl _) _).alloc (by simp; omega) _).drew
          · simp [go_sem, p0, p1, g0, g1, hz1]
          · simp [go_sem, p0, p1, g0, g1, hz1]
          · simp [go_sem, p0, p1, g0, g1, hz1]
          · simp [go_sem, p0, p1, g0, g1, hz1]
        · have hle := HE.out _ hf
          simp only at hle
          obtain ⟨rfl, rfl⟩ := hle
          have HF := Lib.hid hf
          clear hf
          simp only [ev]
          by_cases hlp : ltP el ec l c < 0
          · have ep : pick (xs.take (k + 1)) = some (eb, el, ec, ek) := by rw [HP.out, hxe, HF.out]; simp only [step]; rw [if_pos hlp]
            go_wp2_with (first
              | (go_at_call 9; refine (where_is (k := some ek) (l := [(el, ec, false)]) el ec (by exact HK.out) (by simp) rfl).mono ?_; rintro e w1 ⟨rfl, hb1⟩; have p0 := (hb1.cell (p := ⟨W.heap.size, 0, none⟩) hz).trans c0; have p1 := (hb1.cell (p := ⟨W.heap.size, 1, none⟩) hz).trans c1; have g0 := (hb1.frozen (p := ⟨W.heap.size, 0, none⟩) hz).trans f0; have g1 := (hb1.frozen (p := ⟨W.heap.size, 1, none⟩) hz).trans f1; have hz1 : W.heap.size < w1.heap.size := Nat.lt_of_lt_of_le hz hb1.size; have hbl1 := hbl.trans (hb1.mono hbl.size); clear hb1)
              | (go_at_call 12; refine (compare_any _ _ _ _ _).mono ?_; rintro e w2 ⟨rfl, hb2⟩; have hbl2 : Below W.heap.size W w2 := (hbl1.alloc (Nat.le_of_lt hz1) _).trans (hb2.mono (by simp; omega)); have s0 : w2.cell? ⟨w1.heap.size, 0, none⟩ = some (.int .i64 el) := (hb2.cell (p := ⟨w1.heap.size, 0, none⟩) (by simp)).trans (by simp [go_sem]); have s1 : w2.cell? ⟨w1.heap.size, 1, none⟩ = some (.int .i64 ec) := (hb2.cell (p := ⟨w1.heap.size, 1, none⟩) (by simp)).trans (by simp [go_sem]); have r0 : w2.cell? ⟨W.heap.size, 0, none⟩ = some (.int .i64 l) := (hb2.cell (p := ⟨W.heap.size, 0, none⟩) (by simp; omega)).trans (by simp [go_sem, p0, hz1]); have r1 : w2.cell? ⟨W.heap.size, 1, none⟩ = some (.int .i64 c) := (hb2.cell (p := ⟨W.heap.size, 1, none⟩) (by simp; omega)).trans (by simp [go_sem, p1, hz1]); have t0 : w2.frozen? ⟨W.heap.size, 0, none⟩ = false := (hb2.frozen (p := ⟨W.heap.size, 0, none⟩) (by simp; omega)).trans (by simp [go_sem, g0, hz1]); have t1 : w2.frozen? ⟨W.heap.size, 1, none⟩ = false := (hb2.frozen (p := ⟨W.heap.size, 1, none⟩) (by simp; omega)).trans (by simp [go_sem, g1, hz1]); have hz2 : W.heap.size < w2.heap.size := World.block_lt_of_cell? _ _ r0))
            go_region
            go_wp2
            refine ⟨⟨k + 1, by omega, by go_num, by rw [ep]; rfl, ?_, el, ec, ?_, ?_, ?_, ?_, fun e h => by rw [ep] at h; cases h; exact ⟨rfl, rfl⟩⟩, by simp [intOf]; omega⟩
            · exact ((hbl2.setCell (p := ⟨W.heap.size, 0, none⟩) (Nat.le_refl _) _).setCell (p := ⟨W.heap.size, 1, none⟩) (Nat.le_refl _) _).drew
            · simp [go_sem, r0, r1, t0, t1, hz2]
            · simp [go_sem, r0, r1, t0, t1, hz2]
            · simp [go_sem, r0, r1, t0, t1, hz2]
            · simp [go_sem, r0, r1, t0, t1, hz2]
          · have ep : pick (xs.take (k + 1)) = some (fb, l, c, fk) := by rw [HP.out, hxe, HF.out]; simp only [step]; rw [if_neg hlp]
            go_wp2_with (first
              | (go_at_call 9; refine (where_is (k := some ek) (l := [(el, ec, false)]) el ec (by exact HK.out) (by simp) rfl).mono ?_; rintro e w1 ⟨rfl, hb1⟩; have p0 := (hb1.cell (p := ⟨W.heap.size, 0, none⟩) hz).trans c0; have p1 := (hb1.cell (p := ⟨W.heap.size, 1, none⟩) hz).trans c1; have g0 := (hb1.frozen (p := ⟨W.heap.size, 0, none⟩) hz).trans f0; have g1 := (hb1.frozen (p := ⟨W.heap.size, 1, none⟩) hz).trans f1; have hz1 : W.heap.size < w1.heap.size := Nat.lt_of_lt_of_le hz hb1.size; have hbl1 := hbl.trans (hb1.mono hbl.size); clear hb1)
              | (go_at_call 12; refine (compare_any _ _ _ _ _).mono ?_; rintro e w2 ⟨rfl, hb2⟩; have hbl2 : Below W.heap.size W w2 := (hbl1.alloc (Nat.le_of_lt hz1) _).trans (hb2.mono (by simp; omega)); have s0 : w2.cell? ⟨w1.heap.size, 0, none⟩ = some (.int .i64 el) := (hb2.cell (p := ⟨w1.heap.size, 0, none⟩) (by simp)).trans (by simp [go_sem]); have s1 : w2.cell? ⟨w1.heap.size, 1, none⟩ = some (.int .i64 ec) := (hb2.cell (p := ⟨w1.heap.size, 1, none⟩) (by simp)).trans (by simp [go_sem]); have r0 : w2.cell? ⟨W.heap.size, 0, none⟩ = some (.int .i64 l) := (hb2.cell (p := ⟨W.heap.size, 0, none⟩) (by simp; omega)).trans (by simp [go_sem, p0, hz1]); have r1 : w2.cell? ⟨W.heap.size, 1, none⟩ = some (.int .i64 c) := (hb2.cell (p := ⟨W.heap.size, 1, none⟩) (by simp; omega)).trans (by simp [go_sem, p1, hz1]); have t0 : w2.frozen? ⟨W.heap.size, 0, none⟩ = false := (hb2.frozen (p := ⟨W.heap.size, 0, none⟩) (by simp; omega)).trans (by simp [go_sem, g0, hz1]); have t1 : w2.frozen? ⟨W.heap.size, 1, none⟩ = false := (hb2.frozen (p := ⟨W.heap.size, 1, none⟩) (by simp; omega)).trans (by simp [go_sem, g1, hz1]); have hz2 : W.heap.size < w2.heap.size := World.block_lt_of_cell? _ _ r0))
            refine ⟨⟨k + 1, by omega, by go_num, by rw [ep]; rfl, hbl2, l, c, r0, r1, t0, t1, fun e h => by rw [ep] at h; cases h; exact ⟨rfl, rfl⟩⟩, by simp [intOf]; omega⟩
    · have e : xs.take k = xs := List.take_of_length_le (by omega)
      go_wp2
      go_ret
      exact ⟨by simp only [e]; rfl, hbl⟩
end Fk
end Go.Proofs.YtlmfjaaooklhnaaDoor
