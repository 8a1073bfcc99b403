/- A program of types alone: Check. -/
import Derived.Test.YtecfknbhnhcioaaGreatDoorNz
namespace Go.Proofs.YtecfknbhnhcioaaGreatDoor
open Go.ChangeShapes Go.WideShapes Go.ChangeAt Go.RowKit Go.Maps
namespace Tx
set_option linter.unusedVariables false
set_option linter.unusedSimpArgs false
theorem set_made (w : World) : SetAt w.heap.size [] (w.alloc (.map #[] 0)) := World.ownsMap_made w _ _ _
theorem sets3 (W : World) (o p : Obj) : SetAt (W.heap.size + 1) [] (((((W.alloc o).alloc (.map #[] 0)).alloc (.map #[] 0)).alloc (.map #[] 0)).alloc p) ∧ SetAt (W.heap.size + 1 + 1) [] (((((W.alloc o).alloc (.map #[] 0)).alloc (.map #[] 0)).alloc (.map #[] 0)).alloc p) := by
  have h1 := set_made (W.alloc o)
  have h2 := set_made ((W.alloc o).alloc (.map #[] 0))
  rw [show (W.alloc o).heap.size = W.heap.size + 1 by simp] at h1
  rw [show ((W.alloc o).alloc (.map #[] 0)).heap.size = W.heap.size + 1 + 1 by simp] at h2
  exact ⟨((World.ownsMap.alloc h1 _).alloc _).alloc _, (World.ownsMap.alloc h2 _).alloc _⟩
set_option maxRecDepth 100000 in
set_option maxHeartbeats 4000000 in
theorem check_enums (W : World) (v : Value) (ts : List En) (hr : EnRow (fun k => k < W.heap.size) W v ts) (h1 : ts.length ≤ 1000) (h2 : (ts.flatMap En.cs).length ≤ 1000) :
    Calls Tryz.prog 8 #[.agg #[v, .slice none 0 0]] W fun e w' => ∃ r, e = .returned r ∧ FaultOut 4 (posE (firstBad ts [] [])) r w' ∧ Below W.heap.size W w' := by
  have hmk := mkm_set
  obtain ⟨ao, ac, rfl⟩ := hr.form
  have HR := Lib.hid hr
  obtain ⟨N, hN⟩ : ∃ N, ts.length = N := ⟨_, rfl⟩
  have HN := Lib.hid hN
  rw [hN] at h1 ⊢
  clear hr hN
  go_enter Tryz.func8, Tryz.ntmps8
  go_wp2_with fail
  generalize hW2 : (((((W.alloc _).alloc _).alloc _).alloc _).alloc _) = W2
  have hb : Below W.heap.size W W2 := by rw [← hW2]; exact (((((Below.refl _ _).alloc (Nat.le_refl _) _).alloc (by simp) _).alloc (by simp; omega) _).alloc (by simp; omega) _).alloc (by simp; omega) _
  have hz : W2.heap.size = W.heap.size + 5 := by rw [← hW2]; simp
  have x00 : W2.cell? ⟨W.heap.size, 0, none⟩ = some (.slice ao N ac) := by rw [← hW2]; simp [go_sem]
  have x1 : W2.cell? ⟨W.heap.size, 1, none⟩ = some (.slice none 0 0) := by rw [← hW2]; simp [go_sem]
  have y0 : W2.cell? ⟨W.heap.size + 1 + 1 + 1 + 1, 0, none⟩ = some (.map (some (W.heap.size + 1))) := by rw [← hW2]; simp [go_sem]
  have y1 : W2.cell? ⟨W.heap.size + 1 + 1 + 1 + 1, 1, none⟩ = some (.map (some (W.heap.size + 1 + 1))) := by rw [← hW2]; simp [go_sem]
  have s1 : SetAt (W.heap.size + 1) [] W2 := by rw [← hW2]; exact sets3 W _ _ |>.1
  have s2 : SetAt (W.heap.size + 1 + 1) [] W2 := by rw [← hW2]; exact sets3 W _ _ |>.2
  clear hW2 hmk
  have hch : ChkAt (fun k => k < W.heap.size) W2 (W.heap.size + 1 + 1 + 1 + 1) (W.heap.size + 1) (W.heap.size + 1 + 1) [] [] W2 :=
    ⟨y0, y1, s1, s2, by omega, by omega, by omega, by omega, by omega, Keeps.refl _ _⟩
  have hr2 := HR.out.keep (w' := W2) (fun b o v hB hc => (hb.cell (p := ⟨b, o, none⟩) hB).trans hc)
  rw [HN.out] at hr2
  refine (enums_any _ W2 _ _ _ _ ts hr2 hch (by have := HN.out; omega) h2).mono ?_
  rintro e w3 ⟨r, rfl, hf, hk⟩
  have x30 := hk.cell x00 (by unfold Sets; omega)
  have x3 := hk.cell x1 (by unfold Sets; omega)
  have hb3 : Below W.heap.size W w3 := by
    refine ⟨hk.os.trans hb.os, hk.tape.trans hb.tape, hk.output.trans hb.output, Nat.le_trans hb.size hk.size, fun k hlt => ?_⟩
    rw [hk.block k (by omega) (by unfold Sets; omega), hb.block k hlt]
  have hz3 := hk.size
  have HB := Lib.hid hb3
  clear hr2 hch s1 s2 y0 y1 x1 x00 hk hb hb3
  cases ho : posE (firstBad ts [] []) with
  | some p =>
    have hf' : FaultOut 4 (some p) r w3 := by rw [← ho]; exact hf
    obtain ⟨line, col⟩ := p
    obtain ⟨b, rfl, he⟩ := hf'
    have HE := Lib.hid he
    have HO := Lib.hid ho
    clear hf ho he
    go_wp2
    go_ret
    refine ⟨_, rfl, ?_, HB.out⟩
    rw [HO.out]
    exact ⟨b, rfl, HE.out⟩
  | none =>
    have hf' : FaultOut 4 none r w3 := by rw [← ho]; exact hf
    obtain rfl : r = .nilIface := hf'
    have HO := Lib.hid ho
    clear hf ho
    go_wp2_with fail
    go_loopg [23] 0 (fun g v wr => v = .int .i64 0 ∧ w3 = wr)
    case atStart => exact ⟨rfl, rfl⟩
    case round =>
      obtain ⟨rfl, rfl⟩ := hrel
      go_wp2_with fail
      go_loopg [40] 0 (fun g v wr => v = .int .i64 0 ∧ w3 = wr)
      case atStart => exact ⟨rfl, rfl⟩
      case round =>
        obtain ⟨rfl, rfl⟩ := hrel
        go_wp2_with fail
        refine (calls_nil _ w3).mono ?_
        rintro e w4 ⟨⟨ao4, c4, rfl⟩, hb4⟩
        have HB4 := Lib.hid (HB.out.trans (hb4.mono HB.out.size))
        clear hb4 x3 x30
        go_wp2_with fail
        refine (looped_nil ao4 c4 w4).mono ?_
        rintro e w5 ⟨rfl, hb5⟩
        have HB5 := Lib.hid (HB4.out.trans (hb5.mono HB4.out.size))
        clear hb5
        go_wp2
        go_ret
        exact ⟨_, rfl, by rw [HO.out]; rfl, HB5.out⟩
end Tx
end Go.Proofs.YtecfknbhnhcioaaGreatDoor
