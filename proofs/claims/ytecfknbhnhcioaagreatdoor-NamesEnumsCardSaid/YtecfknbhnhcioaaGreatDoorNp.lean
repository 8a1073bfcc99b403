/- The reference's places of types. -/
import Derived.Test.YtecfknbhnhcioaaGreatDoorNk
import Derived.Deep.RegionLaw
namespace Go.Proofs.YtecfknbhnhcioaaGreatDoor
open Go.ChangeShapes Go.WideShapes Go.ChangeAt Go.RowKit Go.Maps
namespace Tx
set_option linter.unusedVariables false
set_option linter.unusedSimpArgs false
theorem infoEnum : (Tryz.prog.info? 32).map (fun i => (i.zero, i.size, i.bytes)) = some (some (Value.agg #[.string ⟨#[]⟩, .slice none 0 0, .int .i64 0, .int .i64 0]), 4, 56) := by kernel_rfl
set_option maxHeartbeats 1000000 in
theorem next_any (cb : Nat) (n : Int) (hn : 0 ≤ n ∧ n ≤ 1000) (w : World) (h : w.cell? ⟨cb, 0, none⟩ = some (.int .i64 n)) (hf : w.frozen? ⟨cb, 0, none⟩ = false) :
    Calls Tryz.prog 19 #[.pointer (some ⟨cb, 0, none⟩)] w fun e w' => e = .returned (.agg #[.int .i64 (n + 1), .int .i64 1]) ∧ w'.cell? ⟨cb, 0, none⟩ = some (.int .i64 (n + 1)) ∧ w'.frozen? ⟨cb, 0, none⟩ = false ∧ Keeps (fun k => k = cb) w w' := by
  have hlt : cb < w.heap.size := World.block_lt_of_cell? w ⟨cb, 0, none⟩ h
  have hw : IntKind.i64.wrap (n + 1) = n + 1 := IntWalk.i64_in _ (by omega)
  have hne : w.heap.size ≠ cb := by omega
  have hne2 : cb ≠ w.heap.size := by omega
  go_enter Tryz.func19, Tryz.ntmps19
  go_wp2_with fail
  have k0 : Keeps (fun k => k = cb) w (w.setCell ⟨cb, 0, none⟩ (.int .i64 (n + 1))) := (Keeps.refl (fun k => k = cb) w).setCell (p := ⟨cb, 0, none⟩) rfl _
  have c0 : (w.setCell ⟨cb, 0, none⟩ (.int .i64 (n + 1))).cell? ⟨cb, 0, none⟩ = some (.int .i64 (n + 1)) := by simp [go_sem, h]
  have f0 : (w.setCell ⟨cb, 0, none⟩ (.int .i64 (n + 1))).frozen? ⟨cb, 0, none⟩ = false := by simp [go_sem, hf]
  have ka : Keeps (fun _ => False) (w.setCell ⟨cb, 0, none⟩ (.int .i64 (n + 1))) ((w.setCell ⟨cb, 0, none⟩ (.int .i64 (n + 1))).alloc (.cells #[.int .i64 (n + 1), .int .i64 1] 30)) := (Keeps.refl _ _).alloc _
  exact bodyPost_ret (v := .agg #[.int .i64 (n + 1), .int .i64 1]) (by simp [results, Tryz.results19, go_sem]) rfl ⟨rfl, ka.cell c0 id, (World.frozen?_of_block (ka.block cb (World.block_lt_of_cell? _ ⟨cb, 0, none⟩ c0) id)).trans f0, k0.alloc _⟩
/-- The places of some types, one behind the other. -/
def place : List En → Nat → List En
  | [], _ => []
  | t :: r, k => { t with line := (k : Int) + 1, col := 1 } :: place r (k + 1)
theorem place_len : ∀ (ts : List En) (k : Nat), (place ts k).length = ts.length
  | [], _ => rfl
  | t :: r, k => by simp [place, place_len r (k + 1)]
theorem place_at : ∀ (ts : List En) (k i : Nat) (t : En), ts[i]? = some t → (place ts k)[i]? = some { t with line := ((k + i : Nat) : Int) + 1, col := 1 }
  | [], k, i, t, h => by simp at h
  | x :: r, k, 0, t, h => by
    obtain rfl : x = t := by simpa using h
    rfl
  | x :: r, k, i + 1, t, h => by
    have := place_at r (k + 1) i t (by simpa using h)
    rw [show k + 1 + i = k + (i + 1) by omega] at this
    simpa [place] using this
theorem place_cs : ∀ (ts : List En) (k : Nat), (place ts k).flatMap En.cs = ts.flatMap En.cs
  | [], _ => rfl
  | t :: r, k => by simp [place, place_cs r (k + 1)]
theorem flatV_len (ts : List En) : (ts.flatMap enumV).length = ts.length * 4 := by
  induction ts with
  | nil => rfl
  | cons t r ih => rw [List.flatMap_cons, List.length_append, ih]; simp [enumV]; omega
theorem flatV_at : ∀ (ts : List En) (i j : Nat) (t : En) (u : Value), ts[i]? = some t → (enumV t)[j]? = some u → (ts.flatMap enumV)[i * 4 + j]? = some u
  | [], i, j, t, u, h, _ => by simp at h
  | y :: r, 0, j, t, u, h, hu => by
    obtain rfl : y = t := by simpa using h
    rw [List.flatMap_cons, Nat.zero_mul, Nat.zero_add, List.getElem?_append_left (List.getElem?_eq_some_iff.1 hu).1]
    exact hu
  | y :: r, i + 1, j, t, u, h, hu => by
    have hl : (enumV y).length = 4 := rfl
    rw [List.flatMap_cons, List.getElem?_append_right (by omega), hl, show (i + 1) * 4 + j - 4 = i * 4 + j by omega]
    exact flatV_at r i j t u (by simpa using h) hu
/-- A row of the call's own is a row of types. -/
theorem row_of_own {B : Nat → Prop} {w : World} {base : Nat} {t : TypeId} {v : Value} {ts : List En} (h : w.ownsRow base t 4 v ts.length (ts.flatMap enumV)) (hB : ∀ g, base ≤ g → g < w.heap.size → B g) (hn : ∀ t ∈ ts, NamesIn B w t.v t.cs) : EnRow B w v ts := by
  rcases h.2 with ⟨hv, h0⟩ | ⟨g, cap, cur, hv, h1, h2, h3, h4, h5, h6⟩
  · exact .inl ⟨⟨none, 0, hv⟩, List.length_eq_zero_iff.1 h0⟩
  · refine .inr ⟨g, cap, hv, h3, h4, hB g h1 (Array.getElem?_eq_some_iff.1 h2).1, fun i x hi => ⟨fun j u hj => ?_, hn x (List.mem_of_getElem? hi)⟩⟩
    have hc := h.cells (g := g) (by rw [hv]; rfl) (i * 4 + j) u (flatV_at ts i j x u hi hj)
    have hadd : (⟨g, 0, none⟩ : Addr).add (i * 4 + j) = ⟨g, i * 4 + j, none⟩ := by unfold Addr.add; split <;> simp_all
    rw [hadd] at hc
    exact hc
theorem take_flatV {ts : List En} {i : Nat} {t : En} (h : ts[i]? = some t) : (ts.take (i + 1)).flatMap enumV = (ts.take i).flatMap enumV ++ enumV t := by
  obtain ⟨hi, rfl⟩ := List.getElem?_eq_some_iff.1 h
  rw [List.take_succ_eq_append_getElem hi, List.flatMap_append]
  simp
/-- A row of types that grows, in the first cell of a program. -/
structure ProgAt (W : World) (pb : Nat) (ts : List En) (i : Nat) (ev : Value) (w : World) : Prop where
  below : Below W.heap.size W w
  wp : W.heap.size ≤ pb
  c0 : w.cell? ⟨pb, 0, none⟩ = some ev
  c1 : w.cell? ⟨pb, 1, none⟩ = some (.slice none 0 0)
  f0 : w.frozen? ⟨pb, 0, none⟩ = false
  f1 : w.frozen? ⟨pb, 1, none⟩ = false
  own : w.ownsRow (pb + 1) 32 4 ev i ((ts.take i).flatMap enumV)
theorem ProgAt.keep {S : Nat → Prop} {W w w' : World} {pb i : Nat} {ts : List En} {ev : Value} (h : ProgAt W pb ts i ev w) (hk : Keeps S w w') (hS : ∀ k, S k → W.heap.size ≤ k ∧ k ≠ pb ∧ ev.ownBlock ≠ some k) : ProgAt W pb ts i ev w' := by
  have hpb : ¬ S pb := fun hs => (hS pb hs).2.1 rfl
  refine ⟨⟨hk.os.trans h.below.os, hk.tape.trans h.below.tape, hk.output.trans h.below.output, Nat.le_trans h.below.size hk.size, fun k hlt => ?_⟩, h.wp, hk.cell h.c0 hpb, hk.cell h.c1 hpb, (World.frozen?_of_block (hk.block pb (World.block_lt_of_cell? w ⟨pb, 0, none⟩ h.c0) hpb)).trans h.f0, (World.frozen?_of_block (hk.block pb (World.block_lt_of_cell? w ⟨pb, 0, none⟩ h.c0) hpb)).trans h.f1, own_keep h.own hk (fun g hg hs => (hS g hs).2.2 hg)⟩
  rw [hk.block k (Nat.lt_of_lt_of_le hlt h.below.size) (fun hs => by have := (hS k hs).1; omega), h.below.block k hlt]
theorem ProgAt.grown {W w w2 : World} {pb i : Nat} {ts : List En} {ev : Value} {ob : Obj} (h : ProgAt W pb ts i ev w) (hgrow : (w.alloc ob).grownBy w2 ev.ownBlock) : w2.cell? ⟨pb, 0, none⟩ = some ev ∧ w2.frozen? ⟨pb, 0, none⟩ = false := by
  have k2 : Keeps (fun k => ev.ownBlock = some k) w w2 := ((Keeps.refl _ w).alloc ob).trans (Keeps.grownB hgrow)
  have hp : ¬ ev.ownBlock = some pb := fun e => by have := (h.own.lt _ e).1; omega
  exact ⟨k2.cell h.c0 hp, (World.frozen?_of_block (k2.block _ (World.block_lt_of_cell? w _ h.c0) hp)).trans h.f0⟩
theorem ProgAt.push {W w w2 : World} {pb i g cap : Nat} {ts : List En} {ev : Value} {x : En} {ob : Obj} (h : ProgAt W pb ts i ev w) (hx : ts[i]? = some x)
    (hown : w2.ownsRow (pb + 1) 32 4 (.slice (some ⟨g, 0, none⟩) (i + 1) cap) (i + 1) ((ts.take i).flatMap enumV ++ enumV x)) (hgrow : (w.alloc ob).grownBy w2 ev.ownBlock) :
    ProgAt W pb ts (i + 1) (.slice (some ⟨g, 0, none⟩) (i + 1) cap) (w2.setCell ⟨pb, 0, none⟩ (.slice (some ⟨g, 0, none⟩) (i + 1) cap)) := by
  have k2 : Keeps (fun k => ev.ownBlock = some k) w w2 := ((Keeps.refl _ w).alloc ob).trans (Keeps.grownB hgrow)
  have hp : ¬ ev.ownBlock = some pb := fun e => by have := (h.own.lt _ e).1; omega
  have k3 : Keeps (fun k => k = pb) w2 (w2.setCell ⟨pb, 0, none⟩ (.slice (some ⟨g, 0, none⟩) (i + 1) cap)) := (Keeps.refl (fun k => k = pb) w2).setCell (p := ⟨pb, 0, none⟩) rfl _
  have d0 := (h.grown hgrow).1
  have e0 := (h.grown hgrow).2
  have d1 := k2.cell h.c1 hp
  have e1 := (World.frozen?_of_block (a := ⟨pb, 1, none⟩) (k2.block pb (World.block_lt_of_cell? w ⟨pb, 0, none⟩ h.c0) hp)).trans h.f1
  have hw := h.wp
  have hz := h.below.size
  refine ⟨⟨k3.os.trans (k2.os.trans h.below.os), k3.tape.trans (k2.tape.trans h.below.tape), k3.output.trans (k2.output.trans h.below.output), Nat.le_trans hz (Nat.le_trans k2.size k3.size), fun k hlt => ?_⟩, hw, ?_, ?_, ?_, ?_, ?_⟩
  · have := k2.size
    rw [k3.block k (by omega) (by omega), k2.block k (by omega) (fun e => by have := (h.own.lt _ e).1; omega), h.below.block k hlt]
  · simp [go_sem, d0]
  · simp [go_sem, d1]
  · simp [go_sem, e0]
  · simp [go_sem, e1]
  · rw [take_flatV hx]
    exact own_keep hown k3 (fun g' hg e => by have := (hown.lt _ hg).1; omega)
end Tx
end Go.Proofs.YtecfknbhnhcioaaGreatDoor
