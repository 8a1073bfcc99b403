/- The law's awake. -/
import Derived.Test.YtggoejghnlgigaaTrb
import Derived.Test.YtggoejghnlgigaaTd
namespace Go.Proofs.Ytggoejghnlgigaa
open Go.ChangeShapes Go.WideShapes Go.ChangeAt Go.RowKit Go.Maps
namespace Tx
set_option linter.unusedVariables false
set_option linter.unusedSimpArgs false
def mkD (k op : Int) (nm : ByteArray) (h : nm.size ≤ maxLen) : Dt := ⟨k, op, 0, nm, h, [], 0, 0⟩
def dA : Dt := mkD 4 0 ⟨#[97]⟩ (by decide)
def dB : Dt := mkD 4 0 ⟨#[98]⟩ (by decide)
def dI : Dt := mkD 1 0 ⟨#[]⟩ (by decide)
def dF : Dt := mkD 9 0 ⟨#[]⟩ (by decide)
def dE : Dt := mkD 7 3 ⟨#[]⟩ (by decide)
def foF : Fo := .cons dI .nil (.cons dB .nil .nil)
def foE : Fo := .cons dA .nil (.cons dF foF .nil)
def ev (d : Dt) (kv : Value) : List Value := cells d (.slice none 0 0) kv
theorem awake_in {b1 b2 : Nat} {w : World} {B : Nat → Prop} (hb1 : B b1) (hb2 : B b2)
    (h1 : w.heap[b1]? = some (.cells (ev dI (.slice none 0 0) ++ ev dB (.slice none 0 0)).toArray 30 (0, 0)))
    (h2 : w.heap[b2]? = some (.cells (ev dA (.slice none 0 0) ++ ev dF (.slice (some ⟨b1, 0, none⟩) 2 2)).toArray 30 (0, 0))) :
    KidsIn B w (.slice (some ⟨b2, 0, none⟩) 2 2) foE := by
  have c1 : ∀ j v, (ev dI (.slice none 0 0) ++ ev dB (.slice none 0 0))[j]? = some v → w.cell? ⟨b1, j, none⟩ = some v := fun j v hj => by rw [cell_of_row w b1 j _ _ _ h1]; simpa using hj
  have c2 : ∀ j v, (ev dA (.slice none 0 0) ++ ev dF (.slice (some ⟨b1, 0, none⟩) 2 2))[j]? = some v → w.cell? ⟨b2, j, none⟩ = some v := fun j v hj => by rw [cell_of_row w b2 j _ _ _ h2]; simpa using hj
  have hl : ∀ (d : Dt) kv, (ev d kv).length = 8 := fun _ _ => rfl
  refine .inr ⟨b2, 0, 2, rfl, by decide, by decide, hb2, ⟨.slice none 0 0, .slice none 0 0, fun j v hj => ?_, .inl ⟨⟨_, _, rfl⟩, rfl⟩, .inl ⟨⟨_, _, rfl⟩, rfl⟩⟩, hb2, ⟨.slice none 0 0, .slice (some ⟨b1, 0, none⟩) 2 2, fun j v hj => ?_, .inl ⟨⟨_, _, rfl⟩, rfl⟩, .inr ⟨b1, 0, 2, rfl, by decide, by decide, hb1, ⟨.slice none 0 0, .slice none 0 0, fun j v hj => ?_, .inl ⟨⟨_, _, rfl⟩, rfl⟩, .inl ⟨⟨_, _, rfl⟩, rfl⟩⟩, hb1, ⟨.slice none 0 0, .slice none 0 0, fun j v hj => ?_, .inl ⟨⟨_, _, rfl⟩, rfl⟩, .inl ⟨⟨_, _, rfl⟩, rfl⟩⟩, trivial⟩⟩, trivial⟩
  · rw [Nat.zero_add]
    have hlt : j < 8 := (List.getElem?_eq_some_iff.1 hj).1
    exact c2 j v (by rw [List.getElem?_append_left (by rw [hl]; exact hlt)]; exact hj)
  · have e : 0 + 8 + j = 8 + j := by omega
    rw [e]
    exact c2 (8 + j) v (by rw [List.getElem?_append_right (by rw [hl]; omega), hl, Nat.add_sub_cancel_left]; exact hj)
  · rw [Nat.zero_add]
    have hlt : j < 8 := (List.getElem?_eq_some_iff.1 hj).1
    exact c1 j v (by rw [List.getElem?_append_left (by rw [hl]; exact hlt)]; exact hj)
  · have e : 0 + 8 + j = 8 + j := by omega
    rw [e]
    exact c1 (8 + j) v (by rw [List.getElem?_append_right (by rw [hl]; omega), hl, Nat.add_sub_cancel_left]; exact hj)
theorem reads_now : readsOf selNow dE foE = [⟨#[97]⟩] := by decide
theorem reads_all : readsOf selAll dE foE = [⟨#[97]⟩, ⟨#[98]⟩] := by decide
theorem blk5 (W : World) (o0 o1 o2 o3 o4 : Obj) : (((((W.alloc o0).alloc o1).alloc o2).alloc o3).alloc o4).heap[W.heap.size + 1]? = some o1 ∧ (((((W.alloc o0).alloc o1).alloc o2).alloc o3).alloc o4).heap[W.heap.size + 1 + 1 + 1]? = some o3 ∧ (((((W.alloc o0).alloc o1).alloc o2).alloc o3).alloc o4).heap[W.heap.size + 1 + 1 + 1 + 1]? = some o4 := by
  have e : (((((W.alloc o0).alloc o1).alloc o2).alloc o3).alloc o4).heap = ((((W.heap.push o0).push o1).push o2).push o3).push o4 := rfl
  rw [e]
  refine ⟨?_, ?_, ?_⟩
  · rw [Array.getElem?_push, if_neg (by simp only [Array.size_push]; omega), Array.getElem?_push, if_neg (by simp only [Array.size_push]; omega), Array.getElem?_push, if_neg (by simp only [Array.size_push]; omega), Array.getElem?_push, if_pos (by simp only [Array.size_push])]
  · rw [Array.getElem?_push, if_neg (by simp only [Array.size_push]; omega), Array.getElem?_push, if_pos (by simp only [Array.size_push])]
  · rw [Array.getElem?_push, if_pos (by simp only [Array.size_push])]
theorem blk5e {W W5 : World} {o0 o1 o2 o3 o4 : Obj} (h : (((((W.alloc o0).alloc o1).alloc o2).alloc o3).alloc o4) = W5) : W5.heap[W.heap.size + 1]? = some o1 ∧ W5.heap[W.heap.size + 1 + 1 + 1]? = some o3 ∧ W5.heap[W.heap.size + 1 + 1 + 1 + 1]? = some o4 := h ▸ blk5 W o0 o1 o2 o3 o4
theorem below5 (W : World) (o0 o1 o2 o3 o4 : Obj) : Below W.heap.size W (((((W.alloc o0).alloc o1).alloc o2).alloc o3).alloc o4) :=
  (((((Below.refl _ _).alloc (Nat.le_refl _) _).alloc (by simp) _).alloc (by simp; omega) _).alloc (by simp; omega) _).alloc (by simp; omega) _
theorem cells8 {w : World} {g : Nat} {v0 v1 v2 v3 v4 v5 v6 v7 : Value} {t : TypeId} (h : w.heap[g]? = some (.cells #[v0, v1, v2, v3, v4, v5, v6, v7] t (0, 0))) :
    w.cell? ⟨g, 0, none⟩ = some v0 ∧ w.cell? ⟨g, 1, none⟩ = some v1 ∧ w.cell? ⟨g, 2, none⟩ = some v2 ∧ w.cell? ⟨g, 3, none⟩ = some v3 ∧ w.cell? ⟨g, 4, none⟩ = some v4 ∧ w.cell? ⟨g, 5, none⟩ = some v5 ∧ w.cell? ⟨g, 6, none⟩ = some v6 ∧ w.cell? ⟨g, 7, none⟩ = some v7 := by
  refine ⟨?_, ?_, ?_, ?_, ?_, ?_, ?_, ?_⟩ <;> (rw [cell_of_row w g _ _ _ _ h]; rfl)
theorem size5 (W : World) (o0 o1 o2 o3 o4 : Obj) : (((((W.alloc o0).alloc o1).alloc o2).alloc o3).alloc o4).heap.size = W.heap.size + 5 := by simp
set_option maxRecDepth 100000 in
set_option maxHeartbeats 2000000 in
theorem awake_any (W : World) : Calls Try.prog 7 #[] W fun e w' => e = .returned (.bool true) ∧ Below W.heap.size W w' := by
  go_enter Try.func7, Try.ntmps7
  go_wp2_with fail
  generalize hW5 : (((((W.alloc _).alloc _).alloc _).alloc _).alloc _) = W5
  have b5 : Below W.heap.size W W5 := by rw [← hW5]; exact below5 W _ _ _ _ _
  have z5 : W5.heap.size = W.heap.size + 5 := by rw [← hW5]; exact size5 W _ _ _ _ _
  obtain ⟨g1, g3, g4⟩ := blk5e hW5
  clear hW5
  have hK : KidsIn (fun k => k = W.heap.size + 1 ∨ k = W.heap.size + 1 + 1 + 1) W5 (.slice (some ⟨W.heap.size + 1 + 1 + 1, 0, none⟩) 2 2) foE := awake_in (.inl rfl) (.inr rfl) g1 g3
  refine (now_any (fun k => k = W.heap.size + 1 ∨ k = W.heap.size + 1 + 1 + 1) W5 (fun k hk => by omega) dE foE (.slice none 0 0) _ (.inl ⟨⟨_, _, rfl⟩, rfl⟩) hK (by decide)).mono ?_
  rintro e w1 ⟨lv, rfl, ho, hb1⟩
  rw [reads_now] at ho
  have g41 : w1.heap[W.heap.size + 1 + 1 + 1 + 1]? = _ := (hb1.block _ (by omega)).trans g4
  obtain ⟨x0, x1, x2, x3, x4, x5, x6, x7⟩ := cells8 g41
  clear g1 g3 g4
  go_wp2_with fail
  clear x0 x1 x2 x3 x4 x5 x6 x7
  have hK1 := hK.keep (w' := w1) (fun b o v hb hc => (hb1.cell (p := ⟨b, o, none⟩) (by show b < W5.heap.size; omega)).trans hc)
  have hs1 : W5.heap.size ≤ w1.heap.size := hb1.size
  refine (all_any (fun k => k = W.heap.size + 1 ∨ k = W.heap.size + 1 + 1 + 1) w1 (fun k hk => by omega) dE foE (.slice none 0 0) _ (.inl ⟨⟨_, _, rfl⟩, rfl⟩) hK1 (by decide)).mono ?_
  rintro e w2 ⟨lm, rfl, hm, hb2⟩
  rw [reads_all] at hm
  have g42 : w2.heap[W.heap.size + 1 + 1 + 1 + 1]? = _ := (hb2.block _ (by omega)).trans g41
  obtain ⟨x0, x1, x2, x3, x4, x5, x6, x7⟩ := cells8 g42
  have hs2 : w1.heap.size ≤ w2.heap.size := hb2.size
  have hK2 := hK1.keep (w' := w2) (fun b o v hb hc => (hb2.cell (p := ⟨b, o, none⟩) (by show b < w1.heap.size; omega)).trans hc)
  obtain ⟨ga, ca, rfl⟩ := Go.Joins.ownsRow_form ho (by decide)
  obtain ⟨gm, cm, rfl⟩ := Go.Joins.ownsRow_form hm (by decide)
  have ya : w2.cell? ⟨ga, 0, none⟩ = some (.string ⟨#[97]⟩) := (hb2.cell (p := ⟨ga, 0, none⟩) (ho.lt ga rfl).2).trans (ho.cells (g := ga) rfl 0 _ rfl)
  have ym : w2.cell? ⟨gm, 1, none⟩ = some (.string ⟨#[98]⟩) := hm.cells (g := gm) rfl 1 _ rfl
  clear ho hm g41 hK hK1
  go_wp2_with fail
  clear x0 x1 x2 x3 x4 x5 x6 x7 ya ym
  refine (size_any (fun k => k = W.heap.size + 1 ∨ k = W.heap.size + 1 + 1 + 1) w2 (fun k hk => by omega) dE foE (.slice none 0 0) _ (.inl ⟨⟨_, _, rfl⟩, rfl⟩) hK2 (by decide)).mono ?_
  rintro e w3 ⟨rfl, hb3⟩
  have g43 : w3.heap[W.heap.size + 1 + 1 + 1 + 1]? = _ := (hb3.block _ (by omega)).trans g42
  obtain ⟨x0, x1, x2, x3, x4, x5, x6, x7⟩ := cells8 g43
  have hs3 : w2.heap.size ≤ w3.heap.size := hb3.size
  have hK3 := hK2.keep (w' := w3) (fun b o v hb hc => (hb3.cell (p := ⟨b, o, none⟩) (by show b < w2.heap.size; omega)).trans hc)
  have e5 : (1 : Int) + (foE.size : Int) = 5 := by decide
  rw [e5]
  clear e5 hK2 g42
  go_wp2_with fail
  clear x0 x1 x2 x3 x4 x5 x6 x7
  refine (depth_any (fun k => k = W.heap.size + 1 ∨ k = W.heap.size + 1 + 1 + 1) w3 (fun k hk => by omega) dE foE (.slice none 0 0) _ (.inl ⟨⟨_, _, rfl⟩, rfl⟩) hK3 (by decide)).mono ?_
  rintro e w4 ⟨rfl, hb4⟩
  have e3 : (1 : Int) + (foE.depth : Int) = 3 := by decide
  rw [e3]
  clear e3 hK3 g43
  go_wp2
  go_ret
  have q1 := keeps_below (F := fun _ => False) b5 (Keeps.below hb1) b5.size (fun _ h => h.elim)
  have q2 := keeps_below (F := fun _ => False) q1 (Keeps.below hb2) q1.size (fun _ h => h.elim)
  have q3 := keeps_below (F := fun _ => False) q2 (Keeps.below hb3) q2.size (fun _ h => h.elim)
  exact ⟨rfl, keeps_below (F := fun _ => False) q3 (Keeps.below hb4) q3.size (fun _ h => h.elim)⟩
end Tx
end Go.Proofs.Ytggoejghnlgigaa
