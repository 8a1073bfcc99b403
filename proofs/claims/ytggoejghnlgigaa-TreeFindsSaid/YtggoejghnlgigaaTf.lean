/- Places in lists of variables, nodes and types, by their names. -/
import Derived.Test.YtggoejghnlgigaaTq
import Derived.Test.YtggoejghnlgigaaTval
namespace Go.Proofs.Ytggoejghnlgigaa
open Go.ChangeShapes Go.WideShapes Go.ChangeAt Go.RowKit Go.Maps
namespace Tx
set_option linter.unusedVariables false
set_option linter.unusedSimpArgs false
/-- The place of the first that is as asked; below 0: none. -/
def ixOf {α : Type} (p : α → Bool) : List α → Nat → Int
  | [], _ => -1
  | x :: r, k => if p x = true then (k : Int) else ixOf p r (k + 1)
theorem ixOf_drop {α : Type} {p : α → Bool} {xs : List α} {i : Nat} {x : α} (h : xs[i]? = some x) : ixOf p (xs.drop i) i = if p x = true then (i : Int) else ixOf p (xs.drop (i + 1)) (i + 1) := by
  obtain ⟨hi, rfl⟩ := List.getElem?_eq_some_iff.1 h
  rw [List.drop_eq_getElem_cons hi]
  rfl
theorem ixOf_end {α : Type} {p : α → Bool} {xs : List α} {i : Nat} (h : xs.length ≤ i) (k : Nat) : ixOf p (xs.drop i) k = -1 := by
  rw [List.drop_eq_nil_of_le h]
  rfl
theorem ixOf_range {α : Type} {p : α → Bool} : ∀ (xs : List α) (k : Nat), ixOf p xs k = -1 ∨ ((k : Int) ≤ ixOf p xs k ∧ ixOf p xs k < k + xs.length)
  | [], k => .inl rfl
  | x :: r, k => by
    unfold ixOf
    split
    · right; simp; omega
    · rcases ixOf_range r (k + 1) with h | h
      · exact .inl h
      · right; simp; omega
/-- A row of things of so many cells each. -/
def RowIn {α : Type} (K : Nat) (val : α → List Value) (w : World) (v : Value) (xs : List α) : Prop :=
  ((∃ a c, v = .slice a 0 c) ∧ xs = []) ∨ ∃ b cap, v = .slice (some ⟨b, 0, none⟩) xs.length cap ∧ xs.length ≤ cap ∧ cap ≤ maxLen ∧ b < w.heap.size ∧ ∀ i x, xs[i]? = some x → ∀ j u, (val x)[j]? = some u → w.cell? ⟨b, i * K + j, none⟩ = some u
theorem RowIn.below {α : Type} {K : Nat} {val : α → List Value} {w w' : World} {v : Value} {xs : List α} (h : RowIn K val w v xs) (hb : Below w.heap.size w w') : RowIn K val w' v xs := by
  rcases h with h | ⟨b, cap, h1, h2, h3, h4, h5⟩
  · exact .inl h
  · exact .inr ⟨b, cap, h1, h2, h3, Nat.lt_of_lt_of_le h4 hb.size, fun i x hi j u hj => (hb.cell (p := ⟨b, i * K + j, none⟩) h4).trans (h5 i x hi j u hj)⟩
theorem RowIn.form {α : Type} {K : Nat} {val : α → List Value} {w : World} {v : Value} {xs : List α} (h : RowIn K val w v xs) : ∃ ao c, v = .slice ao xs.length c := by
  rcases h with ⟨h, rfl⟩ | ⟨b, cap, e, _⟩
  · exact h
  · exact ⟨_, _, e⟩
theorem RowIn.le {α : Type} {K : Nat} {val : α → List Value} {w : World} {v : Value} {xs : List α} (h : RowIn K val w v xs) : xs.length ≤ maxLen := by
  rcases h with ⟨_, rfl⟩ | ⟨b, cap, e, h1, h2, _⟩
  · exact Nat.zero_le _
  · omega
theorem RowIn.cellAt {α : Type} {K : Nat} {val : α → List Value} {w : World} {ao : Option Addr} {n c : Nat} {xs : List α} (h : RowIn K val w (.slice ao n c) xs) {i : Nat} (hi : i < xs.length) :
    ∃ b x, ao = some ⟨b, 0, none⟩ ∧ xs[i]? = some x ∧ b < w.heap.size ∧ ∀ j u, (val x)[j]? = some u → w.cell? ⟨b, i * K + j, none⟩ = some u := by
  rcases h with ⟨_, rfl⟩ | ⟨b, cap, e, h1, h2, h3, h4⟩
  · simp at hi
  · injection e with e1 _ _
    exact ⟨b, xs[i], e1, List.getElem?_eq_getElem hi, h3, h4 i _ (List.getElem?_eq_getElem hi)⟩
def eb : ByteArray := ⟨#[]⟩
def varV (s : ByteArray) : List Value := [.string s, .int .u8 0, .string eb, .slice none 0 0, .bool false, .int .u8 0, .int .u8 0, .int .i32 0, .string eb, .slice none 0 0, .slice none 0 0, .int .i64 0, .int .i64 0, .int .i64 0, .int .i64 0]
def nodeV (s : ByteArray) : List Value := [.string s, .slice none 0 0, .slice none 0 0, .slice none 0 0, .slice none 0 0, .int .i64 0, .int .i64 0]
/-- A type: its name, its constructors and where they lie. -/
structure En where
  nm : ByteArray
  v : Value
  cs : List ByteArray
def enumV (t : En) : List Value := [.string t.nm, t.v, .int .i64 0, .int .i64 0]
def Found (r : Int) (W : World) (e : Ending) (w' : World) : Prop := e = .returned (.int .i64 r) ∧ Below W.heap.size W w'
theorem bel {N : Nat} {W w1 w2 : World} (h : Below N W w1) (hN : N ≤ w1.heap.size) (k : Below w1.heap.size w1 w2) : Below N W w2 := keeps_below (F := fun _ => False) h (Keeps.below k) hN (fun _ h => h.elim)
/-- The loop of slices.IndexFunc. -/
def IxVar (fc : FuncId) (caps : Array Value) (p : ByteArray → Bool) (W : World) (xs : List (ByteArray)) : Prop := (∀ (args : Array Value) (w : World), (callFunc fc args).run Try.prog w = .ok (.enter fc args) w) ∧
  ∀ (x : ByteArray) (w : World), x ∈ xs → Below W.heap.size W w → Calls Try.prog fc (#[.agg #[.string x, .int .u8 0, .string eb, .slice none 0 0, .bool false, .int .u8 0, .int .u8 0, .int .i32 0, .string eb, .slice none 0 0, .slice none 0 0, .int .i64 0, .int .i64 0, .int .i64 0, .int .i64 0]] ++ caps) w fun e w' => e = .returned (.bool (p x)) ∧ Below w.heap.size w w'
set_option maxRecDepth 100000 in
set_option maxHeartbeats 4000000 in
theorem indexVar_any (fc : FuncId) (caps : Array Value) (p : ByteArray → Bool) (W : World) (v : Value) (xs : List (ByteArray)) (hr : RowIn 15 varV W v xs) (hf : IxVar fc caps p W xs) :
    Calls Try.prog 34 #[v, .func (Fn.func fc) #[] caps] W (Found (ixOf p xs 0) W) := by
  obtain ⟨ao, c, rfl⟩ := hr.form
  have HR := Lib.hid hr
  obtain ⟨N, hN⟩ : ∃ N, xs.length = N := ⟨_, rfl⟩
  have HN := Lib.hid hN
  have hle : N ≤ maxLen := by have := hr.le; omega
  unfold maxLen at hle
  rw [hN]
  have hcall := hf.1
  have HF := Lib.hid hf
  clear hr hN hf
  go_enter Try.func34, Try.ntmps34
  go_wp2
  go_loopg [8] N (fun g iv wr => ∃ i : Nat, i + g = N ∧ iv = .int .i64 i ∧ Below W.heap.size W wr ∧ ixOf p (xs.drop i) i = ixOf p xs 0)
  case atStart => exact ⟨0, by omega, rfl, Below.refl _ _, rfl⟩
  case round =>
    obtain ⟨i, hi, rfl, hb, hs⟩ := hrel
    have HB := Lib.hid hb
    have HS := Lib.hid hs
    have hbz := hb.size
    clear hb hs
    by_cases hlt : i < N
    · obtain ⟨b, x, rfl, hx, hbw, hcl⟩ := HR.out.cellAt (i := i) (by have := HN.out; omega)
      have HX := Lib.hid hx
      have hc : ∀ j u, (varV x)[j]? = some u → wr.cell? ⟨b, i * 15 + j, none⟩ = some u := fun j u hj => (HB.out.cell (p := ⟨b, i * 15 + j, none⟩) hbw).trans (hcl j u hj)
      clear hx hcl
      have z0 : wr.cell? ⟨b, i * 15, none⟩ = some (.string x) := hc 0 _ rfl
      have z1 : wr.cell? ⟨b, i * 15 + 1, none⟩ = some (.int .u8 0) := hc 1 _ rfl
      have z2 : wr.cell? ⟨b, i * 15 + 2, none⟩ = some (.string eb) := hc 2 _ rfl
      have z3 : wr.cell? ⟨b, i * 15 + 3, none⟩ = some (.slice none 0 0) := hc 3 _ rfl
      have z4 : wr.cell? ⟨b, i * 15 + 4, none⟩ = some (.bool false) := hc 4 _ rfl
      have z5 : wr.cell? ⟨b, i * 15 + 5, none⟩ = some (.int .u8 0) := hc 5 _ rfl
      have z6 : wr.cell? ⟨b, i * 15 + 6, none⟩ = some (.int .u8 0) := hc 6 _ rfl
      have z7 : wr.cell? ⟨b, i * 15 + 7, none⟩ = some (.int .i32 0) := hc 7 _ rfl
      have z8 : wr.cell? ⟨b, i * 15 + 8, none⟩ = some (.string eb) := hc 8 _ rfl
      have z9 : wr.cell? ⟨b, i * 15 + 9, none⟩ = some (.slice none 0 0) := hc 9 _ rfl
      have z10 : wr.cell? ⟨b, i * 15 + 10, none⟩ = some (.slice none 0 0) := hc 10 _ rfl
      have z11 : wr.cell? ⟨b, i * 15 + 11, none⟩ = some (.int .i64 0) := hc 11 _ rfl
      have z12 : wr.cell? ⟨b, i * 15 + 12, none⟩ = some (.int .i64 0) := hc 12 _ rfl
      have z13 : wr.cell? ⟨b, i * 15 + 13, none⟩ = some (.int .i64 0) := hc 13 _ rfl
      have z14 : wr.cell? ⟨b, i * 15 + 14, none⟩ = some (.int .i64 0) := hc 14 _ rfl
      clear hc
      go_wp2_with fail
      clear z0 z1 z2 z3 z4 z5 z6 z7 z8 z9 z10 z11 z12 z13 z14
      refine (HF.out.2 x wr (List.mem_of_getElem? HX.out) HB.out).mono ?_
      rintro e w1 ⟨rfl, hb1⟩
      have HB1 := Lib.hid hb1
      clear hb1
      cases hp : p x
      · go_wp2
        go_roundg (N - (i + 1))
        case measure => omega
        case rel => exact ⟨i + 1, by omega, by go_num, bel HB.out hbz HB1.out, by have h := HS.out; rw [ixOf_drop HX.out, hp, if_neg (by decide)] at h; exact h⟩
      · go_wp2
        go_ret
        exact ⟨by have h := HS.out; rw [ixOf_drop HX.out, hp, if_pos rfl] at h; rw [← h]; rfl, bel HB.out hbz HB1.out⟩
    · go_wp2
      go_ret
      exact ⟨by have h := HS.out; rw [ixOf_end (by have := HN.out; omega)] at h; rw [← h]; rfl, HB.out⟩
/-- The loop of slices.IndexFunc. -/
def IxNode (fc : FuncId) (caps : Array Value) (p : ByteArray → Bool) (W : World) (xs : List (ByteArray)) : Prop := (∀ (args : Array Value) (w : World), (callFunc fc args).run Try.prog w = .ok (.enter fc args) w) ∧
  ∀ (x : ByteArray) (w : World), x ∈ xs → Below W.heap.size W w → Calls Try.prog fc (#[.agg #[.string x, .slice none 0 0, .slice none 0 0, .slice none 0 0, .slice none 0 0, .int .i64 0, .int .i64 0]] ++ caps) w fun e w' => e = .returned (.bool (p x)) ∧ Below w.heap.size w w'
set_option maxRecDepth 100000 in
set_option maxHeartbeats 4000000 in
theorem indexNode_any (fc : FuncId) (caps : Array Value) (p : ByteArray → Bool) (W : World) (v : Value) (xs : List (ByteArray)) (hr : RowIn 7 nodeV W v xs) (hf : IxNode fc caps p W xs) :
    Calls Try.prog 36 #[v, .func (Fn.func fc) #[] caps] W (Found (ixOf p xs 0) W) := by
  obtain ⟨ao, c, rfl⟩ := hr.form
  have HR := Lib.hid hr
  obtain ⟨N, hN⟩ : ∃ N, xs.length = N := ⟨_, rfl⟩
  have HN := Lib.hid hN
  have hle : N ≤ maxLen := by have := hr.le; omega
  unfold maxLen at hle
  rw [hN]
  have hcall := hf.1
  have HF := Lib.hid hf
  clear hr hN hf
  go_enter Try.func36, Try.ntmps36
  go_wp2
  go_loopg [8] N (fun g iv wr => ∃ i : Nat, i + g = N ∧ iv = .int .i64 i ∧ Below W.heap.size W wr ∧ ixOf p (xs.drop i) i = ixOf p xs 0)
  case atStart => exact ⟨0, by omega, rfl, Below.refl _ _, rfl⟩
  case round =>
    obtain ⟨i, hi, rfl, hb, hs⟩ := hrel
    have HB := Lib.hid hb
    have HS := Lib.hid hs
    have hbz := hb.size
    clear hb hs
    by_cases hlt : i < N
    · obtain ⟨b, x, rfl, hx, hbw, hcl⟩ := HR.out.cellAt (i := i) (by have := HN.out; omega)
      have HX := Lib.hid hx
      have hc : ∀ j u, (nodeV x)[j]? = some u → wr.cell? ⟨b, i * 7 + j, none⟩ = some u := fun j u hj => (HB.out.cell (p := ⟨b, i * 7 + j, none⟩) hbw).trans (hcl j u hj)
      clear hx hcl
      have z0 : wr.cell? ⟨b, i * 7, none⟩ = some (.string x) := hc 0 _ rfl
      have z1 : wr.cell? ⟨b, i * 7 + 1, none⟩ = some (.slice none 0 0) := hc 1 _ rfl
      have z2 : wr.cell? ⟨b, i * 7 + 2, none⟩ = some (.slice none 0 0) := hc 2 _ rfl
      have z3 : wr.cell? ⟨b, i * 7 + 3, none⟩ = some (.slice none 0 0) := hc 3 _ rfl
      have z4 : wr.cell? ⟨b, i * 7 + 4, none⟩ = some (.slice none 0 0) := hc 4 _ rfl
      have z5 : wr.cell? ⟨b, i * 7 + 5, none⟩ = some (.int .i64 0) := hc 5 _ rfl
      have z6 : wr.cell? ⟨b, i * 7 + 6, none⟩ = some (.int .i64 0) := hc 6 _ rfl
      clear hc
      go_wp2_with fail
      clear z0 z1 z2 z3 z4 z5 z6
      refine (HF.out.2 x wr (List.mem_of_getElem? HX.out) HB.out).mono ?_
      rintro e w1 ⟨rfl, hb1⟩
      have HB1 := Lib.hid hb1
      clear hb1
      cases hp : p x
      · go_wp2
        go_roundg (N - (i + 1))
        case measure => omega
        case rel => exact ⟨i + 1, by omega, by go_num, bel HB.out hbz HB1.out, by have h := HS.out; rw [ixOf_drop HX.out, hp, if_neg (by decide)] at h; exact h⟩
      · go_wp2
        go_ret
        exact ⟨by have h := HS.out; rw [ixOf_drop HX.out, hp, if_pos rfl] at h; rw [← h]; rfl, bel HB.out hbz HB1.out⟩
    · go_wp2
      go_ret
      exact ⟨by have h := HS.out; rw [ixOf_end (by have := HN.out; omega)] at h; rw [← h]; rfl, HB.out⟩
/-- The loop of slices.IndexFunc. -/
def IxEnum (fc : FuncId) (caps : Array Value) (p : En → Bool) (W : World) (xs : List (En)) : Prop := (∀ (args : Array Value) (w : World), (callFunc fc args).run Try.prog w = .ok (.enter fc args) w) ∧
  ∀ (x : En) (w : World), x ∈ xs → Below W.heap.size W w → Calls Try.prog fc (#[.agg #[.string x.nm, x.v, .int .i64 0, .int .i64 0]] ++ caps) w fun e w' => e = .returned (.bool (p x)) ∧ Below w.heap.size w w'
set_option maxRecDepth 100000 in
set_option maxHeartbeats 4000000 in
theorem indexEnum_any (fc : FuncId) (caps : Array Value) (p : En → Bool) (W : World) (v : Value) (xs : List (En)) (hr : RowIn 4 enumV W v xs) (hf : IxEnum fc caps p W xs) :
    Calls Try.prog 38 #[v, .func (Fn.func fc) #[] caps] W (Found (ixOf p xs 0) W) := by
  obtain ⟨ao, c, rfl⟩ := hr.form
  have HR := Lib.hid hr
  obtain ⟨N, hN⟩ : ∃ N, xs.length = N := ⟨_, rfl⟩
  have HN := Lib.hid hN
  have hle : N ≤ maxLen := by have := hr.le; omega
  unfold maxLen at hle
  rw [hN]
  have hcall := hf.1
  have HF := Lib.hid hf
  clear hr hN hf
  go_enter Try.func38, Try.ntmps38
  go_wp2
  go_loopg [8] N (fun g iv wr => ∃ i : Nat, i + g = N ∧ iv = .int .i64 i ∧ Below W.heap.size W wr ∧ ixOf p (xs.drop i) i = ixOf p xs 0)
  case atStart => exact ⟨0, by omega, rfl, Below.refl _ _, rfl⟩
  case round =>
    obtain ⟨i, hi, rfl, hb, hs⟩ := hrel
    have HB := Lib.hid hb
    have HS := Lib.hid hs
    have hbz := hb.size
    clear hb hs
    by_cases hlt : i < N
    · obtain ⟨b, x, rfl, hx, hbw, hcl⟩ := HR.out.cellAt (i := i) (by have := HN.out; omega)
      have HX := Lib.hid hx
      have hc : ∀ j u, (enumV x)[j]? = some u → wr.cell? ⟨b, i * 4 + j, none⟩ = some u := fun j u hj => (HB.out.cell (p := ⟨b, i * 4 + j, none⟩) hbw).trans (hcl j u hj)
      clear hx hcl
      have z0 : wr.cell? ⟨b, i * 4, none⟩ = some (.string x.nm) := hc 0 _ rfl
      have z1 : wr.cell? ⟨b, i * 4 + 1, none⟩ = some (x.v) := hc 1 _ rfl
      have z2 : wr.cell? ⟨b, i * 4 + 2, none⟩ = some (.int .i64 0) := hc 2 _ rfl
      have z3 : wr.cell? ⟨b, i * 4 + 3, none⟩ = some (.int .i64 0) := hc 3 _ rfl
      clear hc
      go_wp2_with fail
      clear z0 z1 z2 z3
      refine (HF.out.2 x wr (List.mem_of_getElem? HX.out) HB.out).mono ?_
      rintro e w1 ⟨rfl, hb1⟩
      have HB1 := Lib.hid hb1
      clear hb1
      cases hp : p x
      · go_wp2
        go_roundg (N - (i + 1))
        case measure => omega
        case rel => exact ⟨i + 1, by omega, by go_num, bel HB.out hbz HB1.out, by have h := HS.out; rw [ixOf_drop HX.out, hp, if_neg (by decide)] at h; exact h⟩
      · go_wp2
        go_ret
        exact ⟨by have h := HS.out; rw [ixOf_drop HX.out, hp, if_pos rfl] at h; rw [← h]; rfl, bel HB.out hbz HB1.out⟩
    · go_wp2
      go_ret
      exact ⟨by have h := HS.out; rw [ixOf_end (by have := HN.out; omega)] at h; rw [← h]; rfl, HB.out⟩
set_option maxRecDepth 100000 in
set_option maxHeartbeats 2000000 in
theorem find_closure (s : ByteArray) (hs : s.size ≤ maxLen) (cb : Nat) (W : World) (xs : List (ByteArray)) (hc : W.cell? ⟨cb, 0, none⟩ = some (.string s)) : IxVar 35 #[.pointer (some ⟨cb, 0, none⟩)] (fun x => (x).toList == s.toList) W xs := by
  refine ⟨fun args w => by kernel_rfl, fun x w _ hb => ?_⟩
  have hcb : cb < W.heap.size := World.block_lt_of_cell? W _ hc
  have c1 : w.cell? ⟨cb, 0, none⟩ = some (.string s) := (hb.cell (p := ⟨cb, 0, none⟩) hcb).trans hc
  have c2 : ∀ o, (w.alloc o).cell? ⟨cb, 0, none⟩ = some (.string s) := fun o => (((Below.refl w.heap.size w).alloc (Nat.le_refl _) o).cell (p := ⟨cb, 0, none⟩) (World.block_lt_of_cell? w _ c1)).trans c1
  clear hb hcb c1
  go_enter Try.func35, Try.ntmps35
  go_wp2
  go_ret
  exact ⟨rfl, (Below.refl _ _).alloc (Nat.le_refl _) _⟩
set_option maxRecDepth 100000 in
set_option maxHeartbeats 2000000 in
theorem findNode_closure (s : ByteArray) (hs : s.size ≤ maxLen) (cb : Nat) (W : World) (xs : List (ByteArray)) (hc : W.cell? ⟨cb, 0, none⟩ = some (.string s)) : IxNode 37 #[.pointer (some ⟨cb, 0, none⟩)] (fun x => (x).toList == s.toList) W xs := by
  refine ⟨fun args w => by kernel_rfl, fun x w _ hb => ?_⟩
  have hcb : cb < W.heap.size := World.block_lt_of_cell? W _ hc
  have c1 : w.cell? ⟨cb, 0, none⟩ = some (.string s) := (hb.cell (p := ⟨cb, 0, none⟩) hcb).trans hc
  have c2 : ∀ o, (w.alloc o).cell? ⟨cb, 0, none⟩ = some (.string s) := fun o => (((Below.refl w.heap.size w).alloc (Nat.le_refl _) o).cell (p := ⟨cb, 0, none⟩) (World.block_lt_of_cell? w _ c1)).trans c1
  clear hb hcb c1
  go_enter Try.func37, Try.ntmps37
  go_wp2
  go_ret
  exact ⟨rfl, (Below.refl _ _).alloc (Nat.le_refl _) _⟩
set_option maxRecDepth 100000 in
set_option maxHeartbeats 2000000 in
theorem findEnum_closure (s : ByteArray) (hs : s.size ≤ maxLen) (cb : Nat) (W : World) (xs : List (En)) (hc : W.cell? ⟨cb, 0, none⟩ = some (.string s)) : IxEnum 43 #[.pointer (some ⟨cb, 0, none⟩)] (fun x => (x.nm).toList == s.toList) W xs := by
  refine ⟨fun args w => by kernel_rfl, fun x w _ hb => ?_⟩
  have hcb : cb < W.heap.size := World.block_lt_of_cell? W _ hc
  have c1 : w.cell? ⟨cb, 0, none⟩ = some (.string s) := (hb.cell (p := ⟨cb, 0, none⟩) hcb).trans hc
  have c2 : ∀ o, (w.alloc o).cell? ⟨cb, 0, none⟩ = some (.string s) := fun o => (((Below.refl w.heap.size w).alloc (Nat.le_refl _) o).cell (p := ⟨cb, 0, none⟩) (World.block_lt_of_cell? w _ c1)).trans c1
  clear hb hcb c1
  go_enter Try.func43, Try.ntmps43
  go_wp2
  go_ret
  exact ⟨rfl, (Below.refl _ _).alloc (Nat.le_refl _) _⟩
end Tx
end Go.Proofs.Ytggoejghnlgigaa
