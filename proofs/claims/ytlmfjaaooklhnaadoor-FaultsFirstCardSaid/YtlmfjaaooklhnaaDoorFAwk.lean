/- The document's example of faults. -/
import Derived.Test.YtlmfjaaooklhnaaDoorFAwake
namespace Go.Proofs.YtlmfjaaooklhnaaDoor
open Go.ChangeShapes Go.WideShapes Go.ChangeAt Go.RowKit Go.Extern.Stop Go.Stop Go.Extern
namespace Fk
set_option linter.unusedVariables false
set_option linter.unusedSimpArgs false

theorem AtObj.link {w : World} {b : Nat} {line col : Int} {nm : ByteArray} {d : Bool} {u : Value} {k : Option Int} {l : List (Int × Int × Bool)} (h : AtObj w b line col nm d u) (hc : Chain w k l u) : Chain w k ((line, col, d) :: l) (.iface 39 (.pointer (some ⟨b, 0, none⟩))) :=
  ⟨b, 0, u, rfl, by simpa using h.cell 0, by simpa using h.cell 1, by simpa using h.cell 3, by simpa using h.cell 4, hc⟩
theorem chain_keep {k : Option Int} {w w' : World} (hb : Below w.heap.size w w') : ∀ {l : List (Int × Int × Bool)} {v : Value}, Chain w k l v → Chain w' k l v
  | [], v, h => h
  | (line, col, d) :: l, v, ⟨pb, po, u, he, c0, c1, c3, c4, hc⟩ => by
    have lt := World.block_lt_of_cell? w _ c0
    simp only at lt
    exact ⟨pb, po, u, he, (hb.cell (p := ⟨pb, po, none⟩) lt).trans c0, (hb.cell (p := ⟨pb, po + 1, none⟩) lt).trans c1, (hb.cell (p := ⟨pb, po + 3, none⟩) lt).trans c3, (hb.cell (p := ⟨pb, po + 4, none⟩) lt).trans c4, chain_keep hb hc⟩

theorem kind_is {k : Option Int} {l : List (Int × Int × Bool)} {v : Value} {W : World} (x : Int) (hc : Chain W k l v) (hl : l.length ≤ 50) (hx : kindV k l = x) :
    Calls Tryd.prog 8 #[v] W fun e w' => e = .returned (.int .i64 x) ∧ Below W.heap.size W w' := hx ▸ Kind_chain k l v W hc hl
theorem where_is {k : Option Int} {l : List (Int × Int × Bool)} {t : TypeId} {u : Value} {W : World} (x y : Int) (hc : Chain W k l (.iface t u)) (hl : l.length ≤ 50) (hx : placeOf l = (x, y)) :
    Calls Tryd.prog 9 #[.iface t u] W fun e w' => e = .returned (.agg #[.int .i64 x, .int .i64 y]) ∧ Below W.heap.size W w' := by
  have h := Where_chain k l t u W hc hl
  rw [hx] at h
  exact h
set_option maxRecDepth 100000 in
set_option maxHeartbeats 1000000 in
theorem awake_any (W : World) : Calls Tryd.prog 4 #[] W fun e w' => e = .returned (.bool true) ∧ Below W.heap.size W w' := by
  have hex : (exText == [105, 110, 32, 102, 58, 32, 51, 58, 55, 58, 32, 116, 121, 112, 101, 100]) = true := by decide
  go_enter Tryd.func4, Tryd.ntmps4
  go_wp2_with (first
    | (go_at_call 6; refine (new_obj 7 3 7 rfl _).mono ?_; rintro e w1 ⟨rfl, hi, hb1⟩; have HI := Lib.hid hi; clear hi)
    | (go_at_call 10; refine (in_obj _ _ _ _).mono ?_; rintro e w2 ⟨rfl, ho, hb2⟩; have HI2 := Lib.hid (HI.out.below hb2 HI.out.lt); have HO := Lib.hid ho; clear ho; have hne : W.heap.size + 1 ≠ w1.heap.size := (by have := HI.out.lt; omega); have HC0 := Lib.hid (HO.out.link (HI2.out.link (show Chain w2 (some 7) [] (.iface 26 (.int .i64 7)) from rfl))))
    | (go_at_call 11; refine (text_two HO.out HI2.out hne).mono ?_; rintro e w3 ⟨rfl, hb3⟩; have HC := Lib.hid (chain_keep hb3 HC0.out))
    | (go_at_call 8; refine (kind_is 7 HC.out (by simp) rfl).mono ?_; rintro e w4 ⟨rfl, hb4⟩; have HC2 := Lib.hid (chain_keep hb4 HC.out))
    | (go_at_call 9; refine (where_is 3 7 HC2.out (by simp) rfl).mono ?_; rintro e w5 ⟨rfl, hb5⟩))
  go_ret
  have s2 := Nat.le_trans hb1.size hb2.size
  have s3 := Nat.le_trans s2 hb3.size
  have s4 := Nat.le_trans s3 hb4.size
  exact ⟨rfl, hb1.trans ((hb2.mono hb1.size).trans ((hb3.mono s2).trans ((hb4.mono s3).trans (hb5.mono s4))))⟩
end Fk
end Go.Proofs.YtlmfjaaooklhnaaDoor
