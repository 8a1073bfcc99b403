/- FaultsOdd, way 3 of three. -/
import Derived.Test.YtndcelloakkpaaaDoorFOdd0
namespace Go.Proofs.YtndcelloakkpaaaDoor
open Go.ChangeShapes Go.WideShapes Go.ChangeAt Go.RowKit Go.Extern.Stop Go.Stop Go.Extern
namespace Fk
set_option linter.unusedVariables false
set_option linter.unusedSimpArgs false
set_option maxRecDepth 100000 in
set_option maxHeartbeats 16000000 in
theorem odd3 (a0a a0b a1 : Int) (a2 : ByteArray) (w : World) (hl : ¬ 200 < a2.size) (h1 : ¬ a1 < 1) (h2 : ¬ 12 < a1) :
    Calls Tryd.prog 6 #[.agg #[.int .i64 a0a, .int .i64 a0b], .int .i64 a1, .string a2] w fun e w' => e = .returned (.bool true) ∧ Below w.heap.size w w' := by
  have hl' : ¬ ((200 : Int) < a2.size) := by omega
  have hn : w.heap.size + 1 = (w.alloc (.cells #[.int .i64 a0a, .int .i64 a0b] 23)).heap.size := by simp
  have hk1 : Fk.kindV (some a1) [] = a1 := by simp only [Fk.kindV, Fk.kindOf, Fk.told, reduceCtorEq, false_and, if_false]; split <;> omega
  have hk2 : Fk.kindV (some a1) [(0, 0, true), (a0a, a0b, false)] = a1 := by simp only [Fk.kindV, Fk.kindOf, Fk.told, reduceCtorEq, false_and, if_false]; split <;> omega
  have HK1 := Lib.hid hk1
  have HK2 := Lib.hid hk2
  clear hk1 hk2
  go_enter Tryd.func6, Tryd.ntmps6
  go_wp2_with (go_at_call 7; refine (Fk.awake_any _).mono ?_; rintro e w1 ⟨rfl, hb1⟩; have q0 : w1.cell? ⟨w.heap.size, 0, none⟩ = some (.int .i64 a0a) := (hb1.cell (p := ⟨w.heap.size, 0, none⟩) (by simp)).trans (by simp [go_sem]); have q1 : w1.cell? ⟨w.heap.size, 1, none⟩ = some (.int .i64 a0b) := (hb1.cell (p := ⟨w.heap.size, 1, none⟩) (by simp)).trans (by simp [go_sem]); have hz : w.heap.size < w1.heap.size := (by have := hb1.size; simp at this; omega))
  have ha2 : Fk.AtObj (w1.alloc (.cells #[.int .i64 a0a, .int .i64 a0b, .string ⟨#[]⟩, .bool false, .iface 29 (.int .i64 a1)] 49 (0, 0))) w1.heap.size a0a a0b ⟨#[]⟩ false (.iface 29 (.int .i64 a1)) := heap_alloc_new w1 _
  have HA2 := Lib.hid ha2
  clear ha2
  have hbl2 : Below w.heap.size w (w1.alloc (.cells #[.int .i64 a0a, .int .i64 a0b, .string ⟨#[]⟩, .bool false, .iface 29 (.int .i64 a1)] 49 (0, 0))) := (((Below.refl _ _).alloc (Nat.le_refl _) _).trans (hb1.mono (by simp))).alloc (by omega) _
  have zz2 : w.heap.size < (w1.alloc (.cells #[.int .i64 a0a, .int .i64 a0b, .string ⟨#[]⟩, .bool false, .iface 29 (.int .i64 a1)] 49 (0, 0))).heap.size := by simp; omega
  have q2a := (((Below.refl w1.heap.size w1).alloc (Nat.le_refl _) (.cells #[.int .i64 a0a, .int .i64 a0b, .string ⟨#[]⟩, .bool false, .iface 29 (.int .i64 a1)] 49 (0, 0))).cell (p := ⟨w.heap.size, 0, none⟩) hz).trans q0
  have q2b := (((Below.refl w1.heap.size w1).alloc (Nat.le_refl _) (.cells #[.int .i64 a0a, .int .i64 a0b, .string ⟨#[]⟩, .bool false, .iface 29 (.int .i64 a1)] 49 (0, 0))).cell (p := ⟨w.heap.size, 1, none⟩) hz).trans q1
  generalize hw2 : w1.alloc (.cells #[.int .i64 a0a, .int .i64 a0b, .string ⟨#[]⟩, .bool false, .iface 29 (.int .i64 a1)] 49 (0, 0)) = w2 at HA2 hbl2 zz2 q2a q2b ⊢
  generalize hn1 : w1.heap.size = n1 at HA2 ⊢
  clear hn1 hw2 hb1 q0 q1 hz hn
  go_region_with (first
    | (go_at_call 14; have gg := zz7; clear gg; refine (Fk.kind_is (k := none) (l := [(a0a, a0b, false)]) 12 (by exact chain_top (w := w7) rfl) (by simp) rfl).mono ?_; rintro e w8 ⟨rfl, hb8⟩; have hb8' : Below w7.heap.size w7 w8 := below_top (by rfl) (by rfl) (by rfl) (by rfl) hb8; have hbl8 := hbl7.trans (hb8'.mono (Nat.le_of_lt zz7)))
    | (go_at_call 15; have gg := zz6; clear gg; refine (Fk.where_is (k := none) (l := [(a0a, a0b, false)]) a0a a0b (by exact chain_top (w := w6) rfl) (by simp) rfl).mono ?_; rintro e w7 ⟨rfl, hb7⟩; have hb7' : Below w6.heap.size w6 w7 := below_top (by rfl) (by rfl) (by rfl) (by rfl) hb7; have zz7 : w.heap.size < w7.heap.size := Nat.lt_of_lt_of_le zz6 hb7'.size; have q7a : w7.cell? ⟨w.heap.size, 0, none⟩ = some (.int .i64 a0a) := (hb7'.cell (p := ⟨w.heap.size, 0, none⟩) zz6).trans q6a; have q7b : w7.cell? ⟨w.heap.size, 1, none⟩ = some (.int .i64 a0b) := (hb7'.cell (p := ⟨w.heap.size, 1, none⟩) zz6).trans q6b; have hbl7 := hbl6.trans (hb7'.mono (Nat.le_of_lt zz6)); have HA7 := Lib.hid (HA6.out.below hb7' HA6.out.lt); clear q6a q6b)
    | (go_at_call 15; have gg := HC5; clear gg; refine (Fk.where_is (k := some a1) (l := [(a0a, a0b, false)]) a0a a0b (by exact chain_as rfl HC5.out) (by simp) rfl).mono ?_; rintro e w6 ⟨rfl, hb6⟩; have hb6' : Below w5.heap.size w5 w6 := below_as (by rfl) (by rfl) (by rfl) (by rfl) hb6; have zz6 : w.heap.size < w6.heap.size := Nat.lt_of_lt_of_le zz5 hb6'.size; have q6a : w6.cell? ⟨w.heap.size, 0, none⟩ = some (.int .i64 a0a) := (hb6'.cell (p := ⟨w.heap.size, 0, none⟩) zz5).trans q5a; have q6b : w6.cell? ⟨w.heap.size, 1, none⟩ = some (.int .i64 a0b) := (hb6'.cell (p := ⟨w.heap.size, 1, none⟩) zz5).trans q5b; have hbl6 := hbl5.trans (hb6'.mono (Nat.le_of_lt zz5)); have HA6 := Lib.hid (HA5.out.below hb6' HA5.out.lt); clear q5a q5b)
    | (go_at_call 14; have gg := HC4; clear gg; refine (Fk.kind_is (k := some a1) (l := [(0, 0, true), (a0a, a0b, false)]) a1 (by exact chain_as rfl HC4.out) (by simp) HK2.out).mono ?_; rintro e w5 ⟨rfl, hb5⟩; have hb5' : Below w4.heap.size w4 w5 := below_as (by rfl) (by rfl) (by rfl) (by rfl) hb5; have zz5 : w.heap.size < w5.heap.size := Nat.lt_of_lt_of_le zz4 hb5'.size; have q5a : w5.cell? ⟨w.heap.size, 0, none⟩ = some (.int .i64 a0a) := (hb5'.cell (p := ⟨w.heap.size, 0, none⟩) zz4).trans q4a; have q5b : w5.cell? ⟨w.heap.size, 1, none⟩ = some (.int .i64 a0b) := (hb5'.cell (p := ⟨w.heap.size, 1, none⟩) zz4).trans q4b; have hbl5 := hbl4.trans (hb5'.mono (Nat.le_of_lt zz4)); have HA5 := Lib.hid (HA4.out.below hb5' HA4.out.lt); clear q4a q4b; have HC5 := Lib.hid (HA5.out.link (show Fk.Chain w5 (some a1) [] (.iface 29 (.int .i64 a1)) from rfl)))
    | (go_at_call 12; have gg := zz3; clear gg; refine (Fk.in_obj _ _ _ _).mono ?_; rintro e w4 ⟨rfl, ho, hb4⟩; have hb4' : Below w3.heap.size w3 w4 := below_as (by rfl) (by rfl) (by rfl) (by rfl) hb4; have zz4 : w.heap.size < w4.heap.size := Nat.lt_of_lt_of_le zz3 hb4'.size; have q4a : w4.cell? ⟨w.heap.size, 0, none⟩ = some (.int .i64 a0a) := (hb4'.cell (p := ⟨w.heap.size, 0, none⟩) zz3).trans q3a; have q4b : w4.cell? ⟨w.heap.size, 1, none⟩ = some (.int .i64 a0b) := (hb4'.cell (p := ⟨w.heap.size, 1, none⟩) zz3).trans q3b; have hbl4 := hbl3.trans (hb4'.mono (Nat.le_of_lt zz3)); have HA4 := Lib.hid (HA3.out.below hb4' HA3.out.lt); clear q3a q3b; have HC4 := Lib.hid (Fk.AtObj.link ho (HA4.out.link (show Fk.Chain w4 (some a1) [] (.iface 29 (.int .i64 a1)) from rfl))); clear ho)
    | (go_at_call 14; have gg := zz2; clear gg; refine (Fk.kind_is (k := some a1) (l := []) a1 rfl (by simp) HK1.out).mono ?_; rintro e w3 ⟨rfl, hb3⟩; have hb3' : Below w2.heap.size w2 w3 := below_as (by rfl) (by rfl) (by rfl) (by rfl) hb3; have zz3 : w.heap.size < w3.heap.size := Nat.lt_of_lt_of_le zz2 hb3'.size; have q3a : w3.cell? ⟨w.heap.size, 0, none⟩ = some (.int .i64 a0a) := (hb3'.cell (p := ⟨w.heap.size, 0, none⟩) zz2).trans q2a; have q3b : w3.cell? ⟨w.heap.size, 1, none⟩ = some (.int .i64 a0b) := (hb3'.cell (p := ⟨w.heap.size, 1, none⟩) zz2).trans q2b; have hbl3 := hbl2.trans (hb3'.mono (Nat.le_of_lt zz2)); have HA3 := Lib.hid (HA2.out.below hb3' HA2.out.lt); clear q2a q2b))
  all_goals (try go_wp2)
  all_goals (try go_ret)
  all_goals first
    | exact ⟨rfl, hbl8⟩
    | exact ⟨rfl, hbl8.drew⟩
    | exact ⟨by simp, hbl8⟩
    | exact ⟨by simp, hbl8.drew⟩

end Fk
end Go.Proofs.YtndcelloakkpaaaDoor
