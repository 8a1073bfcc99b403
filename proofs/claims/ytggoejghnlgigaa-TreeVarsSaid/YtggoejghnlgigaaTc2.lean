/- The reference's count of what an expression holds: how much it leaves. -/
import Derived.Test.YtggoejghnlgigaaTc
import Derived.Test.YtggoejghnlgigaaTe
namespace Go.Proofs.Ytggoejghnlgigaa
open Go.ChangeShapes Go.WideShapes Go.ChangeAt Go.RowKit Go.Maps
namespace Tx
set_option linter.unusedVariables false
set_option linter.unusedSimpArgs false
/-- What is left of m behind an expression of so many; below 0: too many. -/
def Lefts (W : World) (m : Int) (size : Nat) (e : Ending) (w' : World) : Prop := ∃ r : Int, e = .returned (.int .i64 r) ∧ (-1 ≤ r ∧ r < m ∧ (0 ≤ r → r + size + 1 = m)) ∧ Below W.heap.size W w'
theorem not_less (i L : Nat) (h : ¬ i < L) (h2 : i ≤ L) : i = L := by omega
set_option maxRecDepth 100000 in
set_option maxHeartbeats 4000000 in
theorem count2_any : ∀ (n : Nat), n ≤ 200 → ∀ (B : Nat → Prop) (W : World), (∀ k, B k → k < W.heap.size) → ∀ (d : Dt) (ks : Fo) (nv kv : Value), NamesIn B W nv d.ns → KidsIn B W kv ks → ∀ (m : Int), 0 ≤ m → m ≤ 1000000 →
    Calls Try.prog 25 #[exV d nv kv, .int .i64 m, .int .i64 n] W (Lefts W m ks.size) := by
  intro n
  induction n with
  | zero =>
    intro _ B W hB d ks nv kv hn hk m hm0 hm1
    clear hn hk hB
    unfold exV
    go_enter Try.func25, Try.ntmps25
    go_wp2
    go_ret
    exact ⟨_, rfl, ⟨by omega, by omega, fun h => by omega⟩, (Below.refl _ _).alloc (Nat.le_refl _) _⟩
  | succ n ih =>
    intro hn200 B W hB d ks nv kv hn hk m hm0 hm1
    obtain ⟨na, nc, rfl⟩ := hn.slice
    obtain ⟨ka, kc, rfl⟩ := hk.slice
    have hkl := hk.len
    have HK := Lib.hid hk
    have HB := Lib.hid hB
    have IH := Lib.hid ih
    have t0 : decide (((n + 1 : Nat) : Int) ≤ 0) = false := decide_eq_false (by omega)
    obtain ⟨L, hL⟩ : ∃ L, ks.len = L := ⟨_, rfl⟩
    have HL := Lib.hid hL
    rw [hL] at hkl ⊢
    unfold maxLen at hkl
    clear hn hk hB ih hL
    unfold exV
    cases t1 : decide (((d.ns.length : Nat) : Int) > 200)
    · go_enter Try.func25, Try.ntmps25
      go_wp2_with fail
      generalize hW2 : W.alloc (.cells #[.int .u8 d.k, .int .u8 d.op, .int .i32 d.n, .string d.nm, .slice na d.ns.length nc, .slice ka L kc, .int .i64 d.line, .int .i64 d.col] 30) = W2
      have b2 : Below W.heap.size W W2 := by rw [← hW2]; exact (Below.refl _ _).alloc (Nat.le_refl _) _
      have z2 : W2.heap.size = W.heap.size + 1 := by rw [← hW2]; simp
      have c2 : W2.cell? ⟨W.heap.size, 5, none⟩ = some (.slice ka L kc) := by rw [← hW2]; simp [go_sem]
      clear hW2
      go_loopg [1, 7] L (fun g mv iv wr => ∃ (i : Nat) (r : Int), i + g = L ∧ (-1 ≤ r ∧ r < m ∧ (0 ≤ r → r + ks.size + 1 = m + (ks.drop i).size)) ∧ mv = .int .i64 r ∧ iv = .int .i64 i ∧ Below (W.heap.size + 1) W2 wr)
      case atStart => exact ⟨0, m - 1, by omega, ⟨by omega, by omega, fun h => by rw [drop_zero]; omega⟩, rfl, rfl, Below.refl _ _⟩
      case round =>
        obtain ⟨i, r, hig, hr, rfl, rfl, hbw⟩ := hrel
        have HR := Lib.hid hr
        have hr1 := hr.1
        have hr2 := hr.2.1
        clear hr
        have c5 : wr.cell? ⟨W.heap.size, 5, none⟩ = some (.slice ka L kc) := (hbw.cell (p := ⟨W.heap.size, 5, none⟩) (Nat.lt_succ_self _)).trans c2
        have hbw' : Below W2.heap.size W2 wr := by rw [z2]; exact hbw
        have hbW : Below W.heap.size W wr := keeps_below (F := fun _ => False) b2 (Keeps.below hbw') b2.size (fun _ h => h.elim)
        have kp : ∀ b o v, B b → W.cell? ⟨b, o, none⟩ = some v → wr.cell? ⟨b, o, none⟩ = some v := fun b o v hb hc => (hbW.cell (p := ⟨b, o, none⟩) (HB.out b hb)).trans hc
        have HW := Lib.hid (And.intro hbw hbW)
        have hzr : W.heap.size ≤ wr.heap.size := hbW.size
        have hK := HK.out.keep kp
        have HZ := Lib.hid z2
        clear hbw hbw' hbW kp c2 b2 z2
        have tn : decide (((n + 1 : Nat) : Int) ≤ 0) = false := t0
        by_cases hi : i < L
        · have ti : decide (((i : Nat) : Int) < ((L : Nat) : Int)) = true := decide_eq_true (by omega)
          cases tr : decide ((r : Int) ≥ 0)
          · have hneg : r < 0 := by have := of_decide_eq_false tr; omega
            go_wp2
            go_ret
            exact ⟨_, rfl, ⟨hr1, hr2, fun h => by omega⟩, HW.out.2⟩
          · have hpos : 0 ≤ r := of_decide_eq_true tr
            rcases hK with ⟨⟨a_, c_, e⟩, _⟩ | ⟨kb, ko, cap, e, h1, h2, hfo⟩
            · injection e with _ e2 _
              have := HL.out
              omega
            · injection e with e1 _ e3
              subst e1 e3
              obtain ⟨d1, ks1, hget⟩ := ks.get_lt i (by rw [HL.out]; exact hi)
              obtain ⟨hPb, nv1, kv1, hcell, hnm, hkd⟩ := FoIn.at ks kb ko hfo i d1 ks1 hget
              have x0 : wr.cell? ⟨kb, ko + i * 8, none⟩ = some (.int .u8 d1.k) := hcell 0 _ rfl
              have x1 := hcell 1 _ rfl
              have x2 := hcell 2 _ rfl
              have x3 := hcell 3 _ rfl
              have x4 := hcell 4 _ rfl
              have x5 := hcell 5 _ rfl
              have x6 := hcell 6 _ rfl
              have x7 := hcell 7 _ rfl
              have HX := Lib.hid (And.intro hnm hkd)
              have HG := Lib.hid (drop_size hget)
              clear hcell hnm hkd hget hfo hPb h2
              go_wp2_with fail
              clear x0 x1 x2 x3 x4 x5 x6 x7
              refine (IH.out (by omega) B wr (fun k hk => Nat.lt_of_lt_of_le (HB.out k hk) hzr) d1 ks1 nv1 kv1 HX.out.1 HX.out.2 r hpos (by omega)).mono ?_
              rintro e w3 ⟨r', rfl, hq, hb3⟩
              have HQ := Lib.hid hq
              have hq1 := hq.1
              have hq2 := hq.2.1
              clear hq
              have hb4 : Below (W.heap.size + 1) W2 w3 := ⟨hb3.os.trans HW.out.1.os, hb3.tape.trans HW.out.1.tape, hb3.output.trans HW.out.1.output, Nat.le_trans HW.out.1.size hb3.size, fun k hk => (hb3.block k (Nat.lt_of_lt_of_le hk (HZ.out ▸ HW.out.1.size))).trans (HW.out.1.block k hk)⟩
              go_wp2
              go_roundg (L - (i + 1))
              case measure => omega
              case rel => exact ⟨i + 1, r', by omega, ⟨hq1, by omega, fun h => by have h1 := HQ.out.2.2 h; have h2 := HR.out.2.2 hpos; have h3 := HG.out; omega⟩, rfl, by simp, hb4⟩
        · have ti : decide (((i : Nat) : Int) < ((L : Nat) : Int)) = false := decide_eq_false (by omega)
          have hiL : ks.len = i := by have := HL.out; omega
          go_wp2
          go_ret
          exact ⟨_, rfl, ⟨hr1, hr2, fun h => by have h1 := HR.out.2.2 h; rw [← hiL, Fo.drop_len] at h1; simp only [Fo.size] at h1; omega⟩, HW.out.2⟩
    · go_enter Try.func25, Try.ntmps25
      go_wp2
      go_ret
      exact ⟨_, rfl, ⟨by omega, by omega, fun h => by omega⟩, (Below.refl _ _).alloc (Nat.le_refl _) _⟩
set_option maxRecDepth 100000 in
set_option maxHeartbeats 1000000 in
theorem great2_any (B : Nat → Prop) (W : World) (hB : ∀ k, B k → k < W.heap.size) (d : Dt) (ks : Fo) (nv kv : Value) (hn : NamesIn B W nv d.ns) (hk : KidsIn B W kv ks) (m : Int) (hm0 : 0 ≤ m) (hm1 : m ≤ 1000000) :
    Calls Try.prog 6 #[exV d nv kv, .int .i64 m] W fun e w' => ∃ r : Bool, e = .returned (.bool r) ∧ (r = false → ks.size < m) ∧ Below W.heap.size W w' := by
  have HN := Lib.hid hn
  have HK := Lib.hid hk
  have HB := Lib.hid hB
  clear hn hk hB
  unfold exV
  go_enter Try.func6, Try.ntmps6
  go_wp2_with fail
  generalize hW2 : W.alloc (.cells #[.int .u8 d.k, .int .u8 d.op, .int .i32 d.n, .string d.nm, nv, kv, .int .i64 d.line, .int .i64 d.col] 30) = W2
  have b2 : Below W.heap.size W W2 := by rw [← hW2]; exact (Below.refl _ _).alloc (Nat.le_refl _) _
  clear hW2
  have kp : ∀ b o v, B b → W.cell? ⟨b, o, none⟩ = some v → W2.cell? ⟨b, o, none⟩ = some v := fun b o v hb hc => (b2.cell (p := ⟨b, o, none⟩) (HB.out b hb)).trans hc
  refine (count2_any 200 (Nat.le_refl _) B W2 (fun k hk => Nat.lt_of_lt_of_le (HB.out k hk) b2.size) d ks nv kv (HN.out.keep kp) (HK.out.keep kp) m hm0 hm1).mono ?_
  rintro e w3 ⟨r, rfl, hq, hb3⟩
  have HQ := Lib.hid hq
  clear hq
  have hb4 := keeps_below (F := fun _ => False) b2 (Keeps.below hb3) b2.size (fun _ h => h.elim)
  go_wp2
  go_ret
  exact ⟨_, rfl, fun h => by have h1 := of_decide_eq_false h; have h2 := HQ.out.2.2 (by omega); omega, hb4⟩
end Tx
end Go.Proofs.Ytggoejghnlgigaa
