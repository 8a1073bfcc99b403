/- Package names: a node that is one call is checked. -/
import Derived.Test.YtecfknbhnhcioaaGreatDoorMh
namespace Go.Proofs.YtecfknbhnhcioaaGreatDoor
open Go.ChangeShapes Go.WideShapes Go.ChangeAt Go.RowKit Go.Maps
namespace Tx
set_option linter.unusedVariables false
set_option linter.unusedSimpArgs false
theorem mkm_vars (w : World) : (Instr.makeMap 74 none).run Tryz.prog w = .ok (.map (some w.heap.size)) (w.alloc (.map #[] 0)) := by kernel_rfl
theorem vars_made (w : World) : VarsAt w.heap.size [] (w.alloc (.map #[] 0)) := World.ownsMap_made w _ _ _
/-- A node of one call: it lies at nb, what goes out at ob, its equation at qb, the name that it defines at lb. -/
structure Nd (nb ob qb lb : Nat) (f s : ByteArray) (w : World) : Prop where
  n0 : w.cell? ⟨nb, 0, none⟩ = some (.string f)
  n1 : w.cell? ⟨nb, 1, none⟩ = some (.slice none 0 0)
  n2 : w.cell? ⟨nb, 2, none⟩ = some (.slice (some ⟨ob, 0, none⟩) 1 1)
  n3 : w.cell? ⟨nb, 3, none⟩ = some (.slice none 0 0)
  n4 : w.cell? ⟨nb, 4, none⟩ = some (.slice (some ⟨qb, 0, none⟩) 1 1)
  n5 : w.cell? ⟨nb, 5, none⟩ = some (.int .i64 1)
  n6 : w.cell? ⟨nb, 6, none⟩ = some (.int .i64 6)
  vr : Vr ob s w
  q0 : w.cell? ⟨qb, 0, none⟩ = some (.int .u8 2)
  q1 : w.cell? ⟨qb, 1, none⟩ = some (.slice (some ⟨lb, 0, none⟩) 1 1)
  q2 : w.cell? ⟨qb, 2, none⟩ = some (.string f)
  q3 : w.cell? ⟨qb, 3, none⟩ = some (.slice none 0 0)
  q4 : w.cell? ⟨qb, 4, none⟩ = some (.bool false)
  hl : w.cell? ⟨lb, 0, none⟩ = some (.string s)
/-- The blocks of a node. -/
def Nk (nb ob qb lb : Nat) (k : Nat) : Prop := k = nb ∨ k = ob ∨ k = qb ∨ k = lb
theorem Nd.keep {nb ob qb lb : Nat} {f s : ByteArray} {S : Nat → Prop} {w w' : World} (h : Nd nb ob qb lb f s w) (k : Keeps S w w') (hS : ∀ j, Nk nb ob qb lb j → ¬ S j) : Nd nb ob qb lb f s w' := by
  have h1 := hS nb (.inl rfl)
  have h2 := hS ob (.inr (.inl rfl))
  have h3 := hS qb (.inr (.inr (.inl rfl)))
  have h4 := hS lb (.inr (.inr (.inr rfl)))
  exact ⟨k.cell h.n0 h1, k.cell h.n1 h1, k.cell h.n2 h1, k.cell h.n3 h1, k.cell h.n4 h1, k.cell h.n5 h1, k.cell h.n6 h1, h.vr.keep k h2, k.cell h.q0 h3, k.cell h.q1 h3, k.cell h.q2 h3, k.cell h.q3 h3, k.cell h.q4 h3, k.cell h.hl h4⟩
theorem Nd.below {nb ob qb lb : Nat} {f s : ByteArray} {w : World} (h : Nd nb ob qb lb f s w) : ∀ j, Nk nb ob qb lb j → j < w.heap.size := by
  rintro j (rfl | rfl | rfl | rfl)
  · exact World.block_lt_of_cell? _ _ h.n0
  · exact World.block_lt_of_cell? _ _ h.vr.a0
  · exact World.block_lt_of_cell? _ _ h.q0
  · exact World.block_lt_of_cell? _ _ h.hl
/-- The checker ahead of a block. -/
structure Ch (cb nm vm : Nat) (w : World) : Prop where
  c2 : w.cell? ⟨cb, 2, none⟩ = some (.map (some nm))
  c3 : w.cell? ⟨cb, 3, none⟩ = some (.map (some vm))
  c4 : w.cell? ⟨cb, 4, none⟩ = some (.slice none 0 0)
  c5 : w.cell? ⟨cb, 5, none⟩ = some (.slice none 0 0)
  f4 : w.frozen? ⟨cb, 4, none⟩ = false
  f5 : w.frozen? ⟨cb, 5, none⟩ = false
theorem Ch.keep {cb nm vm : Nat} {S : Nat → Prop} {w w' : World} (h : Ch cb nm vm w) (k : Keeps S w w') (hS : ¬ S cb) : Ch cb nm vm w' := by
  have lc : cb < w.heap.size := World.block_lt_of_cell? _ _ h.c2
  exact ⟨k.cell h.c2 hS, k.cell h.c3 hS, k.cell h.c4 hS, k.cell h.c5 hS, (World.frozen?_of_block (a := ⟨cb, 4, none⟩) (k.block cb lc hS)).trans h.f4, (World.frozen?_of_block (a := ⟨cb, 5, none⟩) (k.block cb lc hS)).trans h.f5⟩
set_option maxRecDepth 100000 in
set_option maxHeartbeats 4000000 in
theorem node_call (nm cb nb ob qb lb : Nat) (f s : ByteArray) (hf : f.size ≤ maxLen) (hs : s.size ≤ maxLen) (W : World) (hn : Nd nb ob qb lb f s W) (h2 : W.cell? ⟨cb, 2, none⟩ = some (.map (some nm))) (hnm : SetAt nm [f] W) (h3 : W.cell? ⟨cb, 3, none⟩ = some (.map none)) (f3 : W.frozen? ⟨cb, 3, none⟩ = false)
    (h4 : W.cell? ⟨cb, 4, none⟩ = some (.slice none 0 0)) (f4 : W.frozen? ⟨cb, 4, none⟩ = false) (h5 : W.cell? ⟨cb, 5, none⟩ = some (.slice none 0 0)) (f5 : W.frozen? ⟨cb, 5, none⟩ = false) (hcn : cb ≠ nm) (hcN : ¬ Nk nb ob qb lb cb) :
    Calls Tryz.prog 25 #[.pointer (some ⟨cb, 0, none⟩), .pointer (some ⟨nb, 0, none⟩)] W fun e w' => e = .returned .nilIface ∧ Keeps (fun k => k = cb) W w' := by
  have hmk := mkm_vars
  have hw0 : IntKind.i64.wrap 0 = 0 := rfl
  have hw1 : IntKind.i64.wrap 1 = 1 := rfl
  have lcb : cb < W.heap.size := World.block_lt_of_cell? _ _ h2
  have hlt := hn.below
  have lnb := hlt nb (.inl rfl)
  have n1 := hn.n1
  have n2 := hn.n2
  have ncb : nb ≠ cb := fun e => hcN (e ▸ .inl rfl)
  have HN := Lib.hid (And.intro hn hnm)
  clear hn hnm
  go_enter Tryz.func25, Tryz.ntmps25
  have x1 : ∀ v x, ((W.setCell ⟨cb, 3, none⟩ v).alloc x).cell? ⟨nb, 1, none⟩ = some (.slice none 0 0) := fun v x => cellA (((Keeps.refl (fun k => k = cb) W).setCell (p := ⟨cb, 3, none⟩) rfl _).cell n1 ncb) _
  go_wp2_with fail
  generalize hW1 : World.alloc (World.setCell _ _ _) _ = W1
  have k1 : Keeps (fun k => k = cb) W W1 := by rw [← hW1]; exact ((Keeps.refl (fun k => k = cb) W).setCell (p := ⟨cb, 3, none⟩) rfl _).alloc _
  have z1 : W1.heap.size = W.heap.size + 1 := by rw [← hW1]; simp
  have hv1 : VarsAt W.heap.size [] W1 := by
    rw [← hW1]
    have := vars_made (W.setCell ⟨cb, 3, none⟩ (.map (some W.heap.size)))
    rwa [show (W.setCell ⟨cb, 3, none⟩ (.map (some W.heap.size))).heap.size = W.heap.size by simp] at this
  have y3 : W1.cell? ⟨cb, 3, none⟩ = some (.map (some W.heap.size)) := by rw [← hW1]; exact cellA (by simp [go_sem, h3]) _
  have y2 : W1.cell? ⟨cb, 2, none⟩ = some (.map (some nm)) := by rw [← hW1]; exact cellA (by simp [go_sem, h2]) _
  have y4 : W1.cell? ⟨cb, 4, none⟩ = some (.slice none 0 0) := by rw [← hW1]; exact cellA (by simp [go_sem, h4]) _
  have y5 : W1.cell? ⟨cb, 5, none⟩ = some (.slice none 0 0) := by rw [← hW1]; exact cellA (by simp [go_sem, h5]) _
  have g4 : W1.frozen? ⟨cb, 4, none⟩ = false := by rw [← hW1]; exact frozenA (by simp; omega) (by simp [go_sem, f4]) _
  have g5 : W1.frozen? ⟨cb, 5, none⟩ = false := by rw [← hW1]; exact frozenA (by simp; omega) (by simp [go_sem, f5]) _
  have hn1 : Nd nb ob qb lb f s W1 := HN.out.1.keep k1 (fun j hj e => hcN (e ▸ hj))
  have hm1 : SetAt nm [f] W1 := HN.out.2.keepB k1 (Ne.symm hcn)
  have H1 := Lib.hid (And.intro k1 (And.intro hv1 (And.intro hn1 hm1)))
  clear hW1 k1 hv1 hm1 h2 h3 f3 h4 f4 h5 f5 n1 n2 x1 hmk
  have m2 := hn1.n2
  have HC := Lib.hid (show Ch cb nm W.heap.size W1 from ⟨y2, y3, y4, y5, g4, g5⟩)
  clear y2 y3 y4 y5 g4 g5 hn1
  go_loopg [20] 0 (fun z iv wz => iv = .int .i64 0 ∧ wz = W1)
  case atStart => exact ⟨rfl, rfl⟩
  case round =>
    obtain ⟨rfl, rfl⟩ := hrel
    go_wp2_with fail
    go_loopg [40] 1 (fun z iv wz => (z = 1 ∧ iv = .int .i64 0 ∧ wz = wr) ∨ (z = 0 ∧ iv = .int .i64 1 ∧ VarsAt W.heap.size [s] wz ∧ Keeps (fun k => k = cb) W wz ∧ Nd nb ob qb lb f s wz ∧ SetAt nm [f] wz ∧ Ch cb nm W.heap.size wz))
    case atStart => exact .inl ⟨rfl, rfl, rfl⟩
    case round =>
      rcases hrel with ⟨hz, rfl, rfl⟩ | ⟨hz, rfl, hv, hk, hn, hm, hc⟩
      · go_wp2_with fail
        have vr := H1.out.2.2.1.vr
        refine (declare_first cb W.heap.size ob s hs wr HC.out.c3 H1.out.2.1 vr.a0 vr.a1 vr.a2 vr.a4).mono ?_
        rintro e w2 ⟨rfl, hv2, hk2⟩
        have hnW : ∀ j, Nk nb ob qb lb j → ¬ j = W.heap.size := fun j hj e => by have := hlt j hj; omega
        have lnm := HN.out.2.lt
        have H2 := Lib.hid (And.intro hv2 (And.intro (H1.out.1.own (hk2.mono (T := fun k => k = cb ∨ W.heap.size ≤ k) fun k _ e => .inr (by omega))) (And.intro (H1.out.2.2.1.keep hk2 hnW) (And.intro (H1.out.2.2.2.keepB hk2 (by omega)) (HC.out.keep hk2 (by omega))))))
        clear hv2 hk2 vr m2 H1 HC
        go_wp2_with fail
        go_roundg 0
        case measure => omega
        case rel => exact .inr ⟨rfl, rfl, H2.out.1, H2.out.2.1, H2.out.2.2.1, H2.out.2.2.2.1, H2.out.2.2.2.2⟩
      · clear H1 HC m2
        have lnm := HN.out.2.lt
        have hrd : Rd cb nm W.heap.size nb 3 qb lb f s wr := ⟨⟨_, _, hn.n3⟩, hn.q0, ⟨_, hn.q1⟩, hn.q2, ⟨_, _, hn.q3⟩, hn.q4, hn.hl, hm, hv⟩
        have hcP : ¬ Pd nm W.heap.size nb qb lb cb := by
          rintro (e | e | e | e | e)
          · exact hcn e
          · omega
          · exact hcN (.inl e)
          · exact hcN (.inr (.inr (.inl e)))
          · exact hcN (.inr (.inr (.inr e)))
        have n2 := hn.n2
        have HB := Lib.hid (block_call nm W.heap.size cb nb 3 qb lb 1 f s hf hs wr hrd hn.n4 hc.c2 hc.c3 hc.c4 hc.f4 hc.c5 hc.f5 hcP)
        have HZ := Lib.hid (And.intro hk (And.intro hn.vr n2))
        clear hv hk hn hm hc hrd n2
        go_wp2_with fail
        refine (HB.out).mono ?_
        rintro e w2 ⟨lx, cx, dm, rfl, xl, hd, hk2⟩
        have n2 := hk2.cell HZ.out.2.2 ncb
        have n2A := cellA n2
        have HV := Lib.hid (And.intro (HZ.out.2.1.keep hk2 (fun e => hcN (.inr (.inl e.symm)))) (And.intro hd (HZ.out.1.trans hk2)))
        clear hk2 hd xl n2
        go_wp2_with fail
        have kA : ∀ x, Keeps (fun _ => False) w2 (w2.alloc x) := fun x => (Keeps.refl _ _).alloc x
        refine (missing_one ob w2.heap.size dm 1 s hs _ (HV.out.1.keep (kA _) id) (by simp [go_sem]) (HV.out.2.1.keepB (kA _) id)).mono ?_
        rintro e w3 ⟨rfl, hb⟩
        have HF := Lib.hid (show Keeps (fun k => k = cb) W w3 from (HV.out.2.2.alloc _).trans (Keeps.below hb))
        clear hb n2A kA
        go_wp2
        go_ret
        exact ⟨rfl, HF.out⟩
end Tx
end Go.Proofs.YtecfknbhnhcioaaGreatDoor
