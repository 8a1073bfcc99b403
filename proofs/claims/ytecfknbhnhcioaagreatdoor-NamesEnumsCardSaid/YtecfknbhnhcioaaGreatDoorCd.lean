/- Package names: a node that calls itself: Check. -/
import Derived.Test.YtecfknbhnhcioaaGreatDoorCc
import Derived.Test.YtecfknbhnhcioaaGreatDoorSq
namespace Go.Proofs.YtecfknbhnhcioaaGreatDoor
open Go.ChangeShapes Go.WideShapes Go.ChangeAt Go.RowKit Go.Maps
namespace Tx
set_option linter.unusedVariables false
set_option linter.unusedSimpArgs false
set_option maxHeartbeats 1000000 in
theorem enums_none (cb : Nat) (W : World) : Calls Tryz.prog 22 #[.pointer (some ⟨cb, 0, none⟩), .slice none 0 0] W fun e w' => e = .returned .nilIface ∧ w' = W := by
  go_enter Tryz.func22, Tryz.ntmps22
  go_wp2_with fail
  go_loopg [11] 0 (fun z iv wz => iv = .int .i64 0 ∧ wz = W)
  case atStart => exact ⟨rfl, rfl⟩
  case round =>
    obtain ⟨rfl, rfl⟩ := hrel
    go_wp2
    go_ret
    exact ⟨rfl, rfl⟩
theorem sets4 (W : World) (o p : Obj) : SetAt (W.heap.size + 1 + 1 + 1) [] (((((W.alloc o).alloc (.map #[] 0)).alloc (.map #[] 0)).alloc (.map #[] 0)).alloc p) := by
  have h2 := set_made (((W.alloc o).alloc (.map #[] 0)).alloc (.map #[] 0))
  rw [show (((W.alloc o).alloc (.map #[] 0)).alloc (.map #[] 0)).heap.size = W.heap.size + 1 + 1 + 1 by simp] at h2
  exact World.ownsMap.alloc h2 _
set_option maxRecDepth 100000 in
set_option maxHeartbeats 4000000 in
theorem check_self (nb ob qb lb : Nat) (f s : ByteArray) (hf : f.size ≤ maxLen) (hs : s.size ≤ maxLen) (W : World) (hn : Nd nb ob qb lb f s W) :
    Calls Tryz.prog 8 #[.agg #[.slice none 0 0, .slice (some ⟨nb, 0, none⟩) 1 1]] W fun e w' => ∃ b, e = .returned (.iface 98 (.pointer (some ⟨b, 0, none⟩))) ∧ IsErr w' b 6 1 6 ∧ Below W.heap.size W w' := by
  have hmk := mkm_set
  have hw0 : IntKind.i64.wrap 0 = 0 := rfl
  have hw1 : IntKind.i64.wrap 1 = 1 := rfl
  have hlt := hn.below
  have HN := Lib.hid hn
  clear hn
  go_enter Tryz.func8, Tryz.ntmps8
  go_wp2_with fail
  generalize hW2 : (((((W.alloc _).alloc _).alloc _).alloc _).alloc _) = W2
  have hb : Below W.heap.size W W2 := by rw [← hW2]; exact (((((Below.refl _ _).alloc (Nat.le_refl _) _).alloc (by simp) _).alloc (by simp; omega) _).alloc (by simp; omega) _).alloc (by simp; omega) _
  have hz : W2.heap.size = W.heap.size + 5 := by rw [← hW2]; simp
  have x0 : W2.cell? ⟨W.heap.size, 0, none⟩ = some (.slice none 0 0) := by rw [← hW2]; simp [go_sem]
  have x1 : W2.cell? ⟨W.heap.size, 1, none⟩ = some (.slice (some ⟨nb, 0, none⟩) 1 1) := by rw [← hW2]; simp [go_sem]
  have y2 : W2.cell? ⟨W.heap.size + 1 + 1 + 1 + 1, 2, none⟩ = some (.map (some (W.heap.size + 1 + 1 + 1))) := by rw [← hW2]; simp [go_sem]
  have y3 : W2.cell? ⟨W.heap.size + 1 + 1 + 1 + 1, 3, none⟩ = some (.map none) := by rw [← hW2]; simp [go_sem]
  have y4 : W2.cell? ⟨W.heap.size + 1 + 1 + 1 + 1, 4, none⟩ = some (.slice none 0 0) := by rw [← hW2]; simp [go_sem]
  have y5 : W2.cell? ⟨W.heap.size + 1 + 1 + 1 + 1, 5, none⟩ = some (.slice none 0 0) := by rw [← hW2]; simp [go_sem]
  have g3 : W2.frozen? ⟨W.heap.size + 1 + 1 + 1 + 1, 3, none⟩ = false := by rw [← hW2]; simp [go_sem]
  have g4 : W2.frozen? ⟨W.heap.size + 1 + 1 + 1 + 1, 4, none⟩ = false := by rw [← hW2]; simp [go_sem]
  have g5 : W2.frozen? ⟨W.heap.size + 1 + 1 + 1 + 1, 5, none⟩ = false := by rw [← hW2]; simp [go_sem]
  have s1 : SetAt (W.heap.size + 1 + 1 + 1) [] W2 := by rw [← hW2]; exact sets4 W _ _
  have hn2 := HN.out.keep (Below.toKeeps hb) (fun _ _ => id)
  clear hW2 hmk HN
  obtain ⟨cb, hcb⟩ : ∃ cb, cb = W.heap.size + 1 + 1 + 1 + 1 := ⟨_, rfl⟩
  obtain ⟨nm, hnm⟩ : ∃ nm, nm = W.heap.size + 1 + 1 + 1 := ⟨_, rfl⟩
  rw [← hcb, ← hnm] at y2
  rw [← hcb] at y3 y4 y5 g3 g4 g5 ⊢
  rw [← hnm] at s1
  have hcA : W.heap.size + 4 ≤ cb := by omega
  have hcB : cb < W.heap.size + 5 := by omega
  have hmA : W.heap.size + 3 ≤ nm := by omega
  have hmB : nm < cb := by omega
  clear hcb hnm
  have HF := Lib.hid (And.intro (Below.toKeeps hb) (And.intro hn2 (And.intro s1 (And.intro y3 (And.intro y4 (And.intro y5 (And.intro g3 (And.intro g4 g5))))))))
  clear hb hn2 s1 y3 y4 y5 g3 g4 g5
  refine (enums_none cb W2).mono ?_
  rintro e w3 ⟨rfl, rfl⟩
  go_wp2_with fail
  go_loopg [23] 1 (fun z iv wz => (z = 1 ∧ iv = .int .i64 0 ∧ wz = w3) ∨ (z = 0 ∧ iv = .int .i64 1 ∧ SetAt nm [f] wz ∧ Keeps (fun k => k = nm) w3 wz))
  case atStart => exact .inl ⟨rfl, rfl, rfl⟩
  case round =>
    rcases hrel with ⟨hz1, rfl, rfl⟩ | ⟨hz1, rfl, hp, hk⟩
    · obtain ⟨n0, n1, n2, n3, n4, n5, n6⟩ : wr.cell? ⟨nb, 0, none⟩ = some (.string f) ∧ wr.cell? ⟨nb, 1, none⟩ = some (.slice none 0 0) ∧ wr.cell? ⟨nb, 2, none⟩ = some (.slice (some ⟨ob, 0, none⟩) 1 1) ∧ wr.cell? ⟨nb, 3, none⟩ = some (.slice none 0 0) ∧ wr.cell? ⟨nb, 4, none⟩ = some (.slice (some ⟨qb, 0, none⟩) 1 1) ∧ wr.cell? ⟨nb, 5, none⟩ = some (.int .i64 1) ∧ wr.cell? ⟨nb, 6, none⟩ = some (.int .i64 6) := by
        obtain ⟨_, hn, _⟩ := HF.out
        exact ⟨hn.n0, hn.n1, hn.n2, hn.n3, hn.n4, hn.n5, hn.n6⟩
      have y2A := cellA y2
      go_wp2_with fail
      generalize hW4 : World.alloc wr _ = W4
      have k4 : Keeps (fun _ => False) wr W4 := by rw [← hW4]; exact (Keeps.refl _ _).alloc _
      have hs4 : SetAt nm [] W4 := HF.out.2.2.1.keepB k4 id
      have K4 := Lib.hid k4
      clear hW4 k4 n0 n1 n2 n3 n4 n5 n6 y2A
      refine (setAdd_new nm [] f hf (by simp) W4 hs4 rfl).mono ?_
      rintro e w5 ⟨rfl, hs5, hk5⟩
      have H5 := Lib.hid (And.intro (show SetAt nm [f] w5 from hs5) ((K4.out.mono (T := fun k => k = nm) fun _ _ h => h.elim).trans hk5))
      clear hs4 hs5 hk5 K4
      go_wp2_with fail
      go_roundg 0
      case measure => omega
      case rel => exact .inr ⟨rfl, rfl, H5.out.1, H5.out.2⟩
    · obtain ⟨kb, hn, s1, y3, y4, y5, g3, g4, g5⟩ := HF.out
      have hnb : ∀ j, Nk nb ob qb lb j → ¬ j = nm := fun j hj e => by have := hlt j hj; omega
      have lcb : cb < w3.heap.size := by omega
      have hcn : cb ≠ nm := by omega
      have fr : ∀ o, wr.frozen? ⟨cb, o, none⟩ = w3.frozen? ⟨cb, o, none⟩ := fun o => World.frozen?_of_block (a := ⟨cb, o, none⟩) (hk.block cb lcb hcn)
      have HNC := Lib.hid (node_call nm cb nb ob qb lb f s hf hs wr (hn.keep hk hnb) (hk.cell y2 hcn) hp (hk.cell y3 hcn) (by rw [fr, g3]) (hk.cell y4 hcn) (by rw [fr, g4]) (hk.cell y5 hcn) (by rw [fr, g5]) hcn (fun hj => by have := hlt _ hj; omega))
      have x0' := hk.cell x0 (by omega)
      have x1' := hk.cell x1 (by omega)
      have zk := hk.size
      have HK := Lib.hid (And.intro (show Keeps (fun _ => False) W wr from kb.own (hk.mono fun k _ e => .inr (by omega))) (hn.keep hk hnb))
      clear kb hn s1 y2 y3 y4 y5 g3 g4 g5 fr hp hk HF x0 x1
      go_wp2_with fail
      go_loopg [40] 1 (fun z iv wz => (z = 1 ∧ iv = .int .i64 0 ∧ wz = wr) ∨ (z = 0 ∧ iv = .int .i64 1 ∧ wz.cell? ⟨W.heap.size, 0, none⟩ = some (.slice none 0 0) ∧ wz.cell? ⟨W.heap.size, 1, none⟩ = some (.slice (some ⟨nb, 0, none⟩) 1 1) ∧ Keeps (fun _ => False) W wz ∧ Nd nb ob qb lb f s wz))
      case atStart => exact .inl ⟨rfl, rfl, rfl⟩
      case round =>
        rcases hrel with ⟨hz2, rfl, rfl⟩ | ⟨hz2, rfl, x0, x1, hk, hn⟩
        · go_wp2_with fail
          refine (HNC.out).mono ?_
          rintro e w5 ⟨rfl, hk5⟩
          have u0 := hk5.cell x0' (by omega)
          have u1 := hk5.cell x1' (by omega)
          have H5 := Lib.hid (And.intro u0 (And.intro u1 (And.intro (show Keeps (fun _ => False) W w5 from HK.out.1.own (hk5.mono fun k _ e => .inr (by omega))) (HK.out.2.keep hk5 (fun j hj e => by have := hlt j hj; omega)))))
          clear u0 u1 hk5 HK HNC x0' x1'
          go_wp2_with fail
          go_roundg 0
          case measure => omega
          case rel => exact .inr ⟨rfl, rfl, H5.out.1, H5.out.2.1, H5.out.2.2.1, H5.out.2.2.2⟩
        · clear HNC HK x0' x1'
          have HZ := Lib.hid (And.intro hk hn)
          have lW : W.heap.size < wr.heap.size := World.block_lt_of_cell? _ ⟨W.heap.size, 0, none⟩ x0
          clear hk hn
          go_wp2_with fail
          refine (calls_one nb ob qb lb f s hf wr HZ.out.2).mono ?_
          rintro e w6 ⟨lt, rfl, ⟨b6, c6, l0, l1⟩, hb6⟩
          have k6 := Below.toKeeps hb6
          have x16 := k6.cell x1 id
          have hn6 := HZ.out.2.keep k6 (fun _ _ => id)
          have H6 := Lib.hid (And.intro (HZ.out.1.trans k6) hn6)
          have l00 := l0
          have l11 := l1
          clear hb6 k6 x0 x1 HZ hn6 l0 l1
          go_wp2_with fail
          refine (looped_one lt 0 1 b6 0 c6 w6 l00 l11).mono ?_
          rintro e w7 ⟨rfl, hb7⟩
          have k7 := Below.toKeeps hb7
          have x17 := k7.cell x16 id
          have n5 := k7.cell H6.out.2.n5 id
          have n6 := k7.cell H6.out.2.n6 id
          have H7 := Lib.hid (H6.out.1.trans k7)
          clear hb7 k7 x16 H6 l00 l11
          go_wp2_with fail
          refine (new_any 6 1 6 (by decide) w7).mono ?_
          rintro e w8 ⟨b, rfl, he, hb8, hbel⟩
          have H8 := Lib.hid (And.intro he (H7.out.trans (Below.toKeeps hbel)))
          clear he hbel x17 n5 n6
          go_wp2
          go_ret
          exact ⟨b, rfl, H8.out.1, Keeps.toBel H8.out.2⟩
end Tx
end Go.Proofs.YtecfknbhnhcioaaGreatDoor
