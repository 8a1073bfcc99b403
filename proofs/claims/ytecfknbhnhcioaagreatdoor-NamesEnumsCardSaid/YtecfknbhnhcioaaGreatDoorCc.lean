/- Package names: where the one node lies; what it calls. -/
import Derived.Test.YtecfknbhnhcioaaGreatDoorCb
namespace Go.Proofs.YtecfknbhnhcioaaGreatDoor
open Go.ChangeShapes Go.WideShapes Go.ChangeAt Go.RowKit Go.Maps
namespace Tx
set_option linter.unusedVariables false
set_option linter.unusedSimpArgs false
/-- The one name, at 0. -/
def Pl (f : ByteArray) : DataW Unit := (DataW.map []).put (kl f) (.lit (.int .i64 0))
def OneAt (mb : Nat) (f : ByteArray) (w : World) : Prop := w.ownsMap Tryz.prog 9 (plainElem Tryz.prog 3) mb 1 (Pl f)
theorem OneAt.keepB {mb : Nat} {f : ByteArray} {S : Nat → Prop} {w w' : World} (h : OneAt mb f w) (k : Keeps S w w') (hm : ¬ S mb) : OneAt mb f w' := by
  obtain ⟨es, clock, hb, r⟩ := h
  exact ⟨es, clock, (k.block mb (Array.getElem?_eq_some_iff.1 hb).1 hm).trans hb, r⟩
theorem ints_made (w : World) : (w.alloc (.map #[] 0)).ownsMap Tryz.prog 9 (plainElem (H := Unit) Tryz.prog 3) w.heap.size 0 (.map []) := World.ownsMap_made w _ _ _
theorem wf0 : (Lit.int .i64 0).wf = true := rfl
theorem zeroInt (w : World) : (zeroValue 3).run Tryz.prog w = .ok (.int .i64 0) w := by kernel_rfl
theorem run_look_pl {w : World} {mb : Nat} {f : ByteArray} (h : OneAt mb f w) (hf : f.size ≤ maxLen) :
    (Instr.lookup 104 (.map (some mb)) (.string f) true).run Tryz.prog w = .ok (.tuple #[.int .i64 0, .bool true]) w := by
  obtain ⟨v, ps, hrun, hv⟩ := World.ownsMap.look_ok h lawStr Tryz.underlying104 (zeroInt w) (plainElem_int Tryz.underlying3 wf0) (kl_key f hf)
  have e1 : (Pl f).atKey (kl f) (.lit (.int .i64 0)) = .lit (.int .i64 0) := Maps.atKey_put_same Maps.isMap_empty (show WideAt.IsKeyLit (kl f) from trivial) _ _
  have e2 : Maps.has (Pl f) (kl f) = true := Maps.has_put_same Maps.isMap_empty (show WideAt.IsKeyLit (kl f) from trivial) _
  rw [e1] at hv
  rw [e2] at hrun
  obtain ⟨c, rfl, hc, _⟩ := plainElem_int_inv Tryz.underlying3 hv
  have : c = 0 := by
    have := congrArg Prod.fst hc
    simpa using this.symm
  subst this
  exact hrun
set_option maxRecDepth 100000 in
set_option maxHeartbeats 4000000 in
theorem places_one (nb ob qb lb : Nat) (f s : ByteArray) (hf : f.size ≤ maxLen) (W : World) (hn : Nd nb ob qb lb f s W) :
    Calls Tryz.prog 41 #[.agg #[.slice none 0 0, .slice (some ⟨nb, 0, none⟩) 1 1]] W fun e w' => ∃ mb, e = .returned (.map (some mb)) ∧ OneAt mb f w' ∧ Below W.heap.size W w' := by
  have hmk := mkm_ints
  have hw0 : IntKind.i64.wrap 0 = 0 := rfl
  have hw1 : IntKind.i64.wrap 1 = 1 := rfl
  have hkey := kl_key f hf
  have HN := Lib.hid hn
  clear hn
  go_enter Tryz.func41, Tryz.ntmps41
  go_wp2_with fail
  generalize hW1 : World.alloc (World.alloc _ _) _ = W1
  have kk : Keeps (fun _ => False) W W1 := by rw [← hW1]; exact ((Keeps.refl _ _).alloc _).alloc _
  have z1 : W1.heap.size = W.heap.size + 2 := by rw [← hW1]; simp
  have hm1 : W1.ownsMap Tryz.prog 9 (plainElem (H := Unit) Tryz.prog 3) (W.heap.size + 1) 0 (.map []) := by
    rw [← hW1]
    have := ints_made (W.alloc (.cells #[.slice none 0 0, .slice (some ⟨nb, 0, none⟩) 1 1] 28))
    rwa [show (W.alloc (.cells #[.slice none 0 0, .slice (some ⟨nb, 0, none⟩) 1 1] 28)).heap.size = W.heap.size + 1 by simp] at this
  have H1 := Lib.hid (And.intro kk (And.intro hm1 (HN.out.keep kk (fun _ _ => id))))
  clear hW1 kk hm1 hmk HN
  go_loopg [10] 1 (fun z iv wz => (z = 1 ∧ iv = .int .i64 0 ∧ wz = W1) ∨ (z = 0 ∧ iv = .int .i64 1 ∧ OneAt (W.heap.size + 1) f wz ∧ Below W.heap.size W wz))
  case atStart => exact .inl ⟨rfl, rfl, rfl⟩
  case round =>
    rcases hrel with ⟨hz, rfl, rfl⟩ | ⟨hz, rfl, hp, hb⟩
    · obtain ⟨n0, n1, n2, n3, n4, n5, n6⟩ : wr.cell? ⟨nb, 0, none⟩ = some (.string f) ∧ wr.cell? ⟨nb, 1, none⟩ = some (.slice none 0 0) ∧ wr.cell? ⟨nb, 2, none⟩ = some (.slice (some ⟨ob, 0, none⟩) 1 1) ∧ wr.cell? ⟨nb, 3, none⟩ = some (.slice none 0 0) ∧ wr.cell? ⟨nb, 4, none⟩ = some (.slice (some ⟨qb, 0, none⟩) 1 1) ∧ wr.cell? ⟨nb, 5, none⟩ = some (.int .i64 1) ∧ wr.cell? ⟨nb, 6, none⟩ = some (.int .i64 6) := by
        obtain ⟨_, _, hn⟩ := H1.out
        exact ⟨hn.n0, hn.n1, hn.n2, hn.n3, hn.n4, hn.n5, hn.n6⟩
      go_wp2_with fail
      generalize hW3 : World.alloc wr _ = W3
      have k3 : Keeps (fun _ => False) wr W3 := by rw [← hW3]; exact (Keeps.refl _ _).alloc _
      have hm3 : W3.ownsMap Tryz.prog 9 (plainElem (H := Unit) Tryz.prog 3) (W.heap.size + 1) 0 (.map []) := by rw [← hW3]; exact World.ownsMap.alloc H1.out.2.1 _
      clear hW3 n0 n1 n2 n3 n4 n5 n6
      obtain ⟨w4, hrun, hown4, hturn4⟩ := World.ownsMap.store hm3 lawStr Tryz.underlying104 (show 0 < maxLen by unfold maxLen; decide) hkey (plainElem_int Tryz.underlying3 wf0)
      have k4 : Keeps (fun k => k = W.heap.size + 1) W3 w4 := (Keeps.grownB hturn4.grown).mono fun k _ e => (Option.some.inj e).symm
      have kz : Keeps (fun _ => False) W w4 := (H1.out.1.trans k3).own (k4.mono fun k _ e => .inr (by omega))
      have HZ := Lib.hid (And.intro (show OneAt (W.heap.size + 1) f w4 from hown4) (show Below W.heap.size W w4 from ⟨kz.os, kz.tape, kz.output, kz.size, fun k h => kz.block k h id⟩))
      clear hm3 k3 k4 kz hown4 hturn4 H1
      rw [hrun]
      clear hrun
      go_wp2_with fail
      go_roundg 0
      case measure => omega
      case rel => exact .inr ⟨rfl, rfl, HZ.out.1, HZ.out.2⟩
    · have HZ := Lib.hid (And.intro hp hb)
      clear hp hb H1
      go_wp2
      go_ret
      exact ⟨_, rfl, HZ.out.1, HZ.out.2⟩
theorem mk1_lists (w : World) : (Instr.makeSlice 85 (.int .i64 1) (.int .i64 1)).run Tryz.prog w = .ok (.slice (some ⟨w.heap.size, 0, none⟩) 1 1) (w.alloc (.cells #[.slice none 0 0] 109)) := by kernel_rfl
theorem infoIntC : (Tryz.prog.info? 3).map (fun i => (i.zero, i.size, i.bytes)) = some (some (Value.int .i64 0), 1, 8) := by kernel_rfl
/-- The one list: lt; it holds 0. -/
def LsAt (lt : Nat) (w : World) : Prop := ∃ b c, w.cell? ⟨lt, 0, none⟩ = some (.slice (some ⟨b, 0, none⟩) 1 c) ∧ w.cell? ⟨b, 0, none⟩ = some (.int .i64 0)
theorem Keeps.toBel {w w' : World} (k : Keeps (fun _ => False) w w') : Below w.heap.size w w' := ⟨k.os, k.tape, k.output, k.size, fun i h => k.block i h id⟩
theorem Below.toKeeps {w w' : World} (h : Below w.heap.size w w') : Keeps (fun _ => False) w w' := ⟨h.os, h.tape, h.output, h.size, fun i hi _ => h.block i hi⟩
set_option maxRecDepth 100000 in
set_option maxHeartbeats 4000000 in
theorem calls_one (nb ob qb lb : Nat) (f s : ByteArray) (hf : f.size ≤ maxLen) (W : World) (hn : Nd nb ob qb lb f s W) :
    Calls Tryz.prog 27 #[.agg #[.slice none 0 0, .slice (some ⟨nb, 0, none⟩) 1 1]] W fun e w' => ∃ lt, e = .returned (.slice (some ⟨lt, 0, none⟩) 1 1) ∧ LsAt lt w' ∧ Below W.heap.size W w' := by
  have hmk := mk1_lists
  have hw0 : IntKind.i64.wrap 0 = 0 := rfl
  have hw1 : IntKind.i64.wrap 1 = 1 := rfl
  have HN := Lib.hid hn
  clear hn
  go_enter Tryz.func27, Tryz.ntmps27
  go_wp2_with fail
  generalize hW1 : World.alloc W _ = W1
  have kk : Keeps (fun _ => False) W W1 := by rw [← hW1]; exact (Keeps.refl _ _).alloc _
  have z1 : W1.heap.size = W.heap.size + 1 := by rw [← hW1]; simp
  have p0 : W1.cell? ⟨W.heap.size, 0, none⟩ = some (.slice none 0 0) := by rw [← hW1]; simp [go_sem]
  have p1 : W1.cell? ⟨W.heap.size, 1, none⟩ = some (.slice (some ⟨nb, 0, none⟩) 1 1) := by rw [← hW1]; simp [go_sem]
  clear hW1
  refine (places_one nb ob qb lb f s hf W1 (HN.out.keep kk (fun _ _ => id))).mono ?_
  rintro e w2 ⟨mb, rfl, hp, hb2⟩
  have k2 := Below.toKeeps hb2
  have p12 := k2.cell p1 id
  have p12A := cellA p12
  have z2 := k2.size
  have H2 := Lib.hid (And.intro (kk.trans k2) (And.intro hp (HN.out.keep (kk.trans k2) (fun _ _ => id))))
  clear kk p0 p1 hp hb2 k2
  go_wp2_with fail
  generalize hW3 : World.alloc w2 _ = W3
  have k3 : Keeps (fun _ => False) w2 W3 := by rw [← hW3]; exact (Keeps.refl _ _).alloc _
  have z3 : W3.heap.size = w2.heap.size + 1 := by rw [← hW3]; simp
  have l0 : W3.cell? ⟨w2.heap.size, 0, none⟩ = some (.slice none 0 0) := by rw [← hW3]; simp [go_sem]
  have fl : W3.frozen? ⟨w2.heap.size, 0, none⟩ = false := by rw [← hW3]; simp [go_sem]
  have H3 := Lib.hid (And.intro (H2.out.1.trans k3) (And.intro (H2.out.2.1.keepB k3 id) (And.intro (H2.out.2.2.keep k3 (fun _ _ => id)) (And.intro l0 fl))))
  clear hW3 k3 l0 fl H2 p12 p12A HN
  go_loopg [20] 1 (fun z iv wz => (z = 1 ∧ iv = .int .i64 0 ∧ wz = W3) ∨ (z = 0 ∧ iv = .int .i64 1 ∧ LsAt w2.heap.size wz ∧ Below W.heap.size W wz))
  case atStart => exact .inl ⟨rfl, rfl, rfl⟩
  case round =>
    rcases hrel with ⟨hz, rfl, rfl⟩ | ⟨hz, rfl, hp, hb⟩
    · obtain ⟨n0, n1, n2, n3, n4, n5, n6⟩ : wr.cell? ⟨nb, 0, none⟩ = some (.string f) ∧ wr.cell? ⟨nb, 1, none⟩ = some (.slice none 0 0) ∧ wr.cell? ⟨nb, 2, none⟩ = some (.slice (some ⟨ob, 0, none⟩) 1 1) ∧ wr.cell? ⟨nb, 3, none⟩ = some (.slice none 0 0) ∧ wr.cell? ⟨nb, 4, none⟩ = some (.slice (some ⟨qb, 0, none⟩) 1 1) ∧ wr.cell? ⟨nb, 5, none⟩ = some (.int .i64 1) ∧ wr.cell? ⟨nb, 6, none⟩ = some (.int .i64 6) := by
        obtain ⟨_, _, hn, _⟩ := H3.out
        exact ⟨hn.n0, hn.n1, hn.n2, hn.n3, hn.n4, hn.n5, hn.n6⟩
      go_wp2_with fail
      generalize hW4 : World.alloc wr _ = W4
      have k4 : Keeps (fun _ => False) wr W4 := by rw [← hW4]; exact (Keeps.refl _ _).alloc _
      have hn4 := H3.out.2.2.1.keep k4 (fun _ _ => id)
      clear hW4 n0 n1 n2 n3 n4 n5 n6
      refine (calls_call qb .nilIface f hf W4 hn4.q0 hn4.q2).mono ?_
      rintro e w5 ⟨r, cr, rfl, yr, hb5⟩
      have k5 := k4.trans (Below.toKeeps hb5)
      obtain ⟨kW, hpl, hnd, l0, fl⟩ := H3.out
      have l05 := k5.cell l0 id
      have fl5 : w5.frozen? ⟨w2.heap.size, 0, none⟩ = false := (World.frozen?_of_block (a := ⟨w2.heap.size, 0, none⟩) (k5.block w2.heap.size (by omega) id)).trans fl
      have z5 := k5.size
      have hlook := run_look_pl (hpl.keepB k5 id) hf
      have H5 := Lib.hid (And.intro (kW.trans k5) (And.intro l05 fl5))
      clear k4 hn4 hb5 k5 kW hpl hnd l0 fl l05 fl5 H3
      go_wp2_with fail
      go_loopg [29] 1 (fun z iv wz => (z = 1 ∧ iv = .int .i64 0 ∧ wz = w5) ∨ (z = 0 ∧ iv = .int .i64 1 ∧ LsAt w2.heap.size wz ∧ Below W.heap.size W wz))
      case atStart => exact .inl ⟨rfl, rfl, rfl⟩
      case round =>
        rcases hrel with ⟨hz, rfl, rfl⟩ | ⟨hz, rfl, hp, hb⟩
        · have l0 := H5.out.2.1
          go_upto_region 11 with (fail)
          obtain ⟨i0, hi0, hz0, hz1, hz2⟩ := info_parts infoIntC
          have hnil : wr.ownsRow wr.heap.size 3 1 (.slice none 0 0) 0 [] := World.ownsRow_nil _ _ _ _
          go_wp2_with (at_builtin; refine wpList_append_lies _ rfl (.tmp 45) (.tmp 47) 109 rfl wr.heap.size 3 i0 _ 1 8 Tryz.underlying109 hi0 hz0 hz1 hz2 rfl (by decide) (.slice none 0 0) 0 [] rfl (hnil.alloc _) ⟨wr.heap.size, 0, none⟩ 1 1 [.int .i64 0] rfl rfl ?c1 ?c2 (by decide) (by decide) (by decide) (by simp) (wr.heap.size + 1) (by simp) ?_; rotate_left 2; intro g cap w6 hown hgrow hat hlt; have k6 : Keeps (fun _ => False) wr w6 := ((Keeps.refl _ _).alloc _).trans ((Keeps.grownB hgrow).mono fun k _ e => by cases e); have d0 := k6.cell l0 id; have df : w6.frozen? ⟨w2.heap.size, 0, none⟩ = false := (World.frozen?_of_block (a := ⟨w2.heap.size, 0, none⟩) (k6.block w2.heap.size (by omega) id)).trans H5.out.2.2; have HG := Lib.hid (And.intro hown (And.intro k6 hat)); clear hown hgrow hat k6)
          all_goals first
            | exact World.news_of_block (cs := #[.int .i64 0]) (t := 3) (fr := (0, 0)) (heap_alloc_new wr _)
            | (simp [Value.oneCell']; done)
            | skip
          obtain ⟨hown, k6, hat⟩ := HG.out
          have hg := (hown.lt g rfl).1
          have c0 := hown.cellAt 0 (by simp)
          have hcell : (w6.setCell ⟨w2.heap.size, 0, none⟩ (.slice (some ⟨g, 0, none⟩) 1 cap)).cell? ⟨w2.heap.size, 0, none⟩ = some (.slice (some ⟨g, 0, none⟩) 1 cap) := by simp [go_sem, d0]
          have hls : LsAt w2.heap.size (w6.setCell ⟨w2.heap.size, 0, none⟩ (.slice (some ⟨g, 0, none⟩) 1 cap)) := ⟨g, cap, hcell, ((Keeps.refl (fun k => k = w2.heap.size) w6).setCell (p := ⟨w2.heap.size, 0, none⟩) rfl _).cell (show w6.cell? ⟨g, 0, none⟩ = some (.int .i64 0) by simpa using c0) (by omega)⟩
          have kz : Keeps (fun _ => False) W (w6.setCell ⟨w2.heap.size, 0, none⟩ (.slice (some ⟨g, 0, none⟩) 1 cap)) := (H5.out.1.trans k6).own (((Keeps.refl (fun k => k = w2.heap.size) w6).setCell (p := ⟨w2.heap.size, 0, none⟩) rfl _).mono fun k _ e => .inr (by omega))
          have HZ := Lib.hid (And.intro hls (Keeps.toBel kz))
          clear hown k6 hat c0 hcell hls kz d0 df HG H5 l0
          go_roundg 0
          case measure => omega
          case rel => exact .inr ⟨rfl, rfl, HZ.out.1, HZ.out.2⟩
        · have HZ := Lib.hid (And.intro hp hb)
          clear hp hb H5
          go_wp2_with fail
          go_roundg 0
          case measure => omega
          case rel => exact .inr ⟨rfl, rfl, HZ.out.1, HZ.out.2⟩
    · have HZ := Lib.hid (And.intro hp hb)
      clear hp hb H3
      go_wp2
      go_ret
      exact ⟨_, rfl, HZ.out.1, HZ.out.2⟩
end Tx
end Go.Proofs.YtecfknbhnhcioaaGreatDoor
