/- The reference's places of types: its loop. -/
import Derived.Test.YtecfknbhnhcioaaGreatDoorNp
namespace Go.Proofs.YtecfknbhnhcioaaGreatDoor
open Go.ChangeShapes Go.WideShapes Go.ChangeAt Go.RowKit Go.Maps
namespace Tx
set_option linter.unusedVariables false
set_option linter.unusedSimpArgs false
theorem en_v {B : Nat → Prop} {w : World} {b n c : Nat} {ts : List En} {i : Nat} {t : En} {u : Value} (h : EnRow B w (.slice (some ⟨b, 0, none⟩) n c) ts) (ht : ts[i]? = some t) (hc : w.cell? ⟨b, i * 4 + 1, none⟩ = some u) : t.v = u := by
  rcases h with ⟨_, rfl⟩ | ⟨b', cap, e, h1, h2, h3, h4⟩
  · simp at ht
  · cases e
    have := (h4 i t ht).1 1 _ rfl
    rw [this] at hc
    exact Option.some.inj hc
theorem own_shape {w : World} {base : Nat} {t : TypeId} {sz n : Nat} {v : Value} {xs : List Value} (h : w.ownsRow base t sz v n xs) : ∃ ao c, v = .slice ao n c := by
  rcases h.2 with ⟨hv, h0⟩ | ⟨g, cap, cur, hv, _⟩
  · exact ⟨none, 0, by rw [hv, h0]⟩
  · exact ⟨_, _, hv⟩
structure PlAt (W : World) (qb : Nat) (v : Value) (ps : List En) (i : Nat) (ev : Value) (w : World) : Prop where
  prog : ProgAt W (qb + 3) ps i ev w
  q0 : w.cell? ⟨qb, 0, none⟩ = some v
  q1 : w.cell? ⟨qb, 1, none⟩ = some (.slice none 0 0)
  cn : w.cell? ⟨qb + 2, 0, none⟩ = some (.int .i64 i)
  cf : w.frozen? ⟨qb + 2, 0, none⟩ = false
  r : w.heap[qb + 1]? = some (.cells #[.slice none 0 0, .slice none 0 0] 28 (0, 0))
  hq : W.heap.size = qb
theorem PlAt.keep {S : Nat → Prop} {W w w' : World} {qb i : Nat} {v ev : Value} {ps : List En} (h : PlAt W qb v ps i ev w) (hk : Keeps S w w') (hS : ∀ k, S k → qb + 4 ≤ k ∧ ev.ownBlock ≠ some k) : PlAt W qb v ps i ev w' :=
  have hn : ∀ k, k < qb + 4 → ¬ S k := fun k hk hs => by have := (hS k hs).1; omega
  have hq := h.hq
  ⟨h.prog.keep hk (fun k hs => ⟨by have := (hS k hs).1; omega, by have := (hS k hs).1; omega, (hS k hs).2⟩), hk.cell h.q0 (hn _ (by omega)), hk.cell h.q1 (hn _ (by omega)), hk.cell h.cn (hn _ (by omega)), (World.frozen?_of_block (hk.block (qb + 2) (World.block_lt_of_cell? w ⟨qb + 2, 0, none⟩ h.cn) (hn (qb + 2) (by omega)))).trans h.cf, (hk.block (qb + 1) (Array.getElem?_eq_some_iff.1 h.r).1 (hn (qb + 1) (by omega))).trans h.r, h.hq⟩
set_option maxRecDepth 100000 in
set_option maxHeartbeats 4000000 in
theorem placed_any (B : Nat → Prop) (W : World) (hBW : ∀ k, B k → k < W.heap.size) (v : Value) (ts : List En) (hr : EnRow B W v ts) (h1 : ts.length ≤ 1000) :
    Calls Tryz.prog 7 #[.agg #[v, .slice none 0 0]] W fun e w' => ∃ ev, e = .returned (.agg #[ev, .slice none 0 0]) ∧ Below W.heap.size W w' ∧ EnRow (fun k => (B k ∨ W.heap.size ≤ k) ∧ k < w'.heap.size) w' ev (place ts 0) := by
  obtain ⟨ao, ac, rfl⟩ := hr.form
  have HR := Lib.hid hr
  obtain ⟨N, hN⟩ : ∃ N, ts.length = N := ⟨_, rfl⟩
  have HN := Lib.hid hN
  rw [hN] at h1 ⊢
  clear hr hN
  go_enter Tryz.func7, Tryz.ntmps7
  go_wp2_with fail
  have h0 : PlAt W W.heap.size (.slice ao N ac) (place ts 0) 0 (.slice none 0 0) ((((W.alloc (.cells #[.slice ao N ac, .slice none 0 0] 28)).alloc (.cells #[.slice none 0 0, .slice none 0 0] 28)).alloc (.cells #[.int .i64 0] 68)).alloc (.cells #[.slice none 0 0, .slice none 0 0] 28)) := by
    refine ⟨⟨((((Below.refl _ _).alloc (Nat.le_refl _) _).alloc (by simp) _).alloc (by simp; omega) _).alloc (by simp; omega) _, by omega, by simp [go_sem], by simp [go_sem], by simp [go_sem], by simp [go_sem], ⟨rfl, .inl ⟨rfl, rfl⟩⟩⟩, by simp [go_sem], by simp [go_sem], by simp [go_sem], by simp [go_sem], ?_, rfl⟩
    have e : ((((W.alloc (.cells #[.slice ao N ac, .slice none 0 0] 28)).alloc (.cells #[.slice none 0 0, .slice none 0 0] 28)).alloc (.cells #[.int .i64 0] 68)).alloc (.cells #[.slice none 0 0, .slice none 0 0] 28)).heap = (((W.heap.push (.cells #[.slice ao N ac, .slice none 0 0] 28)).push (.cells #[.slice none 0 0, .slice none 0 0] 28)).push (.cells #[.int .i64 0] 68)).push (.cells #[.slice none 0 0, .slice none 0 0] 28) := rfl
    rw [e, Array.getElem?_push, if_neg (by simp only [Array.size_push]; omega), Array.getElem?_push, if_neg (by simp only [Array.size_push]; omega), Array.getElem?_push, if_pos (by simp only [Array.size_push])]
  generalize ((((W.alloc (.cells #[.slice ao N ac, .slice none 0 0] 28)).alloc (.cells #[.slice none 0 0, .slice none 0 0] 28)).alloc (.cells #[.int .i64 0] 68)).alloc (.cells #[.slice none 0 0, .slice none 0 0] 28)) = W4 at h0 ⊢
  have H0 := Lib.hid h0
  obtain ⟨qb, hqb⟩ : ∃ x, W.heap.size = x := ⟨_, rfl⟩
  rw [hqb] at H0 hBW ⊢
  rw [show qb + 1 + 1 + 1 = qb + 3 from rfl, show qb + 1 + 1 = qb + 2 from rfl]
  have HQB := Lib.hid hqb
  clear h0 hqb
  go_loopg [5] N (fun g iv wr => ∃ (i : Nat) (ev : Value), i + g = N ∧ iv = .int .i64 i ∧ PlAt W qb (.slice ao N ac) (place ts 0) i ev wr)
  case atStart => exact ⟨0, _, by omega, rfl, H0.out⟩
  case round =>
    clear H0
    obtain ⟨i, ev, hig, rfl, hp⟩ := hrel
    have HP := Lib.hid hp
    have q0 := hp.q0
    by_cases hi : i < N
    · obtain ⟨b, t, a1, c1, rfl, ht, hBb, x0, x1, x2, x3, hns⟩ := HR.out.at (i := i) (by have := HN.out; omega)
      have kp : ∀ o u, W.cell? ⟨b, o, none⟩ = some u → wr.cell? ⟨b, o, none⟩ = some u := fun o u hc => (hp.prog.below.cell (p := ⟨b, o, none⟩) (by rw [HQB.out]; exact hBW b hBb)).trans hc
      have y0 := kp _ _ x0
      have y1 := kp _ _ x1
      have y2 := kp _ _ x2
      have y3 := kp _ _ x3
      have HPT := Lib.hid (place_at ts 0 i t ht)
      obtain ⟨M, hM⟩ : ∃ M, t.cs.length = M := ⟨_, rfl⟩
      have HM := Lib.hid hM
      have hv : t.v = .slice a1 t.cs.length c1 := en_v HR.out ht x1
      have HV := Lib.hid hv
      rw [hM] at y1
      clear ht x0 x1 x2 x3 hns hM kp hp hv
      go_wp2_with fail
      generalize hW5 : wr.alloc (.cells #[.string t.nm, .slice a1 M c1, .int .i64 t.line, .int .i64 t.col] 32) = W5
      have k5 : Keeps (fun _ => False) wr W5 := by rw [← hW5]; exact (Keeps.refl _ _).alloc _
      have g5 : W5.heap[wr.heap.size]? = some (.cells #[.string t.nm, .slice a1 M c1, .int .i64 t.line, .int .i64 t.col] 32 (0, 0)) := by rw [← hW5]; exact alloc_at wr _
      have hp5 := HP.out.keep k5 (fun _ h => h.elim)
      have heb : qb + 4 ≤ wr.heap.size := by have := World.block_lt_of_cell? wr _ HP.out.prog.c0; show qb + 3 < wr.heap.size; exact this
      have hown : ev.ownBlock ≠ some wr.heap.size := fun e => by have := (HP.out.prog.own.lt _ e).2; omega
      generalize wr.heap.size = eb at g5 heb hown ⊢
      have HP5 := Lib.hid hp5
      clear hW5 k5 y0 y1 y2 y3 q0 hp5
      refine (next_any (qb + 2) i ⟨by omega, by omega⟩ W5 HP5.out.cn HP5.out.cf).mono ?_
      rintro e w6 ⟨rfl, hcn, hcf, hk6⟩
      have g6 : w6.heap[eb]? = _ := (hk6.block eb (Array.getElem?_eq_some_iff.1 g5).1 (by omega)).trans g5
      obtain ⟨z0, z1, z2, z3⟩ := cells4 g6
      have zf2 : w6.frozen? ⟨eb, 2, none⟩ = false := by simp [World.frozen?, g6]
      have zf3 : w6.frozen? ⟨eb, 3, none⟩ = false := by simp [World.frozen?, g6]
      go_upto_region 8 with (fail)
      have k6' : Keeps (fun k => k = qb + 2 ∨ k = eb) W5 w6 := hk6.mono (fun k _ h => Or.inl h)
      have k7 : Keeps (fun k => k = qb + 2 ∨ k = eb) W5 ((w6.setCell ⟨eb, 2, none⟩ (.int .i64 ((i : Int) + 1))).setCell ⟨eb, 3, none⟩ (.int .i64 1)) := (k6'.setCell (p := ⟨eb, 2, none⟩) (Or.inr rfl) _).setCell (p := ⟨eb, 3, none⟩) (Or.inr rfl) _
      have k67 : Keeps (fun k => k = eb) w6 ((w6.setCell ⟨eb, 2, none⟩ (.int .i64 ((i : Int) + 1))).setCell ⟨eb, 3, none⟩ (.int .i64 1)) := ((Keeps.refl (fun k => k = eb) w6).setCell (p := ⟨eb, 2, none⟩) rfl _).setCell (p := ⟨eb, 3, none⟩) rfl _
      have u0 : ((w6.setCell ⟨eb, 2, none⟩ (.int .i64 ((i : Int) + 1))).setCell ⟨eb, 3, none⟩ (.int .i64 1)).cell? ⟨eb, 0, none⟩ = some (.string t.nm) := by simp [go_sem, z0]
      have u1 : ((w6.setCell ⟨eb, 2, none⟩ (.int .i64 ((i : Int) + 1))).setCell ⟨eb, 3, none⟩ (.int .i64 1)).cell? ⟨eb, 1, none⟩ = some (.slice a1 M c1) := by simp [go_sem, z1]
      have u2 : ((w6.setCell ⟨eb, 2, none⟩ (.int .i64 ((i : Int) + 1))).setCell ⟨eb, 3, none⟩ (.int .i64 1)).cell? ⟨eb, 2, none⟩ = some (.int .i64 ((i : Int) + 1)) := by simp [go_sem, z2]
      have u3 : ((w6.setCell ⟨eb, 2, none⟩ (.int .i64 ((i : Int) + 1))).setCell ⟨eb, 3, none⟩ (.int .i64 1)).cell? ⟨eb, 3, none⟩ = some (.int .i64 1) := by simp [go_sem, z3]
      generalize (w6.setCell ⟨eb, 2, none⟩ (.int .i64 ((i : Int) + 1))).setCell ⟨eb, 3, none⟩ (.int .i64 1) = w7 at k7 k67 u0 u1 u2 u3 ⊢
      have hcn7 := k67.cell hcn (by omega)
      have hcf7 := (World.frozen?_of_block (k67.block (qb + 2) (World.block_lt_of_cell? w6 _ hcn) (by omega))).trans hcf
      have hpr7 : ProgAt W (qb + 3) (place ts 0) i ev w7 := HP5.out.prog.keep k7 (fun k hk => by
        have := HQB.out
        rcases hk with rfl | rfl
        · exact ⟨by omega, by omega, fun e => by have := (HP5.out.prog.own.lt _ e).1; omega⟩
        · exact ⟨by omega, by omega, hown⟩)
      have q70 := k7.cell HP5.out.q0 (by omega)
      have q71 := k7.cell HP5.out.q1 (by omega)
      have r7 := (k7.block (qb + 1) (Array.getElem?_eq_some_iff.1 HP5.out.r).1 (by omega)).trans HP5.out.r
      have HP7 := Lib.hid hpr7
      have HREST := Lib.hid (And.intro q70 (And.intro q71 (And.intro hcn7 (And.intro hcf7 r7))))
      have d0 := hpr7.c0
      have hz7 : qb + 3 < w7.heap.size := World.block_lt_of_cell? w7 _ d0
      obtain ⟨j0, hj0, hjz, hjs, hjb⟩ := info_parts infoEnum
      clear g5 g6 z0 z1 z2 z3 zf2 zf3 hk6 k6' k7 k67 hcn hcf hcn7 hcf7 hpr7 q70 q71 r7 hown
      go_wp2_with (at_builtin; refine wpList_append_lies _ rfl (.tmp 28) (.tmp 30) 25 rfl (qb + 3 + 1) 32 j0 _ 4 56 Tryz.underlying25 hj0 hjz hjs hjb rfl (by decide) ev _ _ rfl (HP7.out.own.alloc _) ⟨w7.heap.size, 0, none⟩ 1 1 [.string t.nm, .slice a1 M c1, .int .i64 ((i : Int) + 1), .int .i64 1] rfl rfl ?_ ?_ (by omega) ?_ ?_ ?_ _ rfl ?_; rotate_left 5; intro g2 cap2 w8 hown8 hgrow hat hlt2; have hgc := HP7.out.grown hgrow; have e1 := hgc.1; have e2 := hgc.2; have HG := Lib.hid (And.intro hown8 hgrow); clear hown8 hgrow hat hgc)
      · have hx : (place ts 0)[i]? = some ⟨t.nm, t.hnm, .slice a1 M c1, t.cs, (i : Int) + 1, 1⟩ := by
          rw [HPT.out, Nat.zero_add]
          have e : t.v = .slice a1 M c1 := by rw [HV.out, HM.out]
          rw [e]
        have hpn := HP7.out.push hx HG.out.1 HG.out.2
        have k8' : Keeps (fun k => ev.ownBlock = some k ∨ k = qb + 3) w7 w8 := ((Keeps.refl _ w7).alloc _).trans ((Keeps.grownB HG.out.2).mono fun k _ h => Or.inl h)
        have k8 : Keeps (fun k => ev.ownBlock = some k ∨ k = qb + 3) w7 (w8.setCell ⟨qb + 3, 0, none⟩ (.slice (some ⟨g2, 0, none⟩) (i + 1) cap2)) := k8'.setCell (p := ⟨qb + 3, 0, none⟩) (Or.inr rfl) _
        have hn : ∀ k, k < qb + 3 → ¬ (ev.ownBlock = some k ∨ k = qb + 3) := fun k hk h => by
          rcases h with h | h
          · have := (HP7.out.own.lt _ h).1; omega
          · omega
        obtain ⟨p0, p1, p2, p3, p4⟩ := HREST.out
        have hpl : PlAt W qb (.slice (some ⟨b, 0, none⟩) N ac) (place ts 0) (i + 1) (.slice (some ⟨g2, 0, none⟩) (i + 1) cap2) (w8.setCell ⟨qb + 3, 0, none⟩ (.slice (some ⟨g2, 0, none⟩) (i + 1) cap2)) :=
          ⟨hpn, k8.cell p0 (hn _ (by omega)), k8.cell p1 (hn _ (by omega)), by have := k8.cell p2 (hn (qb + 2) (by omega)); simpa using this, (World.frozen?_of_block (k8.block (qb + 2) (World.block_lt_of_cell? w7 ⟨qb + 2, 0, none⟩ p2) (hn (qb + 2) (by omega)))).trans p3, (k8.block (qb + 1) (Array.getElem?_eq_some_iff.1 p4).1 (hn (qb + 1) (by omega))).trans p4, HQB.out⟩
        have HPL := Lib.hid hpl
        clear hx hpn k8 k8' hn p0 p1 p2 p3 p4 hpl
        go_roundg (N - (i + 1))
        case measure => omega
        case rel => exact ⟨i + 1, _, by omega, by go_num, HPL.out⟩
      · intro jj u hj
        rcases jj with _ | _ | _ | _ | jj <;> simp at hj <;> subst hj <;> simp [Addr.add, go_sem]
      · intro u hu
        simp at hu
        rcases hu with rfl | rfl | rfl | rfl <;> rfl
      · unfold maxLen; omega
      · omega
      · simp; omega
    · obtain rfl : i = N := by omega
      obtain ⟨eo, ec, rfl⟩ := own_shape hp.prog.own
      have q1 := hp.q1
      have d0 := hp.prog.c0
      have d1 := hp.prog.c1
      have r0 : wr.cell? ⟨qb + 1, 0, none⟩ = some (.slice none 0 0) := by rw [cell_of_row wr (qb + 1) 0 _ _ _ hp.r]; rfl
      have r1 : wr.cell? ⟨qb + 1, 1, none⟩ = some (.slice none 0 0) := by rw [cell_of_row wr (qb + 1) 1 _ _ _ hp.r]; rfl
      have s0 : wr.frozen? ⟨qb + 1, 0, none⟩ = false := by simp [World.frozen?, hp.r]
      have s1 : wr.frozen? ⟨qb + 1, 1, none⟩ = false := by simp [World.frozen?, hp.r]
      clear hp
      go_wp2_with fail
      go_loopg [7] 0 (fun g v wq => v = .int .i64 0 ∧ wr = wq)
      case atStart => exact ⟨rfl, rfl⟩
      case round =>
        obtain ⟨rfl, rfl⟩ := hrel
        go_wp2_with fail
        have z0 : ((wr.setCell ⟨qb + 1, 0, none⟩ (.slice eo i ec)).setCell ⟨qb + 1, 1, none⟩ (.slice none 0 0)).cell? ⟨qb + 1, 0, none⟩ = some (.slice eo i ec) := by simp [go_sem, r0]
        have z1 : ((wr.setCell ⟨qb + 1, 0, none⟩ (.slice eo i ec)).setCell ⟨qb + 1, 1, none⟩ (.slice none 0 0)).cell? ⟨qb + 1, 1, none⟩ = some (.slice none 0 0) := by simp [go_sem, r1]
        have k : Keeps (fun k => k = qb + 1) wr ((wr.setCell ⟨qb + 1, 0, none⟩ (.slice eo i ec)).setCell ⟨qb + 1, 1, none⟩ (.slice none 0 0)) := ((Keeps.refl (fun k => k = qb + 1) wr).setCell (p := ⟨qb + 1, 0, none⟩) rfl _).setCell (p := ⟨qb + 1, 1, none⟩) rfl _
        have hB := HP.out.prog.below
        have hq := HQB.out
        have hfin : Below W.heap.size W ((wr.setCell ⟨qb + 1, 0, none⟩ (.slice eo i ec)).setCell ⟨qb + 1, 1, none⟩ (.slice none 0 0)) := by
          refine ⟨k.os.trans hB.os, k.tape.trans hB.tape, k.output.trans hB.output, Nat.le_trans hB.size k.size, fun j hj => ?_⟩
          rw [k.block j (by have := hB.size; omega) (by omega), hB.block j hj]
        have hown := own_keep HP.out.prog.own k (fun g hg e => by have := (HP.out.prog.own.lt _ hg).1; omega)
        rw [List.take_of_length_le (by rw [place_len]; have := HN.out; omega)] at hown
        refine bodyPost_ret (v := .agg #[.slice eo i ec, .slice none 0 0]) (by simp [results, Tryz.results7, go_sem, z0, z1]) rfl ⟨_, rfl, hfin, ?_⟩
        refine row_of_own (base := qb + 3 + 1) (t := 32) (by rw [place_len, HN.out]; exact hown) (fun g hg hlt => ⟨.inr (by omega), hlt⟩) ?_
        intro t ht
        obtain ⟨j, hj, rfl⟩ := List.mem_iff_getElem.1 ht
        rw [place_len] at hj
        obtain ⟨b', t', a', c', rfl, ht', _, _, xv, _, _, hn'⟩ := HR.out.at (i := j) hj
        have h2 := place_at ts 0 j t' ht'
        rw [List.getElem?_eq_getElem (by rw [place_len]; exact hj)] at h2
        rw [Option.some.inj h2]
        have hv := en_v HR.out ht' xv
        show NamesIn _ _ t'.v t'.cs
        rw [hv]
        exact (hn'.keep (w' := (wr.setCell ⟨qb + 1, 0, none⟩ (.slice eo i ec)).setCell ⟨qb + 1, 1, none⟩ (.slice none 0 0)) (fun b o v hb hc => (hfin.cell (p := ⟨b, o, none⟩) (by have := hBW b hb; show b < W.heap.size; omega)).trans hc)).mono fun k hk => ⟨.inl hk, by have := hBW k hk; have := hfin.size; omega⟩
end Tx
end Go.Proofs.YtecfknbhnhcioaaGreatDoor
