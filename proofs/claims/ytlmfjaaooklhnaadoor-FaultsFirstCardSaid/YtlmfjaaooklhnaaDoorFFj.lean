/- FaultsFirst: the law's walk. -/
import Derived.Test.YtlmfjaaooklhnaaDoorFFi
import Derived.IntWalk
namespace Go.Proofs.YtlmfjaaooklhnaaDoor
open Go.ChangeShapes Go.WideShapes Go.ChangeAt Go.RowKit Go.Extern.Stop Go.Stop Go.Extern
namespace Fk
set_option linter.unusedVariables false
set_option linter.unusedSimpArgs false
theorem FInv.begin {W w : World} (hb : Below W.heap.size W w) (L C K : Nat → Int) : FInv W L C K 0 (.slice none 0 0) (.int .i64 (-1)) w [] :=
  ⟨rfl, World.ownsRow_nil _ _ _ _, fun _ h => (by simp at h), fun _ _ _ _ h => (by simp at h), hb, .inl ⟨rfl, rfl⟩⟩
theorem own_below {w w1 : World} {base : Nat} {e : TypeId} {size n : Nat} {v : Value} {xs : List Value} (h : w.ownsRow base e size v n xs) (hb : Below w.heap.size w w1) : w1.ownsRow base e size v n xs := by
  refine ⟨h.1, ?_⟩
  rcases h.2 with hv | ⟨g, cap, cur, e1, e2, e3, e4⟩
  · exact .inl hv
  · exact .inr ⟨g, cap, cur, e1, e2, (hb.block g (Array.getElem?_eq_some_iff.1 e3).1).trans e3, e4⟩
theorem below_drew {w w' : World} (h : Below w.drew.heap.size w.drew w') : Below w.heap.size w w' := ((Below.refl _ w).drew).trans h
theorem FInv.drewN {W w : World} {L C K : Nat → Int} {k : Nat} {lv bv : Value} {xs : List El} (h : FInv W L C K k lv bv w xs) (n : Nat) : FInv W L C K k lv bv (w.drewN n) xs :=
  ⟨h.len, h.own, h.ok, h.far, h.below.trans ⟨rfl, rfl, rfl, Nat.le_refl _, fun _ _ => rfl⟩, h.best⟩
theorem pick_mem : ∀ (xs : List El) (f : El) (e : Nat × Int × Int × Int), xs.foldl step f = some e → f = some e ∨ some e ∈ xs
  | [], f, e, h => .inl h
  | x :: xs, f, e, h => by
    rcases pick_mem xs (step f x) e h with h1 | h1
    · have : step f x = f ∨ step f x = x := by
        unfold step
        split
        · exact .inl rfl
        · exact .inr rfl
        · split
          · exact .inr rfl
          · exact .inl rfl
      rcases this with h2 | h2
      · rw [h2] at h1; exact .inl h1
      · rw [h2] at h1; exact .inr (by simp [h1])
    · exact .inr (by simp [h1])
theorem kindV_made (x l c : Int) (h1 : 1 ≤ x) (h2 : x ≤ 12) : kindV (some x) [(l, c, false)] = x := by
  simp only [kindV, kindOf, told, reduceCtorEq, false_and, if_false]
  split <;> omega
/-- What First answers of the errors that the law has made. -/
theorem FInv.first {W w : World} {L C K : Nat → Int} {k : Nat} {lv bv : Value} {xs : List El} (h : FInv W L C K k lv bv w xs) (hk : k ≤ 20) :
    Calls Tryd.prog 7 #[lv] w fun e w' => e = .returned (ev (pick xs)) ∧ Below w.heap.size w w' := by
  have hl := h.len
  have hlt := h.own.lt
  rcases h.own.2 with ⟨hv, h0⟩ | ⟨g, cap, cur, hv, hbase, hg, hcap, _⟩
  · have hx : xs = [] := List.length_eq_zero_iff.1 (by omega)
    subst hx
    subst hv
    exact first_none w
  · subst hv
    have := first_any w xs g 0 cap (by omega) (fun i x hi => by
      have h1 := h.own.cells (g := g) rfl i (ev x) (by simp [hi])
      have hadd : (⟨g, 0, none⟩ : Addr).add i = ⟨g, i, none⟩ := by unfold Addr.add; split <;> simp_all
      rw [hadd] at h1
      simpa using h1) (fun i x hi => h.ok x (List.mem_of_getElem? hi)) (hlt g rfl).2
    rw [hl] at this
    exact this
theorem new_el {w1 : World} {b : Nat} {l c k : Int} (h : AtObj w1 b l c ⟨#[]⟩ false (.iface 26 (.int .i64 k))) : ElOk w1 (some (b, l, c, k)) := AtObj.link h (show Chain w1 (some k) [] (.iface 26 (.int .i64 k)) from rfl)
set_option maxRecDepth 100000 in
set_option maxHeartbeats 8000000 in
theorem first_main (b0 o0 n0 cap0 b1 o1 n1 cap1 b2 o2 n2 cap2 : Nat) (W : World) (hn0 : n0 ≤ 20) (hc0 : n0 ≤ cap0) (hc1 : n1 ≤ cap1) (hc2 : n2 ≤ cap2) (L C K : Nat → Int) (hK : ∀ i, 0 ≤ K i ∧ K i < 256)
    (hL : ∀ i, i < n0 → W.cell? ⟨b0, o0 + i, none⟩ = some (.int .i64 (L i))) (hC : ∀ i, i < n1 → W.cell? ⟨b1, o1 + i, none⟩ = some (.int .i64 (C i))) (hZ : ∀ i, i < n2 → W.cell? ⟨b2, o2 + i, none⟩ = some (.int .u8 (K i))) :
    Calls Tryd.prog 3 #[.slice (some ⟨b0, o0, none⟩) n0 cap0, .slice (some ⟨b1, o1, none⟩) n1 cap1, .slice (some ⟨b2, o2, none⟩) n2 cap2] W fun e w' => e = .returned (.bool true) ∧ Below W.heap.size W w' := by
  obtain ⟨i0, hi, hz0', hz1', hz2'⟩ := info_parts infoErr
  have HL := Lib.hid hL
  have HC := Lib.hid hC
  have HZ := Lib.hid hZ
  clear hL hC hZ
  go_enter Tryd.func3, Tryd.ntmps3
  go_wp2_with (go_at_call 4; refine (awake_any _).mono ?_; rintro e w3 ⟨rfl, hb3⟩)
  go_loopw [7, 8, 9] (fun lv bv iv wr => ∃ (k : Nat) (xs : List El), k ≤ n0 ∧ k ≤ n1 ∧ k ≤ n2 ∧ iv = .int .i64 k ∧ FInv W L C K k lv bv wr xs) (fun _ _ iv _ => n0 - (intOf iv).toNat)
  case atStart => exact ⟨0, [], by omega, by omega, by omega, rfl, FInv.begin hb3 L C K⟩
  case round =>
    obtain ⟨k, xs, hk0, hk1, hk2, rfl, hF⟩ := hrel
    have hbl := hF.below
    by_cases hlt : k < n0 ∧ k < n1 ∧ k < n2
    · obtain ⟨l0, l1, l2⟩ := hlt
      have cx := (hbl.cell (p := ⟨b0, o0 + k, none⟩) (World.block_lt_of_cell? _ _ (HL.out k l0))).trans (HL.out k l0)
      have cy := (hbl.cell (p := ⟨b1, o1 + k, none⟩) (World.block_lt_of_cell? _ _ (HC.out k l1))).trans (HC.out k l1)
      have cz := (hbl.cell (p := ⟨b2, o2 + k, none⟩) (World.block_lt_of_cell? _ _ (HZ.out k l2))).trans (HZ.out k l2)
      have B0 : b0 < wr.heap.size := World.block_lt_of_cell? wr ⟨b0, o0 + k, none⟩ cx
      have B1 : b1 < wr.heap.size := World.block_lt_of_cell? wr ⟨b1, o1 + k, none⟩ cy
      obtain ⟨z0, z1⟩ := hK k
      have HF := Lib.hid hF
      have hown := hF.own
      have HOW := Lib.hid hown
      have hf0 : some b0 ≠ u7.ownBlock := fun e => by have := (hown.lt b0 e.symm).1; have := World.block_lt_of_cell? W ⟨b0, o0 + k, none⟩ (HL.out k l0); simp at this; omega
      have hf1 : some b1 ≠ u7.ownBlock := fun e => by have := (hown.lt b1 e.symm).1; have := World.block_lt_of_cell? W ⟨b1, o1 + k, none⟩ (HC.out k l1); simp at this; omega
      clear hF hown
      by_cases h5 : K k % 5 = 0
      · go_wp2_with (go_at_call 5; refine (kind_fn _ z0 z1 _).mono ?_; rintro e w' ⟨rfl, rfl⟩)
        go_region_held3 (fun w' => w'.cell? ⟨b0, o0 + k, none⟩ = some (.int .i64 (L k)) ∧ w'.cell? ⟨b1, o1 + k, none⟩ = some (.int .i64 (C k)))
          (first
            | go_keep
            | (go_split_ands; refine ⟨?_, ?_⟩; (rw [hgrow.cell_far _ (by simp; omega) hf0]; assumption); (rw [hgrow.cell_far _ (by simp; omega) hf1]; assumption))
            | (go_split_ands; exact ⟨(hb1.cell (p := ⟨b0, o0 + k, none⟩) (by simpa using B0)).trans (by assumption), (hb1.cell (p := ⟨b1, o1 + k, none⟩) (by simpa using B1)).trans (by assumption)⟩))
          ((first
            | (go_at_call 6; refine (new_ok _ _ _).mono ?_; rintro e w1 ⟨rfl, hb1⟩; have HB1 := Lib.hid (below_drew hb1); have hzz1 := (below_drew hb1).size)
            | (refine step_append_lies _ (by rfl) _ _ _ (by rfl) W.heap.size 29 i0 _ 1 16 Tryd.underlying25 hi hz0' hz1' hz2' rfl (by omega) u7 k (xs.map ev) (by rfl) ((own_below HOW.out HB1.out).alloc _) ⟨w1.heap.size, 0, none⟩ 1 1 [.nilIface] (by rfl) (by rfl) (World.news_of_block (cs := #[.nilIface]) (t := 29) (fr := (0, 0)) (heap_alloc_new w1 _)) (by simp [Value.oneCell']) (by omega) (by unfold maxLen; omega) (by omega) (by have := HB1.out.size; have := hbl.size; simp; omega) (w1.heap.size + 1) (by simp) ?_; intro g cap w2 hown2 hgrow hat hlt2)))
        have e1 : pick (xs ++ [none]) = pick xs := by rw [pick_snoc, step_none]
        have HN := Lib.hid (HF.out.push (x := none) HB1.out trivial (fun _ _ _ _ e => by cases e) ⟨rfl, rfl, rfl, rfl⟩ hown2 hgrow hat (by simp) (by rw [e1]; exact HF.out.best.imp id fun ⟨j, h1, h2⟩ => ⟨j, by omega, h2⟩))
        clear hown2 hgrow hat e1
        go_wp2
        go_quiet (fail)
        go_wp2
        go_roundw
        case rel => exact ⟨k + 1, _, by omega, by omega, by omega, by go_num, HN.out.drewN _⟩
        case measure => simp [intOf]; omega
      · have hq : (1 + K k % 12 == 0) = false := by rw [beq_eq_false_iff_ne]; omega
        have hq2 : (1 + K k % 12 != 0) = true := by rw [bne_iff_ne]; omega
        have h5b : (K k % 5 == 0) = false := by rw [beq_eq_false_iff_ne]; exact h5
        rcases HF.out.best with ⟨hp, rfl⟩ | ⟨j, hj, b, hp, rfl⟩
        · have HP := Lib.hid hp
          clear hp h5
          go_wp2_with (go_at_call 5; refine (kind_fn _ z0 z1 _).mono ?_; rintro e w' ⟨rfl, rfl⟩)
          go_region_held3 (fun w' => w'.cell? ⟨b0, o0 + k, none⟩ = some (.int .i64 (L k)) ∧ w'.cell? ⟨b1, o1 + k, none⟩ = some (.int .i64 (C k)))
            (first
              | go_keep
              | (go_split_ands; refine ⟨?_, ?_⟩; (rw [hgrow.cell_far _ (by simp; omega) hf0]; assumption); (rw [hgrow.cell_far _ (by simp; omega) hf1]; assumption))
              | (go_split_ands; exact ⟨(hb1.cell (p := ⟨b0, o0 + k, none⟩) (by simpa using B0)).trans (by assumption), (hb1.cell (p := ⟨b1, o1 + k, none⟩) (by simpa using B1)).trans (by assumption)⟩))
            ((first
              | (go_at_call 6; refine (new_obj _ _ _ hq _).mono ?_; rintro e w1 ⟨rfl, hob, hb1⟩; have HO1 := Lib.hid hob; have HB1 := Lib.hid (below_drew hb1); have hzz1 := (below_drew hb1).size; clear hob)
              | (refine step_append_lies _ (by rfl) _ _ _ (by rfl) W.heap.size 29 i0 _ 1 16 Tryd.underlying25 hi hz0' hz1' hz2' rfl (by omega) u7 k (xs.map ev) (by rfl) ((own_below HOW.out HB1.out).alloc _) ⟨w1.heap.size, 0, none⟩ 1 1 [.iface 39 (.pointer (some ⟨wr.heap.size + 1, 0, none⟩))] (by rfl) (by rfl) (World.news_of_block (cs := #[.iface 39 (.pointer (some ⟨wr.heap.size + 1, 0, none⟩))]) (t := 29) (fr := (0, 0)) (heap_alloc_new w1 _)) (by simp [Value.oneCell']) (by omega) (by unfold maxLen; omega) (by omega) (by have := HB1.out.size; have := hbl.size; simp; omega) (w1.heap.size + 1) (by simp) ?_; intro g cap w2 hown2 hgrow hat hlt2)))
          have HN := Lib.hid (HF.out.push (x := some (wr.heap.size + 1, L k, C k, 1 + K k % 12)) (bv' := .int .i64 k) HB1.out (new_el HO1.out) (fun _ _ _ _ e => by cases e; omega) ⟨rfl, rfl, rfl, rfl⟩ hown2 hgrow hat (by simp) (.inr ⟨k, by omega, wr.heap.size + 1, by rw [pick_snoc, HP.out]; exact rfl, rfl⟩))
          have d2 := (HN.out.below.cell (p := ⟨b0, o0 + k, none⟩) (World.block_lt_of_cell? _ _ (HL.out k l0))).trans (HL.out k l0)
          have d3 := (HN.out.below.cell (p := ⟨b1, o1 + k, none⟩) (World.block_lt_of_cell? _ _ (HC.out k l1))).trans (HC.out k l1)
          clear hown2 hgrow hat hf0 hf1 cx cy cz
          go_wp2
          go_quiet (fail)
          go_wp2
          go_roundw
          case rel => exact ⟨k + 1, _, by omega, by omega, by omega, by go_num, HN.out.drewN _⟩
          case measure => simp [intOf]; omega
        · have HP := Lib.hid hp
          clear hp h5
          have j0 : j < n0 := by omega
          have j1 : j < n1 := by omega
          have jn : decide ((j : Int) < 0) = false := decide_eq_false (by omega)
          by_cases a1 : L k < L j
          · have a2 : decide (L k < L j) = true := by simpa using a1
            go_wp2_with (go_at_call 5; refine (kind_fn _ z0 z1 _).mono ?_; rintro e w' ⟨rfl, rfl⟩)
            go_region_held3 (fun w' => w'.cell? ⟨b0, o0 + k, none⟩ = some (.int .i64 (L k)) ∧ w'.cell? ⟨b1, o1 + k, none⟩ = some (.int .i64 (C k)))
              (first
                | go_keep
                | (go_split_ands; refine ⟨?_, ?_⟩; (rw [hgrow.cell_far _ (by simp; omega) hf0]; assumption); (rw [hgrow.cell_far _ (by simp; omega) hf1]; assumption))
                | (go_split_ands; exact ⟨(hb1.cell (p := ⟨b0, o0 + k, none⟩) (by simpa using B0)).trans (by assumption), (hb1.cell (p := ⟨b1, o1 + k, none⟩) (by simpa using B1)).trans (by assumption)⟩))
              ((first
                | (go_at_call 6; refine (new_obj _ _ _ hq _).mono ?_; rintro e w1 ⟨rfl, hob, hb1⟩; have HO1 := Lib.hid hob; have HB1 := Lib.hid (below_drew hb1); have hzz1 := (below_drew hb1).size; clear hob)
                | (refine step_append_lies _ (by rfl) _ _ _ (by rfl) W.heap.size 29 i0 _ 1 16 Tryd.underlying25 hi hz0' hz1' hz2' rfl (by omega) u7 k (xs.map ev) (by rfl) ((own_below HOW.out HB1.out).alloc _) ⟨w1.heap.size, 0, none⟩ 1 1 [.iface 39 (.pointer (some ⟨wr.heap.size + 1, 0, none⟩))] (by rfl) (by rfl) (World.news_of_block (cs := #[.iface 39 (.pointer (some ⟨wr.heap.size + 1, 0, none⟩))]) (t := 29) (fr := (0, 0)) (heap_alloc_new w1 _)) (by simp [Value.oneCell']) (by omega) (by unfold maxLen; omega) (by omega) (by have := HB1.out.size; have := hbl.size; simp; omega) (w1.heap.size + 1) (by simp) ?_; intro g cap w2 hown2 hgrow hat hlt2)))
            have HN := Lib.hid (HF.out.push (x := some (wr.heap.size + 1, L k, C k, 1 + K k % 12)) (bv' := .int .i64 k) HB1.out (new_el HO1.out) (fun _ _ _ _ e => by cases e; omega) ⟨rfl, rfl, rfl, rfl⟩ hown2 hgrow hat (by simp) (.inr ⟨k, by omega, wr.heap.size + 1, by rw [pick_snoc, HP.out]; exact (step_better (fun b' l' c' e' e => by cases e; exact .inl a1)), rfl⟩))
            have d2 := (HN.out.below.cell (p := ⟨b0, o0 + k, none⟩) (World.block_lt_of_cell? _ _ (HL.out k l0))).trans (HL.out k l0)
            have d3 := (HN.out.below.cell (p := ⟨b1, o1 + k, none⟩) (World.block_lt_of_cell? _ _ (HC.out k l1))).trans (HC.out k l1)
            have d4 := (HN.out.below.cell (p := ⟨b0, o0 + j, none⟩) (World.block_lt_of_cell? _ _ (HL.out j (by omega)))).trans (HL.out j (by omega))
            have d5 := (HN.out.below.cell (p := ⟨b1, o1 + j, none⟩) (World.block_lt_of_cell? _ _ (HC.out j (by omega)))).trans (HC.out j (by omega))
            clear hown2 hgrow hat hf0 hf1 cx cy cz
            go_wp2
            go_quiet (fail)
            go_wp2
            go_roundw
            case rel => exact ⟨k + 1, _, by omega, by omega, by omega, by go_num, HN.out.drewN _⟩
            case measure => simp [intOf]; omega
          · by_cases a3 : L k = L j
            · have a2 : decide (L k < L j) = false := by simpa using a1
              have a4 : (L k == L j) = true := by simpa using a3
              have A3 := Lib.hid a3
              clear a3
              by_cases a5 : C k < C j
              · have a6 : decide (C k < C j) = true := by simpa using a5
                go_wp2_with (go_at_call 5; refine (kind_fn _ z0 z1 _).mono ?_; rintro e w' ⟨rfl, rfl⟩)
                go_region_held3 (fun w' => w'.cell? ⟨b0, o0 + k, none⟩ = some (.int .i64 (L k)) ∧ w'.cell? ⟨b1, o1 + k, none⟩ = some (.int .i64 (C k)))
                  (first
                    | go_keep
                    | (go_split_ands; refine ⟨?_, ?_⟩; (rw [hgrow.cell_far _ (by simp; omega) hf0]; assumption); (rw [hgrow.cell_far _ (by simp; omega) hf1]; assumption))
                    | (go_split_ands; exact ⟨(hb1.cell (p := ⟨b0, o0 + k, none⟩) (by simpa using B0)).trans (by assumption), (hb1.cell (p := ⟨b1, o1 + k, none⟩) (by simpa using B1)).trans (by assumption)⟩))
                  ((first
                    | (go_at_call 6; refine (new_obj _ _ _ hq _).mono ?_; rintro e w1 ⟨rfl, hob, hb1⟩; have HO1 := Lib.hid hob; have HB1 := Lib.hid (below_drew hb1); have hzz1 := (below_drew hb1).size; clear hob)
                    | (refine step_append_lies _ (by rfl) _ _ _ (by rfl) W.heap.size 29 i0 _ 1 16 Tryd.underlying25 hi hz0' hz1' hz2' rfl (by omega) u7 k (xs.map ev) (by rfl) ((own_below HOW.out HB1.out).alloc _) ⟨w1.heap.size, 0, none⟩ 1 1 [.iface 39 (.pointer (some ⟨wr.heap.size + 1, 0, none⟩))] (by rfl) (by rfl) (World.news_of_block (cs := #[.iface 39 (.pointer (some ⟨wr.heap.size + 1, 0, none⟩))]) (t := 29) (fr := (0, 0)) (heap_alloc_new w1 _)) (by simp [Value.oneCell']) (by omega) (by unfold maxLen; omega) (by omega) (by have := HB1.out.size; have := hbl.size; simp; omega) (w1.heap.size + 1) (by simp) ?_; intro g cap w2 hown2 hgrow hat hlt2)))
                have HN := Lib.hid (HF.out.push (x := some (wr.heap.size + 1, L k, C k, 1 + K k % 12)) (bv' := .int .i64 k) HB1.out (new_el HO1.out) (fun _ _ _ _ e => by cases e; omega) ⟨rfl, rfl, rfl, rfl⟩ hown2 hgrow hat (by simp) (.inr ⟨k, by omega, wr.heap.size + 1, by rw [pick_snoc, HP.out]; exact (step_better (fun b' l' c' e' e => by cases e; exact .inr ⟨A3.out, a5⟩)), rfl⟩))
                have d2 := (HN.out.below.cell (p := ⟨b0, o0 + k, none⟩) (World.block_lt_of_cell? _ _ (HL.out k l0))).trans (HL.out k l0)
                have d3 := (HN.out.below.cell (p := ⟨b1, o1 + k, none⟩) (World.block_lt_of_cell? _ _ (HC.out k l1))).trans (HC.out k l1)
                have d4 := (HN.out.below.cell (p := ⟨b0, o0 + j, none⟩) (World.block_lt_of_cell? _ _ (HL.out j (by omega)))).trans (HL.out j (by omega))
                have d5 := (HN.out.below.cell (p := ⟨b1, o1 + j, none⟩) (World.block_lt_of_cell? _ _ (HC.out j (by omega)))).trans (HC.out j (by omega))
                clear hown2 hgrow hat hf0 hf1 cx cy cz
                go_wp2
                go_quiet (fail)
                go_wp2
                go_roundw
                case rel => exact ⟨k + 1, _, by omega, by omega, by omega, by go_num, HN.out.drewN _⟩
                case measure => simp [intOf]; omega
              · have a6 : decide (C k < C j) = false := by simpa using a5
                go_wp2_with (go_at_call 5; refine (kind_fn _ z0 z1 _).mono ?_; rintro e w' ⟨rfl, rfl⟩)
                go_region_held3 (fun w' => w'.cell? ⟨b0, o0 + k, none⟩ = some (.int .i64 (L k)) ∧ w'.cell? ⟨b1, o1 + k, none⟩ = some (.int .i64 (C k)))
                  (first
                    | go_keep
                    | (go_split_ands; refine ⟨?_, ?_⟩; (rw [hgrow.cell_far _ (by simp; omega) hf0]; assumption); (rw [hgrow.cell_far _ (by simp; omega) hf1]; assumption))
                    | (go_split_ands; exact ⟨(hb1.cell (p := ⟨b0, o0 + k, none⟩) (by simpa using B0)).trans (by assumption), (hb1.cell (p := ⟨b1, o1 + k, none⟩) (by simpa using B1)).trans (by assumption)⟩))
                  ((first
                    | (go_at_call 6; refine (new_obj _ _ _ hq _).mono ?_; rintro e w1 ⟨rfl, hob, hb1⟩; have HO1 := Lib.hid hob; have HB1 := Lib.hid (below_drew hb1); have hzz1 := (below_drew hb1).size; clear hob)
                    | (refine step_append_lies _ (by rfl) _ _ _ (by rfl) W.heap.size 29 i0 _ 1 16 Tryd.underlying25 hi hz0' hz1' hz2' rfl (by omega) u7 k (xs.map ev) (by rfl) ((own_below HOW.out HB1.out).alloc _) ⟨w1.heap.size, 0, none⟩ 1 1 [.iface 39 (.pointer (some ⟨wr.heap.size + 1, 0, none⟩))] (by rfl) (by rfl) (World.news_of_block (cs := #[.iface 39 (.pointer (some ⟨wr.heap.size + 1, 0, none⟩))]) (t := 29) (fr := (0, 0)) (heap_alloc_new w1 _)) (by simp [Value.oneCell']) (by omega) (by unfold maxLen; omega) (by omega) (by have := HB1.out.size; have := hbl.size; simp; omega) (w1.heap.size + 1) (by simp) ?_; intro g cap w2 hown2 hgrow hat hlt2)))
                have HN := Lib.hid (HF.out.push (x := some (wr.heap.size + 1, L k, C k, 1 + K k % 12)) (bv' := .int .i64 j) HB1.out (new_el HO1.out) (fun _ _ _ _ e => by cases e; omega) ⟨rfl, rfl, rfl, rfl⟩ hown2 hgrow hat (by simp) (by rw [pick_snoc, HP.out, step_worse (by rintro (h | ⟨_, h⟩) <;> omega)]; exact .inr ⟨j, by omega, b, rfl, rfl⟩))
                have d2 := (HN.out.below.cell (p := ⟨b0, o0 + k, none⟩) (World.block_lt_of_cell? _ _ (HL.out k l0))).trans (HL.out k l0)
                have d3 := (HN.out.below.cell (p := ⟨b1, o1 + k, none⟩) (World.block_lt_of_cell? _ _ (HC.out k l1))).trans (HC.out k l1)
                have d4 := (HN.out.below.cell (p := ⟨b0, o0 + j, none⟩) (World.block_lt_of_cell? _ _ (HL.out j (by omega)))).trans (HL.out j (by omega))
                have d5 := (HN.out.below.cell (p := ⟨b1, o1 + j, none⟩) (World.block_lt_of_cell? _ _ (HC.out j (by omega)))).trans (HC.out j (by omega))
                clear hown2 hgrow hat hf0 hf1 cx cy cz
                go_wp2
                go_quiet (fail)
                go_wp2
                go_roundw
                case rel => exact ⟨k + 1, _, by omega, by omega, by omega, by go_num, HN.out.drewN _⟩
                case measure => simp [intOf]; omega
            · have a2 : decide (L k < L j) = false := by simpa using a1
              have a4 : (L k == L j) = false := by simpa using a3
              go_wp2_with (go_at_call 5; refine (kind_fn _ z0 z1 _).mono ?_; rintro e w' ⟨rfl, rfl⟩)
              go_region_held3 (fun w' => w'.cell? ⟨b0, o0 + k, none⟩ = some (.int .i64 (L k)) ∧ w'.cell? ⟨b1, o1 + k, none⟩ = some (.int .i64 (C k)))
                (first
                  | go_keep
                  | (go_split_ands; refine ⟨?_, ?_⟩; (rw [hgrow.cell_far _ (by simp; omega) hf0]; assumption); (rw [hgrow.cell_far _ (by simp; omega) hf1]; assumption))
                  | (go_split_ands; exact ⟨(hb1.cell (p := ⟨b0, o0 + k, none⟩) (by simpa using B0)).trans (by assumption), (hb1.cell (p := ⟨b1, o1 + k, none⟩) (by simpa using B1)).trans (by assumption)⟩))
                ((first
                  | (go_at_call 6; refine (new_obj _ _ _ hq _).mono ?_; rintro e w1 ⟨rfl, hob, hb1⟩; have HO1 := Lib.hid hob; have HB1 := Lib.hid (below_drew hb1); have hzz1 := (below_drew hb1).size; clear hob)
                  | (refine step_append_lies _ (by rfl) _ _ _ (by rfl) W.heap.size 29 i0 _ 1 16 Tryd.underlying25 hi hz0' hz1' hz2' rfl (by omega) u7 k (xs.map ev) (by rfl) ((own_below HOW.out HB1.out).alloc _) ⟨w1.heap.size, 0, none⟩ 1 1 [.iface 39 (.pointer (some ⟨wr.heap.size + 1, 0, none⟩))] (by rfl) (by rfl) (World.news_of_block (cs := #[.iface 39 (.pointer (some ⟨wr.heap.size + 1, 0, none⟩))]) (t := 29) (fr := (0, 0)) (heap_alloc_new w1 _)) (by simp [Value.oneCell']) (by omega) (by unfold maxLen; omega) (by omega) (by have := HB1.out.size; have := hbl.size; simp; omega) (w1.heap.size + 1) (by simp) ?_; intro g cap w2 hown2 hgrow hat hlt2)))
              have HN := Lib.hid (HF.out.push (x := some (wr.heap.size + 1, L k, C k, 1 + K k % 12)) (bv' := .int .i64 j) HB1.out (new_el HO1.out) (fun _ _ _ _ e => by cases e; omega) ⟨rfl, rfl, rfl, rfl⟩ hown2 hgrow hat (by simp) (by rw [pick_snoc, HP.out, step_worse (by rintro (h | ⟨h, _⟩) <;> omega)]; exact .inr ⟨j, by omega, b, rfl, rfl⟩))
              have d2 := (HN.out.below.cell (p := ⟨b0, o0 + k, none⟩) (World.block_lt_of_cell? _ _ (HL.out k l0))).trans (HL.out k l0)
              have d3 := (HN.out.below.cell (p := ⟨b1, o1 + k, none⟩) (World.block_lt_of_cell? _ _ (HC.out k l1))).trans (HC.out k l1)
              have d4 := (HN.out.below.cell (p := ⟨b0, o0 + j, none⟩) (World.block_lt_of_cell? _ _ (HL.out j (by omega)))).trans (HL.out j (by omega))
              have d5 := (HN.out.below.cell (p := ⟨b1, o1 + j, none⟩) (World.block_lt_of_cell? _ _ (HC.out j (by omega)))).trans (HC.out j (by omega))
              clear hown2 hgrow hat hf0 hf1 cx cy cz
              go_wp2
              go_quiet (fail)
              go_wp2
              go_roundw
              case rel => exact ⟨k + 1, _, by omega, by omega, by omega, by go_num, HN.out.drewN _⟩
              case measure => simp [intOf]; omega
    · have hk20 : k ≤ 20 := by omega
      have HFi := Lib.hid (hF.first hk20)
      have hw : ¬ k < n0 ∨ (k < n0 ∧ ¬ k < n1) ∨ (k < n0 ∧ k < n1 ∧ ¬ k < n2) := by omega
      rcases hF.best with ⟨hp, rfl⟩ | ⟨j, hj, b, hp, rfl⟩
      · rw [hp] at HFi
        clear hF hp hlt
        simp only [ev] at HFi
        rcases hw with hw | ⟨hw1, hw⟩ | ⟨hw1, hw2, hw⟩
        all_goals
          go_wp2_with (go_at_call 7; refine HFi.out.mono ?_; rintro e w4 ⟨rfl, hb4⟩)
          go_ret
          exact ⟨rfl, hbl.trans (hb4.mono hbl.size)⟩
      · rw [hp] at HFi
        have hok := hF.ok _ ((pick_mem xs none _ hp).resolve_left (by simp))
        have HOK := Lib.hid hok
        have hj0 : j < n0 := by omega
        have hj1 : j < n1 := by omega
        have hj2 : j < n2 := by omega
        obtain ⟨y0, y1⟩ := hK j
        have kx1 : 1 ≤ 1 + K j % 12 := by omega
        have kx2 : 1 + K j % 12 ≤ 12 := by omega
        clear hF hp hlt hok
        simp only [ev] at HFi
        rcases hw with hw | ⟨hw1, hw⟩ | ⟨hw1, hw2, hw⟩
        all_goals
          go_wp2_with (go_at_call 7; refine HFi.out.mono ?_; rintro e w4 ⟨rfl, hb4⟩; have hbl4 := hbl.trans (hb4.mono hbl.size); have HC4 := Lib.hid (show Chain w4 (some (1 + K j % 12)) [(L j, C j, false)] (.iface 39 (.pointer (some ⟨b, 0, none⟩))) from chain_keep hb4 HOK.out); have cx := (hbl4.cell (p := ⟨b0, o0 + j, none⟩) (World.block_lt_of_cell? _ _ (HL.out j hj0))).trans (HL.out j hj0); have cy := (hbl4.cell (p := ⟨b1, o1 + j, none⟩) (World.block_lt_of_cell? _ _ (HC.out j hj1))).trans (HC.out j hj1); have cz := (hbl4.cell (p := ⟨b2, o2 + j, none⟩) (World.block_lt_of_cell? _ _ (HZ.out j hj2))).trans (HZ.out j hj2))
          have B0 : b0 < w4.heap.size := World.block_lt_of_cell? w4 ⟨b0, o0 + j, none⟩ cx
          have B1 : b1 < w4.heap.size := World.block_lt_of_cell? w4 ⟨b1, o1 + j, none⟩ cy
          have B2 : b2 < w4.heap.size := World.block_lt_of_cell? w4 ⟨b2, o2 + j, none⟩ cz
          go_region_held3 (fun w' => w'.cell? ⟨b0, o0 + j, none⟩ = some (.int .i64 (L j)) ∧ w'.cell? ⟨b1, o1 + j, none⟩ = some (.int .i64 (C j)) ∧ w'.cell? ⟨b2, o2 + j, none⟩ = some (.int .u8 (K j)))
            (first
              | go_keep
              | (go_split_ands; refine ⟨?_, ?_, ?_⟩; (exact (hb6.cell (p := ⟨b0, o0 + j, none⟩) (Nat.lt_of_lt_of_le B0 hz5)).trans (by assumption)); (exact (hb6.cell (p := ⟨b1, o1 + j, none⟩) (Nat.lt_of_lt_of_le B1 hz5)).trans (by assumption)); (exact (hb6.cell (p := ⟨b2, o2 + j, none⟩) (Nat.lt_of_lt_of_le B2 hz5)).trans (by assumption)))
              | (go_split_ands; refine ⟨?_, ?_, ?_⟩; (exact (hb5.cell (p := ⟨b0, o0 + j, none⟩) B0).trans (by assumption)); (exact (hb5.cell (p := ⟨b1, o1 + j, none⟩) B1).trans (by assumption)); (exact (hb5.cell (p := ⟨b2, o2 + j, none⟩) B2).trans (by assumption))))
            ((first
              | (go_at_call 9; have gg := HC5; clear gg; refine (where_is (k := some (1 + K j % 12)) (l := [(L j, C j, false)]) (L j) (C j) (by exact HC5.out) (by simp) rfl).mono ?_; rintro e w6 ⟨rfl, hb6⟩; have hbl6 := (hbl4.trans (HB5.out.mono hbl4.size)).trans (hb6.mono (Nat.le_trans hbl4.size HB5.out.size)))
              | (go_at_call 8; refine (kind_is (k := some (1 + K j % 12)) (l := [(L j, C j, false)]) (1 + K j % 12) (by exact chain_as rfl HC4.out) (by simp) (kindV_made _ _ _ kx1 kx2)).mono ?_; rintro e w5 ⟨rfl, hb5⟩; have HB5 := Lib.hid (below_drew hb5); have hz5 := (below_drew hb5).size; have HC5 := Lib.hid (chain_keep (below_drew hb5) HC4.out))
              | (go_at_call 5; refine (kind_fn _ y0 y1 _).mono ?_; rintro e w' ⟨rfl, rfl⟩)))
          go_wp2
          go_ret
          exact ⟨rfl, hbl6⟩
end Fk
end Go.Proofs.YtlmfjaaooklhnaaDoor
