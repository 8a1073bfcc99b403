/- The reference's first fault of types: its loops. -/
import Derived.Test.YtecfknbhnhcioaaGreatDoorNx
namespace Go.Proofs.YtecfknbhnhcioaaGreatDoor
open Go.ChangeShapes Go.WideShapes Go.ChangeAt Go.RowKit Go.Maps
namespace Tx
set_option linter.unusedVariables false
set_option linter.unusedSimpArgs false
def posE (o : Option En) : Option (Int × Int) := o.map fun t => (t.line, t.col)
theorem infoString : (Tryz.prog.info? 9).map (fun i => (i.zero, i.size, i.bytes)) = some (some (Value.string ⟨#[]⟩), 1, 16) := by kernel_rfl
theorem take_map_at {ts : List En} {i k : Nat} {t : En} (h : ts[k]? = some t) (hk : k < i) : ((ts.take i).map En.nm)[k]? = some t.nm := by
  rw [List.getElem?_map, List.getElem?_take_of_lt hk, h]
  rfl
theorem hasN_take {T : List ByteArray} {k : Nat} {x : ByteArray} (h : T[k]? = some x) (s : ByteArray) : hasN (T.take (k + 1)) s = (hasN (T.take k) s || decide (x = s)) := by
  obtain ⟨hk, rfl⟩ := List.getElem?_eq_some_iff.1 h
  rw [List.take_succ_eq_append_getElem hk, hasN_snoc]
theorem dupC_take {cs : List ByteArray} {j : Nat} {c : ByteArray} (h : cs[j]? = some c) (C : List ByteArray) : dupC C (cs.take (j + 1)) = (dupC C (cs.take j) || hasN (C ++ cs.take j) c) ∧ C ++ cs.take (j + 1) = (C ++ cs.take j) ++ [c] := by
  obtain ⟨hj, rfl⟩ := List.getElem?_eq_some_iff.1 h
  rw [List.take_succ_eq_append_getElem hj, dupC_snoc, List.append_assoc]
  exact ⟨rfl, rfl⟩
theorem firstBad_take {ts : List En} {i : Nat} {t : En} (h : ts[i]? = some t) : posE (firstBad (ts.take (i + 1)) [] []) = step (posE (firstBad (ts.take i) [] [])) (t.line, t.col) (hasN ((ts.take i).map En.nm) t.nm || dupC ((ts.take i).flatMap En.cs) t.cs) := by
  obtain ⟨hi, rfl⟩ := List.getElem?_eq_some_iff.1 h
  rw [List.take_succ_eq_append_getElem hi]
  have h2 := firstBad_snoc (ts.take i) [] [] ts[i]
  simp only [List.nil_append] at h2
  exact h2
theorem bel_dn (n : Nat) (w : World) : Below w.heap.size w (w.drewN n) := ⟨rfl, rfl, rfl, Nat.le_refl _, fun _ _ => rfl⟩
set_option maxRecDepth 100000 in
set_option maxHeartbeats 8000000 in
theorem rcheck_any (W : World) (v : Value) (ts : List En) (hr : EnRow (fun k => k < W.heap.size) W v ts) (h1 : ts.length ≤ 1000) (h2 : (ts.flatMap En.cs).length ≤ 1000) :
    Calls Tryz.prog 9 #[.agg #[v, .slice none 0 0]] W fun e w' => e = .returned (.tuple #[.int .i64 (lk (posE (firstBad ts [] []))), .agg #[.int .i64 (ll (posE (firstBad ts [] []))), .int .i64 (lc' (posE (firstBad ts [] [])))]]) ∧ Below W.heap.size W w' := by
  obtain ⟨ao, ac, rfl⟩ := hr.form
  have HR := Lib.hid hr
  obtain ⟨N, hN⟩ : ∃ N, ts.length = N := ⟨_, rfl⟩
  have HN := Lib.hid hN
  rw [hN] at h1 ⊢
  clear hr hN
  go_enter Tryz.func9, Tryz.ntmps9
  go_wp2_with fail
  have h0 : RefAt W W.heap.size (W.heap.size + 1 + 1) (.slice ao N ac) none (.slice none 0 0) [] (((W.alloc (.cells #[.slice ao N ac, .slice none 0 0] 28)).alloc (.cells #[.int .i64 0, .int .i64 0] 30)).alloc (.cells #[.slice ao N ac, .slice none 0 0, .int .i64 0, .int .i64 0, .int .i64 0] 89)) := by
    refine ⟨(((Below.refl _ _).alloc (Nat.le_refl _) _).alloc (by simp) _).alloc (by simp; omega) _, by simp [go_sem], by simp [go_sem], ?_, ?_, ⟨rfl, .inl ⟨rfl, rfl⟩⟩, Nat.le_refl _, by omega⟩
    · have e : (((W.alloc (.cells #[.slice ao N ac, .slice none 0 0] 28)).alloc (.cells #[.int .i64 0, .int .i64 0] 30)).alloc (.cells #[.slice ao N ac, .slice none 0 0, .int .i64 0, .int .i64 0, .int .i64 0] 89)).heap = ((W.heap.push (.cells #[.slice ao N ac, .slice none 0 0] 28)).push (.cells #[.int .i64 0, .int .i64 0] 30)).push (.cells #[.slice ao N ac, .slice none 0 0, .int .i64 0, .int .i64 0, .int .i64 0] 89) := rfl
      rw [e, Array.getElem?_push, if_neg (by simp only [Array.size_push]; omega), Array.getElem?_push, if_pos (by simp only [Array.size_push])]
    · refine ⟨?_, ?_, ?_, ?_, ?_, ?_⟩ <;> simp [go_sem, lk, ll, lc']
  generalize (((W.alloc (.cells #[.slice ao N ac, .slice none 0 0] 28)).alloc (.cells #[.int .i64 0, .int .i64 0] 30)).alloc (.cells #[.slice ao N ac, .slice none 0 0, .int .i64 0, .int .i64 0, .int .i64 0] 89)) = W3 at h0 ⊢
  have H0 := Lib.hid h0
  obtain ⟨qb, hqb⟩ : ∃ x, W.heap.size = x := ⟨_, rfl⟩
  rw [hqb] at H0 HR ⊢
  obtain ⟨lb, hlb⟩ : ∃ x, qb + 1 + 1 = x := ⟨_, rfl⟩
  rw [hlb] at H0 ⊢
  have HQB := Lib.hid hqb
  clear h0 hlb hqb
  obtain ⟨i0, hi0, hz0, hz1, hz2⟩ := info_parts infoString
  go_loopg [5, 6] N (fun g cv iv wr => ∃ i : Nat, i + g = N ∧ iv = .int .i64 i ∧ RefAt W qb lb (.slice ao N ac) (posE (firstBad (ts.take i) [] [])) cv ((ts.take i).flatMap En.cs) wr)
  case atStart => exact ⟨0, by omega, rfl, H0.out⟩
  case round =>
    clear H0
    obtain ⟨i, hig, rfl, hrf⟩ := hrel
    by_cases hi : i < N
    · have kpw : ∀ w', Below W.heap.size W w' → ∀ b o v, b < qb → W.cell? ⟨b, o, none⟩ = some v → w'.cell? ⟨b, o, none⟩ = some v := fun w' hb b o v hlt hc => (hb.cell (p := ⟨b, o, none⟩) (by rw [HQB.out]; exact hlt)).trans hc
      have KPW := Lib.hid kpw
      obtain ⟨b, t, a1, c1, rfl, ht, hBb, x0, x1, x2, x3, hns⟩ := HR.out.at (i := i) (by have := HN.out; omega)
      have HT := Lib.hid ht
      have HNS := Lib.hid hns
      have HX := Lib.hid (And.intro x0 (And.intro x1 (And.intro x2 x3)))
      have HFT := Lib.hid (firstBad_take ht)
      have hfl := flat_le2 ht
      have htn := take_names ht
      have HTN := Lib.hid htn
      obtain ⟨M, hM⟩ : ∃ M, t.cs.length = M := ⟨_, rfl⟩
      have HM := Lib.hid hM
      have htl : ((ts.take i).map En.nm).length = i := by rw [List.length_map, List.length_take]; have := HN.out; omega
      have HTL := Lib.hid htl
      have hCs : ∀ s ∈ (ts.take i).flatMap En.cs, s.size ≤ maxLen := by
        intro s hs
        obtain ⟨t', ht', hs'⟩ := List.mem_flatMap.1 hs
        obtain ⟨j, hj, rfl⟩ := List.mem_iff_getElem.1 (List.mem_of_mem_take ht')
        obtain ⟨_, t2, _, _, _, ht2, _, _, _, _, _, hn2⟩ := HR.out.at (i := j) hj
        obtain rfl : ts[j] = t2 := by rw [List.getElem?_eq_getElem hj] at ht2; exact Option.some.inj ht2
        exact hn2.small s hs'
      have HCS := Lib.hid hCs
      have HTK := Lib.hid (show ∀ k tk, ts[k]? = some tk → k < i → ((ts.take i).map En.nm)[k]? = some tk.nm from fun k tk h hk => take_map_at h hk)
      generalize ho : posE (firstBad (ts.take i) [] []) = o at hrf HFT
      generalize hT : (ts.take i).map En.nm = T at HFT HTL HTK htn HTN
      generalize hC : (ts.take i).flatMap En.cs = C at hrf HFT HTN HCS hfl htn
      rw [hM] at x1 hfl
      have HRF := Lib.hid hrf
      have q00 := hrf.q
      clear ht hns htn hM htl hCs ho hT hC kpw x0 x1 x2 x3 hrf
      go_wp2_with fail
      clear q00
      go_loopg [7] i (fun g kv wq => ∃ k : Nat, k + g = i ∧ kv = .int .i64 k ∧ RefAt W qb lb (.slice (some ⟨b, 0, none⟩) N ac) (step o (t.line, t.col) (hasN (T.take k) t.nm)) u5 C wq)
      case atStart => exact ⟨0, by omega, rfl, by cases o <;> exact HRF.out⟩
      case round =>
        clear HRF
        obtain ⟨k, hkg, rfl, hrk⟩ := hrel
        have HRK := Lib.hid hrk
        have y0 := KPW.out _ hrk.below _ _ _ hBb HX.out.1
        have y2 := KPW.out _ hrk.below _ _ _ hBb HX.out.2.2.1
        have y3 := KPW.out _ hrk.below _ _ _ hBb HX.out.2.2.2
        have q0 := hrk.q
        by_cases hk : k < i
        · obtain ⟨b', tk, a2, c2, hbe, htk, _, xk, _, _, _, _⟩ := HR.out.at (i := k) (by have := HN.out; omega)
          obtain rfl : b = b' := by simpa using hbe
          have yk := KPW.out _ hrk.below _ _ _ hBb xk
          have HHK := Lib.hid (hasN_take (HTK.out k tk htk hk) t.nm)
          clear htk xk hbe hrk
          cases hp : decide (tk.nm = t.nm)
          · have ht2 : (tk.nm.toList == t.nm.toList) = false := by rw [eq_toList]; exact hp
            go_wp2_with fail
            go_quiet (fail)
            have HR2 := Lib.hid (HRK.out.keep0 (w' := wr.drewN nq) (bel_dn nq wr))
            generalize wr.drewN nq = w2 at HR2 ⊢
            clear y0 y2 y3 q0 yk
            go_wp2
            go_roundg (i - (k + 1))
            case measure => omega
            case rel => exact ⟨k + 1, by omega, by go_num, by have h := HHK.out; rw [hp, Bool.or_false] at h; rw [h]; exact HR2.out⟩
          · have ht2 : (tk.nm.toList == t.nm.toList) = true := by rw [eq_toList]; exact hp
            go_wp2_with fail
            go_quiet (fail)
            have HR2 := Lib.hid (HRK.out.keep0 (w' := wr.drewN nq) (bel_dn nq wr))
            have y2' : (wr.drewN nq).cell? ⟨b, i * 4 + 2, none⟩ = _ := y2
            have y3' : (wr.drewN nq).cell? ⟨b, i * 4 + 3, none⟩ = _ := y3
            have q0' : (wr.drewN nq).cell? ⟨qb, 0, none⟩ = _ := q0
            generalize wr.drewN nq = w2 at HR2 y2' y3' q0' ⊢
            clear y0 y2 y3 q0 yk
            go_wp2_with fail
            refine (fail_any lb _ (t.line, t.col) w2 HR2.out.look).mono ?_
            rintro e w3 ⟨rfl, hl3, hk3⟩
            have HR3 := Lib.hid (HR2.out.fail hl3 hk3)
            clear hl3 hk3 y2' y3' q0'
            go_wp2
            go_roundg (i - (k + 1))
            case measure => omega
            case rel => exact ⟨k + 1, by omega, by go_num, by have h := HHK.out; rw [hp] at h; rw [h, ← step_step]; exact HR3.out⟩
        · obtain rfl : k = i := by omega
          rw [show T.take k = T from List.take_of_length_le (by have := HTL.out; omega)] at HRK
          clear hrk y0 y2 y3 q0
          have q00 := HRK.out.q
          have y1 := KPW.out _ HRK.out.below _ _ _ hBb HX.out.2.1
          rw [HM.out] at y1
          go_wp2_with fail
          clear q00 y1
          go_loopg [5, 8] M (fun g cv jv wq => ∃ j : Nat, j + g = M ∧ jv = .int .i64 j ∧ RefAt W qb lb (.slice (some ⟨b, 0, none⟩) N ac) (step o (t.line, t.col) (hasN T t.nm || dupC C (t.cs.take j))) cv (C ++ t.cs.take j) wq)
          case atStart => exact ⟨0, by omega, rfl, by simpa [dupC] using HRK.out⟩
          case round =>
            clear HRK
            obtain ⟨j, hjg, rfl, hrj⟩ := hrel
            have HRJ := Lib.hid hrj
            have q0 := hrj.q
            have y1 := KPW.out _ hrj.below _ _ _ hBb HX.out.2.1
            have y2 := KPW.out _ hrj.below _ _ _ hBb HX.out.2.2.1
            have y3 := KPW.out _ hrj.below _ _ _ hBb HX.out.2.2.2
            rw [HM.out] at y1
            by_cases hj : j < M
            · obtain ⟨b2, o2, sj, rfl, hsj, hsz, hB2, hcs⟩ := HNS.out.one (i := j) (by have := HM.out; omega)
              have y5 := KPW.out _ hrj.below _ _ _ hB2 hcs
              have hnm : NamesIn (fun k => k < wr.heap.size) wr u5 (C ++ t.cs.take j) := names_of_own hrj.own (fun s hs => by
                rcases List.mem_append.1 hs with h | h
                · exact HCS.out s h
                · exact HNS.out.small s (List.mem_of_mem_take h))
              have HNM := Lib.hid hnm
              have HDT := Lib.hid (dupC_take hsj C)
              have hcl : (C ++ t.cs.take j).length ≤ 1000 := by rw [List.length_append, List.length_take]; omega
              have hlw : lb + 1 ≤ wr.heap.size := by have := World.block_lt_of_cell? wr _ hrj.look.c2; show lb < wr.heap.size; exact this
              clear hsj hcs hnm hrj
              generalize (C ++ t.cs.take j) = Cj at HRJ HNM HDT hcl ⊢
              go_wp2_with fail
              refine (rhas_any _ sj wr u5 Cj HNM.out).mono ?_
              rintro e w1 ⟨rfl, hw⟩
              rw [hw]
              clear hw w1
              cases hC : hasN Cj sj
              · go_wp2_with (at_builtin; refine wpList_append_lies _ rfl (.tmp 78) (.tmp 88) 22 rfl (lb + 1) 9 i0 _ 1 16 Tryz.underlying22 hi0 hz0 hz1 hz2 rfl (by decide) u5 _ _ rfl (HRJ.out.own.alloc _) ⟨wr.heap.size, 0, none⟩ 1 1 [.string sj] rfl rfl ?_ ?_ (by omega) ?_ ?_ ?_ _ rfl ?_; rotate_left 5; intro g2 cap2 w5 hown hgrow hat hlt2; have HP := Lib.hid (HRJ.out.push hown hgrow); clear hown hgrow hat)
                · go_roundg (M - (j + 1))
                  case measure => omega
                  case rel => exact ⟨j + 1, by omega, by go_num, by rw [HDT.out.1, HDT.out.2, hC, Bool.or_false]; exact HP.out⟩
                · intro jj u hj
                  rcases jj with _ | jj <;> simp at hj
                  subst hj
                  simp [Addr.add, go_sem]
                · intro u hu
                  simp at hu
                  subst hu
                  rfl
                · unfold maxLen; omega
                · omega
                · simp; omega
              · go_wp2_with fail
                refine (fail_any lb _ (t.line, t.col) wr HRJ.out.look).mono ?_
                rintro e w3 ⟨rfl, hl3, hk3⟩
                have HR3 := Lib.hid (HRJ.out.fail hl3 hk3)
                have p0 := HR3.out.q
                have p1 := KPW.out _ HR3.out.below _ _ _ hBb HX.out.2.1
                rw [HM.out] at p1
                have p5 := hk3.cell y5 (by have := HR3.out.ql; omega)
                have hlw3 : lb + 1 ≤ w3.heap.size := Nat.le_trans hlw hk3.size
                clear hl3 hk3 q0 y1 y2 y3 y5
                go_wp2_with (at_builtin; refine wpList_append_lies _ rfl (.tmp 78) (.tmp 88) 22 rfl (lb + 1) 9 i0 _ 1 16 Tryz.underlying22 hi0 hz0 hz1 hz2 rfl (by decide) u5 _ _ rfl (HR3.out.own.alloc _) ⟨w3.heap.size, 0, none⟩ 1 1 [.string sj] rfl rfl ?_ ?_ (by omega) ?_ ?_ ?_ _ rfl ?_; rotate_left 5; intro g2 cap2 w5 hown hgrow hat hlt2; have HP := Lib.hid (HR3.out.push hown hgrow); clear hown hgrow hat)
                · go_roundg (M - (j + 1))
                  case measure => omega
                  case rel => exact ⟨j + 1, by omega, by go_num, by
                    rw [HDT.out.1, HDT.out.2, hC, Bool.or_true]
                    have h := HP.out
                    rw [step_step, Bool.or_true] at h
                    rw [Bool.or_true]
                    exact h⟩
                · intro jj u hj
                  rcases jj with _ | jj <;> simp at hj
                  subst hj
                  simp [Addr.add, go_sem]
                · intro u hu
                  simp at hu
                  subst hu
                  rfl
                · unfold maxLen; omega
                · omega
                · simp; omega
            · rw [show t.cs.take j = t.cs from List.take_of_length_le (by have := HM.out; omega)] at HRJ
              clear hrj y2 y3
              go_wp2
              go_roundg (N - (k + 1))
              case measure => omega
              case rel => exact ⟨k + 1, by omega, by go_num, by rw [HFT.out, HTN.out.2]; exact HRJ.out⟩
    · rw [show ts.take i = ts from List.take_of_length_le (by have := HN.out; omega)] at hrf
      have HRF := Lib.hid hrf
      have q0 := hrf.q
      have q1 := hrf.q1
      have l2 := hrf.look.c2
      have l3 := hrf.look.c3
      have l4 := hrf.look.c4
      have r0 : wr.cell? ⟨qb + 1, 0, none⟩ = some (.int .i64 0) := by rw [cell_of_row wr (qb + 1) 0 _ _ _ hrf.rz]; rfl
      have r1 : wr.cell? ⟨qb + 1, 1, none⟩ = some (.int .i64 0) := by rw [cell_of_row wr (qb + 1) 1 _ _ _ hrf.rz]; rfl
      have s0 : ∀ o, wr.frozen? ⟨qb + 1, o, none⟩ = false := fun o => by simp [World.frozen?, hrf.rz]
      have s00 := s0 0
      have s01 := s0 1
      have hne : lb ≠ qb + 1 := by have := hrf.ql; omega
      clear hrf s0
      go_wp2_with fail
      go_loopg [9] 0 (fun g v wq => v = .int .i64 0 ∧ wr = wq)
      case atStart => exact ⟨rfl, rfl⟩
      case round =>
        obtain ⟨rfl, rfl⟩ := hrel
        go_wp2_with fail
        go_loopg [10] 0 (fun g v wq => v = .int .i64 0 ∧ wr = wq)
        case atStart => exact ⟨rfl, rfl⟩
        case round =>
          obtain ⟨rfl, rfl⟩ := hrel
          go_wp2_with fail
          go_loopg [11] 0 (fun g v wq => v = .int .i64 0 ∧ wr = wq)
          case atStart => exact ⟨rfl, rfl⟩
          case round =>
            obtain ⟨rfl, rfl⟩ := hrel
            go_wp2_with fail
            obtain ⟨vk, hvk⟩ : ∃ x, lk (posE (firstBad ts [] [])) = x := ⟨_, rfl⟩
            obtain ⟨vl, hvl⟩ : ∃ x, ll (posE (firstBad ts [] [])) = x := ⟨_, rfl⟩
            obtain ⟨vc, hvc⟩ : ∃ x, lc' (posE (firstBad ts [] [])) = x := ⟨_, rfl⟩
            rw [hvk] at l2
            rw [hvl] at l3
            rw [hvc] at l4
            have HV := Lib.hid (And.intro hvk (And.intro hvl hvc))
            clear hvk hvl hvc
            go_region
            all_goals
              have z0 : ((wr.setCell ⟨qb + 1, 0, none⟩ (.int .i64 vl)).setCell ⟨qb + 1, 1, none⟩ (.int .i64 vc)).cell? ⟨qb + 1, 0, none⟩ = some (.int .i64 vl) := by simp [go_sem, r0]
              have z1 : ((wr.setCell ⟨qb + 1, 0, none⟩ (.int .i64 vl)).setCell ⟨qb + 1, 1, none⟩ (.int .i64 vc)).cell? ⟨qb + 1, 1, none⟩ = some (.int .i64 vc) := by simp [go_sem, r1]
              have hfin : Below W.heap.size W ((wr.setCell ⟨qb + 1, 0, none⟩ (.int .i64 vl)).setCell ⟨qb + 1, 1, none⟩ (.int .i64 vc)) := by
                have k : Keeps (fun k => k = qb + 1) wr ((wr.setCell ⟨qb + 1, 0, none⟩ (.int .i64 vl)).setCell ⟨qb + 1, 1, none⟩ (.int .i64 vc)) := ((Keeps.refl (fun k => k = qb + 1) wr).setCell (p := ⟨qb + 1, 0, none⟩) rfl _).setCell (p := ⟨qb + 1, 1, none⟩) rfl _
                have hB := HRF.out.below
                have hz := hB.size
                refine ⟨k.os.trans hB.os, k.tape.trans hB.tape, k.output.trans hB.output, Nat.le_trans hB.size k.size, fun j hj => ?_⟩
                rw [k.block j (by omega) (by have := HQB.out; omega), hB.block j hj]
              have HFIN := Lib.hid hfin
              generalize (wr.setCell ⟨qb + 1, 0, none⟩ (.int .i64 vl)).setCell ⟨qb + 1, 1, none⟩ (.int .i64 vc) = wF at z0 z1 HFIN ⊢
              clear hfin r0 r1 s00 s01 l2 l3 l4 q0 q1
              go_wp2_with fail
              exact bodyPost_ret (v := .tuple #[.int .i64 vk, .agg #[.int .i64 vl, .int .i64 vc]]) (by simp [results, Tryz.results9, go_sem, z0, z1]) rfl ⟨by rw [HV.out.1, HV.out.2.1, HV.out.2.2], by first | exact HFIN.out | exact HFIN.out.drew⟩
end Tx
end Go.Proofs.YtecfknbhnhcioaaGreatDoor
