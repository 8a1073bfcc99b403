/- The last statement of the law on variables: in whichever order its parts are done. -/
import Derived.Test.YtggoejghnlgigaaTvt
import Derived.Deep.RegionHeld3
namespace Go.Proofs.Ytggoejghnlgigaa
open Go.ChangeShapes Go.WideShapes Go.ChangeAt Go.RowKit Go.Maps Go.Joins
namespace Tx
set_option linter.unusedVariables false
set_option linter.unusedSimpArgs false
theorem bt {n : Nat} {w W1 w2 : World} (hn : n = w.heap.size) (a : Below n w W1) (b : Below W1.heap.size W1 w2) : Below n w w2 := a.trans (b.mono (by subst hn; exact a.size))
theorem stays {w w2 : World} (hb : Below w.heap.size w w2) {b : Nat} {x : Obj} (h : w.heap[b]? = some x) : w2.heap[b]? = some x := (hb.block b (Array.getElem?_eq_some_iff.1 h).1).trans h
theorem bel_alloc {w W : World} {o : Obj} (h : Below w.heap.size w W) : Below w.heap.size w (W.alloc o) := h.alloc h.size o
theorem blk_new {w : World} {o : Obj} {b : Nat} (h : b = w.heap.size) : (w.alloc o).heap[b]? = some o := by
  subst h
  have key : ∀ (a : Array Obj) (o : Obj), (a.push o)[a.size]? = some o := by intro a o; simp
  exact key _ _
theorem blk_old {w : World} {o x : Obj} {b : Nat} (h : w.heap[b]? = some x) : (w.alloc o).heap[b]? = some x := by
  have hb := (Array.getElem?_eq_some_iff.1 h).1
  exact (((Below.refl w.heap.size w).alloc (Nat.le_refl _) o).block b hb).trans h
theorem blk_drew {w : World} {x : Obj} {b : Nat} (h : w.heap[b]? = some x) : w.drew.heap[b]? = some x := h
theorem load_y {P : Program} {a : Act} {o : Oper} {w : World} (ty : TypeId) (x : Operand) (ho : o.op = .load ty x) (g : Nat) (hx : a.eval x = .pointer (some ⟨g, 0, none⟩)) (t : TypeId) (cs : Array Value) (fr : Nat × Nat) (d : TypeDesc)
    (hg : w.heap[g]? = some (.cells cs t fr)) (hu : P.underlying ty = some d) (hd : (match d with | .struct _ | .array _ _ => true | _ => false) = true) (hi : (P.info? ty).map (·.size) = some cs.size) : (execOp a.eval o).run P w = .ok (.value (.agg cs)) w := by
  unfold execOp
  simp only [ho, hx, Instr.loadAt, Instr.sureAddr, Sem.run_bind, Sem.run_pure, Result.andThen_ok, run_loadVar_row w g t ty cs fr d hg hu hd hi]
theorem infoVar : (Try.prog.info? 32).map (·.size) = some 15 := by kernel_rfl
set_option maxRecDepth 1000000 in
set_option maxHeartbeats 8000000 in
theorem vars_tail (w : World) (p : Nat) (u0 u1 u2 u3 u4 u5 u6 u7 u8 u9 u10 u11 u12 u13 u14 v0 v1 v2 v3 v4 v5 v6 v7 v8 v9 v10 v11 v12 v13 v14 : Value) (q : Bool) (zA : p < w.heap.size) (hgx : w.heap[p]? = some (.cells #[u0, u1, u2, u3, u4, u5, u6, u7, u8, u9, u10, u11, u12, u13, u14] 32 (0, 0)))
    (HC3 : ∀ w', Below w.heap.size w w' → Calls Try.prog 8 #[.agg #[u0, u1, u2, u3, u4, u5, u6, u7, u8, u9, u10, u11, u12, u13, u14], .agg #[u0, u1, u2, u3, u4, u5, u6, u7, u8, u9, u10, u11, u12, u13, u14]] w' (Ans w' true))
    (HC2 : ∀ w' bx bY, Below w.heap.size w w' → w'.heap[bx]? = some (.cells #[u0, u1, u2, u3, u4, u5, u6, u7, u8, u9, u10, u11, u12, u13, u14] 32 (0, 0)) → w'.heap[bY]? = some (.cells #[v0, v1, v2, v3, v4, v5, v6, v7, v8, v9, v10, v11, v12, v13, v14] 32 (0, 0)) → Calls Try.prog 9 #[.slice (some ⟨bx, 0, none⟩) 1 1, .slice (some ⟨bY, 0, none⟩) 1 1] w' (Ans w' q))
    (w2 : World) (bx bY : Nat) (hS : Below w.heap.size w w2) (hbx : w2.heap[bx]? = some (.cells #[u0, u1, u2, u3, u4, u5, u6, u7, u8, u9, u10, u11, u12, u13, u14] 32 (0, 0))) (hbY : w2.heap[bY]? = some (.cells #[v0, v1, v2, v3, v4, v5, v6, v7, v8, v9, v10, v11, v12, v13, v14] 32 (0, 0)))
    (c0 c1 c4 c5 c6 c7 c8 c9 c10 c11 c12 c13 c14 c15 c16 c17 c18 c19 c20 c21 c22 c23 c24 c25 c35 c36 c37 c38 c39 c40 c41 c42 : Value) (listed : Array Bool) (hl : listed = #[true, true, true, true, true, true, true, true, true, false, false, false, false, false, false, false, false, false]) (Q : Exit → Act → World → Prop)
    (hQ : ∀ (c : _) (a : Act) (d : _) (v : Value) (w2 : World), Q (.panic c) (a.put d v) w2 → Q (.panic c) a w2) (hexit : ∀ (s26 s27 s28 s29 s30 s31 s32 s33 s34 s35 s36 s37 s38 s39 s40 s41 s42 : Value) (w' : World), Below w.heap.size w w' → Q .normal ⟨#[c0, c1, .pointer (some ⟨p, 0, none⟩), .pointer (some ⟨p + 1, 0, none⟩), .bool true, c5, c6, c7, c8, c9, c10, c11, c12, c13, c14, c15, c16, c17, c18, c19, c20, c21, c22, c23, c24, c25, s26, s27, s28, s29, s30, s31, s32, s33, s34, s35, s36, s37, s38, s39, s40, s41, s42], []⟩ w') :
    wpAnyH Try.prog .any #[{ dst := some 26, op := Op.call { callee := Callee.value (Operand.func 7), args := #[], argTypes := #[] }, type := 4, pos := "law.go:95", after := #[], guard := none }, { dst := some 27, op := Op.move (Operand.tmp 26), type := 4, pos := "law.go:95", after := #[{ on := 0, ground := Ground.data }, { on := 0, ground := Ground.chain }], guard := none }, { dst := some 28, op := Op.load 32 (Operand.tmp 2), type := 32, pos := "law.go:95", after := #[{ on := 1, ground := Ground.guard }], guard := some (1, true) }, { dst := some 29, op := Op.load 32 (Operand.tmp 3), type := 32, pos := "law.go:95", after := #[{ on := 1, ground := Ground.guard }], guard := some (1, true) }, { dst := some 30, op := Op.call { callee := Callee.value (Operand.func 8), args := #[Operand.tmp 28, Operand.tmp 29], argTypes := #[32, 32] }, type := 4, pos := "law.go:95", after := #[{ on := 2, ground := Ground.data }, { on := 3, ground := Ground.data }, { on := 1, ground := Ground.chain }, { on := 1, ground := Ground.guard }], guard := some (1, true) }, { dst := some 31, op := Op.load 32 (Operand.tmp 2), type := 32, pos := "law.go:95", after := #[{ on := 1, ground := Ground.guard }], guard := some (1, true) }, { dst := some 32, op := Op.buildSlice 37 1 #[(0, Operand.tmp 31)], type := 37, pos := "law.go:95", after := #[{ on := 5, ground := Ground.data }, { on := 1, ground := Ground.guard }], guard := some (1, true) }, { dst := some 33, op := Op.load 32 (Operand.tmp 3), type := 32, pos := "law.go:95", after := #[{ on := 1, ground := Ground.guard }], guard := some (1, true) }, { dst := some 34, op := Op.buildSlice 37 1 #[(0, Operand.tmp 33)], type := 37, pos := "law.go:95", after := #[{ on := 7, ground := Ground.data }, { on := 1, ground := Ground.guard }], guard := some (1, true) }, { dst := some 35, op := Op.call { callee := Callee.value (Operand.func 9), args := #[Operand.tmp 32, Operand.tmp 34], argTypes := #[37, 37] }, type := 4, pos := "law.go:95", after := #[{ on := 6, ground := Ground.data }, { on := 8, ground := Ground.data }, { on := 4, ground := Ground.chain }, { on := 1, ground := Ground.guard }], guard := some (1, true) }, { dst := some 36, op := Op.binOp BinOp.eql 4 (Operand.tmp 30) (Operand.tmp 35) 4, type := 4, pos := "law.go:95", after := #[{ on := 4, ground := Ground.data }, { on := 9, ground := Ground.data }, { on := 1, ground := Ground.guard }], guard := some (1, true) }, { dst := some 37, op := Op.pick (Operand.tmp 27) (Operand.tmp 36) (Operand.const (Value.bool false)), type := 4, pos := "law.go:95", after := #[{ on := 1, ground := Ground.data }, { on := 10, ground := Ground.data }], guard := none }, { dst := some 38, op := Op.move (Operand.tmp 37), type := 4, pos := "law.go:95", after := #[{ on := 11, ground := Ground.data }, { on := 9, ground := Ground.chain }], guard := none }, { dst := some 39, op := Op.load 32 (Operand.tmp 2), type := 32, pos := "law.go:95", after := #[{ on := 12, ground := Ground.guard }], guard := some (12, true) }, { dst := some 40, op := Op.load 32 (Operand.tmp 2), type := 32, pos := "law.go:95", after := #[{ on := 12, ground := Ground.guard }], guard := some (12, true) }, { dst := some 41, op := Op.call { callee := Callee.value (Operand.func 8), args := #[Operand.tmp 39, Operand.tmp 40], argTypes := #[32, 32] }, type := 4, pos := "law.go:95", after := #[{ on := 13, ground := Ground.data }, { on := 14, ground := Ground.data }, { on := 12, ground := Ground.chain }, { on := 12, ground := Ground.guard }], guard := some (12, true) }, { dst := some 42, op := Op.pick (Operand.tmp 38) (Operand.tmp 41) (Operand.const (Value.bool false)), type := 4, pos := "law.go:95", after := #[{ on := 12, ground := Ground.data }, { on := 15, ground := Ground.data }], guard := none }, { dst := some 4, op := Op.assign (Operand.tmp 42), type := 4, pos := "law.go:95", after := #[{ on := 16, ground := Ground.data }, { on := 15, ground := Ground.chain }, { on := 0, ground := Ground.phase }, { on := 1, ground := Ground.phase }, { on := 2, ground := Ground.phase }, { on := 3, ground := Ground.phase }, { on := 4, ground := Ground.phase }, { on := 5, ground := Ground.phase }, { on := 6, ground := Ground.phase }, { on := 7, ground := Ground.phase }, { on := 8, ground := Ground.phase }, { on := 9, ground := Ground.phase }, { on := 10, ground := Ground.phase }, { on := 11, ground := Ground.phase }, { on := 12, ground := Ground.phase }, { on := 13, ground := Ground.phase }, { on := 14, ground := Ground.phase }, { on := 15, ground := Ground.phase }, { on := 16, ground := Ground.phase }], guard := none }] Q (Below w.heap.size w) 9 listed ⟨#[c0, c1, .pointer (some ⟨p, 0, none⟩), .pointer (some ⟨p + 1, 0, none⟩), c4, c5, c6, c7, c8, c9, c10, c11, c12, c13, c14, c15, c16, c17, c18, c19, c20, c21, c22, c23, c24, c25, .bool true, .bool true, .agg #[u0, u1, u2, u3, u4, u5, u6, u7, u8, u9, u10, u11, u12, u13, u14], .agg #[v0, v1, v2, v3, v4, v5, v6, v7, v8, v9, v10, v11, v12, v13, v14], .bool q, .agg #[u0, u1, u2, u3, u4, u5, u6, u7, u8, u9, u10, u11, u12, u13, u14], .slice (some ⟨bx, 0, none⟩) 1 1, .agg #[v0, v1, v2, v3, v4, v5, v6, v7, v8, v9, v10, v11, v12, v13, v14], .slice (some ⟨bY, 0, none⟩) 1 1, c35, c36, c37, c38, c39, c40, c41, c42], []⟩ w2 := by
  subst hl
  refine wpAnyH_ready (rs := [9]) (by kernel_rfl) (by simp) ?_
  refine AllReadyH.cons (i := 9) (o := { dst := some 35, op := Op.call { callee := Callee.value (Operand.func 9), args := #[Operand.tmp 32, Operand.tmp 34], argTypes := #[37, 37] }, type := 4, pos := "law.go:95", after := #[{ on := 6, ground := Ground.data }, { on := 8, ground := Ground.data }, { on := 4, ground := Ground.chain }, { on := 1, ground := Ground.guard }], guard := some (1, true) }) rfl (fun K hK => ?_) AllReadyH.nil
  rw [if_pos (by rfl)]
  go_simp
  refine (HC2 w2 bx bY hS hbx hbY).mono ?_
  rintro e w3 ⟨rfl, hb3⟩
  first | (refine hK.out _ _ (bt rfl hS hb3) (fun _ => ?_)) | (go_wp2_with fail; refine hK.out _ _ (bt rfl hS hb3) (fun _ => ?_))
  clear hK K
  (try simp only [Act.put, List.setIfInBounds_toArray, List.set_cons_zero, List.set_cons_succ])
  have hS3 := bt rfl hS hb3
  refine wpAnyH_take (i := 10) (oi := { dst := some 36, op := Op.binOp BinOp.eql 4 (Operand.tmp 30) (Operand.tmp 35) 4, type := 4, pos := "law.go:95", after := #[{ on := 4, ground := Ground.data }, { on := 9, ground := Ground.data }, { on := 1, ground := Ground.guard }], guard := some (1, true) }) (v := .bool true) rfl (by kernel_rfl) (by kernel_rfl) (by kernel_rfl) (fun _ _ _ h => hQ _ _ _ _ _ h) (Or.inl ⟨by rfl, ?_⟩) hS3 ?_
  · intro wz _; go_simp
  simp only [Act.put, List.setIfInBounds_toArray, List.set_cons_zero, List.set_cons_succ]
  refine wpAnyH_take (i := 11) (oi := { dst := some 37, op := Op.pick (Operand.tmp 27) (Operand.tmp 36) (Operand.const (Value.bool false)), type := 4, pos := "law.go:95", after := #[{ on := 1, ground := Ground.data }, { on := 10, ground := Ground.data }], guard := none }) (v := .bool true) rfl (by kernel_rfl) (by kernel_rfl) (by kernel_rfl) (fun _ _ _ h => hQ _ _ _ _ _ h) (Or.inl ⟨by rfl, ?_⟩) hS3 ?_
  · intro wz _; go_simp
  simp only [Act.put, List.setIfInBounds_toArray, List.set_cons_zero, List.set_cons_succ]
  refine wpAnyH_take (i := 12) (oi := { dst := some 38, op := Op.move (Operand.tmp 37), type := 4, pos := "law.go:95", after := #[{ on := 11, ground := Ground.data }, { on := 9, ground := Ground.chain }], guard := none }) (v := .bool true) rfl (by kernel_rfl) (by kernel_rfl) (by kernel_rfl) (fun _ _ _ h => hQ _ _ _ _ _ h) (Or.inl ⟨by rfl, ?_⟩) hS3 ?_
  · intro wz _; go_simp
  simp only [Act.put, List.setIfInBounds_toArray, List.set_cons_zero, List.set_cons_succ]
  refine wpAnyH_take (i := 13) (oi := { dst := some 39, op := Op.load 32 (Operand.tmp 2), type := 32, pos := "law.go:95", after := #[{ on := 12, ground := Ground.guard }], guard := some (12, true) }) (v := .agg #[u0, u1, u2, u3, u4, u5, u6, u7, u8, u9, u10, u11, u12, u13, u14]) rfl (by kernel_rfl) (by kernel_rfl) (by kernel_rfl) (fun _ _ _ h => hQ _ _ _ _ _ h) (Or.inl ⟨by rfl, ?_⟩) hS3 ?_
  · exact fun wz hz => load_y 32 _ rfl _ rfl 32 _ (0, 0) _ ((hz.block _ zA).trans hgx) Try.underlying32 rfl infoVar
  simp only [Act.put, List.setIfInBounds_toArray, List.set_cons_zero, List.set_cons_succ]
  refine wpAnyH_take (i := 14) (oi := { dst := some 40, op := Op.load 32 (Operand.tmp 2), type := 32, pos := "law.go:95", after := #[{ on := 12, ground := Ground.guard }], guard := some (12, true) }) (v := .agg #[u0, u1, u2, u3, u4, u5, u6, u7, u8, u9, u10, u11, u12, u13, u14]) rfl (by kernel_rfl) (by kernel_rfl) (by kernel_rfl) (fun _ _ _ h => hQ _ _ _ _ _ h) (Or.inl ⟨by rfl, ?_⟩) hS3 ?_
  · exact fun wz hz => load_y 32 _ rfl _ rfl 32 _ (0, 0) _ ((hz.block _ zA).trans hgx) Try.underlying32 rfl infoVar
  simp only [Act.put, List.setIfInBounds_toArray, List.set_cons_zero, List.set_cons_succ]
  refine wpAnyH_ready (rs := [15]) (by kernel_rfl) (by simp) ?_
  refine AllReadyH.cons (i := 15) (o := { dst := some 41, op := Op.call { callee := Callee.value (Operand.func 8), args := #[Operand.tmp 39, Operand.tmp 40], argTypes := #[32, 32] }, type := 4, pos := "law.go:95", after := #[{ on := 13, ground := Ground.data }, { on := 14, ground := Ground.data }, { on := 12, ground := Ground.chain }, { on := 12, ground := Ground.guard }], guard := some (12, true) }) rfl (fun K hK => ?_) AllReadyH.nil
  rw [if_pos (by rfl)]
  go_simp
  refine (HC3 w3 hS3).mono ?_
  rintro e w4 ⟨rfl, hb4⟩
  first | (refine hK.out _ _ (bt rfl hS3 hb4) (fun _ => ?_)) | (go_wp2_with fail; refine hK.out _ _ (bt rfl hS3 hb4) (fun _ => ?_))
  clear hK K
  (try simp only [Act.put, List.setIfInBounds_toArray, List.set_cons_zero, List.set_cons_succ])
  have hS4 := bt rfl hS3 hb4
  refine wpAnyH_take (i := 16) (oi := { dst := some 42, op := Op.pick (Operand.tmp 38) (Operand.tmp 41) (Operand.const (Value.bool false)), type := 4, pos := "law.go:95", after := #[{ on := 12, ground := Ground.data }, { on := 15, ground := Ground.data }], guard := none }) (v := .bool true) rfl (by kernel_rfl) (by kernel_rfl) (by kernel_rfl) (fun _ _ _ h => hQ _ _ _ _ _ h) (Or.inl ⟨by rfl, ?_⟩) hS4 ?_
  · intro wz _; go_simp
  simp only [Act.put, List.setIfInBounds_toArray, List.set_cons_zero, List.set_cons_succ]
  refine wpAnyH_take (i := 17) (oi := { dst := some 4, op := Op.assign (Operand.tmp 42), type := 4, pos := "law.go:95", after := #[{ on := 16, ground := Ground.data }, { on := 15, ground := Ground.chain }, { on := 0, ground := Ground.phase }, { on := 1, ground := Ground.phase }, { on := 2, ground := Ground.phase }, { on := 3, ground := Ground.phase }, { on := 4, ground := Ground.phase }, { on := 5, ground := Ground.phase }, { on := 6, ground := Ground.phase }, { on := 7, ground := Ground.phase }, { on := 8, ground := Ground.phase }, { on := 9, ground := Ground.phase }, { on := 10, ground := Ground.phase }, { on := 11, ground := Ground.phase }, { on := 12, ground := Ground.phase }, { on := 13, ground := Ground.phase }, { on := 14, ground := Ground.phase }, { on := 15, ground := Ground.phase }, { on := 16, ground := Ground.phase }], guard := none }) (v := .bool true) rfl (by kernel_rfl) (by kernel_rfl) (by kernel_rfl) (fun _ _ _ h => hQ _ _ _ _ _ h) (Or.inl ⟨by rfl, ?_⟩) hS4 ?_
  · intro wz _; go_simp
  simp only [Act.put, List.setIfInBounds_toArray, List.set_cons_zero, List.set_cons_succ]
  refine wpAnyH_done (by kernel_rfl) ?_ _
  exact hexit _ _ _ _ _ _ _ _ _ _ _ _ _ _ _ _ _ _ hS4
set_option maxRecDepth 1000000 in
set_option maxHeartbeats 16000000 in
theorem vars_part (w : World) (p : Nat) (u0 u1 u2 u3 u4 u5 u6 u7 u8 u9 u10 u11 u12 u13 u14 v0 v1 v2 v3 v4 v5 v6 v7 v8 v9 v10 v11 v12 v13 v14 : Value) (q : Bool) (zB : p + 1 < w.heap.size) (hgx : w.heap[p]? = some (.cells #[u0, u1, u2, u3, u4, u5, u6, u7, u8, u9, u10, u11, u12, u13, u14] 32 (0, 0)))
    (hgy : w.heap[p + 1]? = some (.cells #[v0, v1, v2, v3, v4, v5, v6, v7, v8, v9, v10, v11, v12, v13, v14] 32 (0, 0)))
    (HC1 : ∀ w', Below w.heap.size w w' → Calls Try.prog 8 #[.agg #[u0, u1, u2, u3, u4, u5, u6, u7, u8, u9, u10, u11, u12, u13, u14], .agg #[v0, v1, v2, v3, v4, v5, v6, v7, v8, v9, v10, v11, v12, v13, v14]] w' (Ans w' q))
    (HC3 : ∀ w', Below w.heap.size w w' → Calls Try.prog 8 #[.agg #[u0, u1, u2, u3, u4, u5, u6, u7, u8, u9, u10, u11, u12, u13, u14], .agg #[u0, u1, u2, u3, u4, u5, u6, u7, u8, u9, u10, u11, u12, u13, u14]] w' (Ans w' true))
    (HC2 : ∀ w' bx bY, Below w.heap.size w w' → w'.heap[bx]? = some (.cells #[u0, u1, u2, u3, u4, u5, u6, u7, u8, u9, u10, u11, u12, u13, u14] 32 (0, 0)) → w'.heap[bY]? = some (.cells #[v0, v1, v2, v3, v4, v5, v6, v7, v8, v9, v10, v11, v12, v13, v14] 32 (0, 0)) → Calls Try.prog 9 #[.slice (some ⟨bx, 0, none⟩) 1 1, .slice (some ⟨bY, 0, none⟩) 1 1] w' (Ans w' q))
    (c0 c1 c4 c5 c6 c7 c8 c9 c10 c11 c12 c13 c14 c15 c16 c17 c18 c19 c20 c21 c22 c23 c24 c25 c26 c27 c28 c29 c30 c31 c32 c33 c34 c35 c36 c37 c38 c39 c40 c41 c42 : Value) (Q : Exit → Act → World → Prop)
    (hQ : ∀ (c : _) (a : Act) (d : _) (v : Value) (w2 : World), Q (.panic c) (a.put d v) w2 → Q (.panic c) a w2) (hexit : ∀ (s26 s27 s28 s29 s30 s31 s32 s33 s34 s35 s36 s37 s38 s39 s40 s41 s42 : Value) (w' : World), Below w.heap.size w w' → Q .normal ⟨#[c0, c1, .pointer (some ⟨p, 0, none⟩), .pointer (some ⟨p + 1, 0, none⟩), .bool true, c5, c6, c7, c8, c9, c10, c11, c12, c13, c14, c15, c16, c17, c18, c19, c20, c21, c22, c23, c24, c25, s26, s27, s28, s29, s30, s31, s32, s33, s34, s35, s36, s37, s38, s39, s40, s41, s42], []⟩ w') :
    Code.wp Try.prog (Code.region 3 #[{ dst := some 26, op := Op.call { callee := Callee.value (Operand.func 7), args := #[], argTypes := #[] }, type := 4, pos := "law.go:95", after := #[], guard := none }, { dst := some 27, op := Op.move (Operand.tmp 26), type := 4, pos := "law.go:95", after := #[{ on := 0, ground := Ground.data }, { on := 0, ground := Ground.chain }], guard := none }, { dst := some 28, op := Op.load 32 (Operand.tmp 2), type := 32, pos := "law.go:95", after := #[{ on := 1, ground := Ground.guard }], guard := some (1, true) }, { dst := some 29, op := Op.load 32 (Operand.tmp 3), type := 32, pos := "law.go:95", after := #[{ on := 1, ground := Ground.guard }], guard := some (1, true) }, { dst := some 30, op := Op.call { callee := Callee.value (Operand.func 8), args := #[Operand.tmp 28, Operand.tmp 29], argTypes := #[32, 32] }, type := 4, pos := "law.go:95", after := #[{ on := 2, ground := Ground.data }, { on := 3, ground := Ground.data }, { on := 1, ground := Ground.chain }, { on := 1, ground := Ground.guard }], guard := some (1, true) }, { dst := some 31, op := Op.load 32 (Operand.tmp 2), type := 32, pos := "law.go:95", after := #[{ on := 1, ground := Ground.guard }], guard := some (1, true) }, { dst := some 32, op := Op.buildSlice 37 1 #[(0, Operand.tmp 31)], type := 37, pos := "law.go:95", after := #[{ on := 5, ground := Ground.data }, { on := 1, ground := Ground.guard }], guard := some (1, true) }, { dst := some 33, op := Op.load 32 (Operand.tmp 3), type := 32, pos := "law.go:95", after := #[{ on := 1, ground := Ground.guard }], guard := some (1, true) }, { dst := some 34, op := Op.buildSlice 37 1 #[(0, Operand.tmp 33)], type := 37, pos := "law.go:95", after := #[{ on := 7, ground := Ground.data }, { on := 1, ground := Ground.guard }], guard := some (1, true) }, { dst := some 35, op := Op.call { callee := Callee.value (Operand.func 9), args := #[Operand.tmp 32, Operand.tmp 34], argTypes := #[37, 37] }, type := 4, pos := "law.go:95", after := #[{ on := 6, ground := Ground.data }, { on := 8, ground := Ground.data }, { on := 4, ground := Ground.chain }, { on := 1, ground := Ground.guard }], guard := some (1, true) }, { dst := some 36, op := Op.binOp BinOp.eql 4 (Operand.tmp 30) (Operand.tmp 35) 4, type := 4, pos := "law.go:95", after := #[{ on := 4, ground := Ground.data }, { on := 9, ground := Ground.data }, { on := 1, ground := Ground.guard }], guard := some (1, true) }, { dst := some 37, op := Op.pick (Operand.tmp 27) (Operand.tmp 36) (Operand.const (Value.bool false)), type := 4, pos := "law.go:95", after := #[{ on := 1, ground := Ground.data }, { on := 10, ground := Ground.data }], guard := none }, { dst := some 38, op := Op.move (Operand.tmp 37), type := 4, pos := "law.go:95", after := #[{ on := 11, ground := Ground.data }, { on := 9, ground := Ground.chain }], guard := none }, { dst := some 39, op := Op.load 32 (Operand.tmp 2), type := 32, pos := "law.go:95", after := #[{ on := 12, ground := Ground.guard }], guard := some (12, true) }, { dst := some 40, op := Op.load 32 (Operand.tmp 2), type := 32, pos := "law.go:95", after := #[{ on := 12, ground := Ground.guard }], guard := some (12, true) }, { dst := some 41, op := Op.call { callee := Callee.value (Operand.func 8), args := #[Operand.tmp 39, Operand.tmp 40], argTypes := #[32, 32] }, type := 4, pos := "law.go:95", after := #[{ on := 13, ground := Ground.data }, { on := 14, ground := Ground.data }, { on := 12, ground := Ground.chain }, { on := 12, ground := Ground.guard }], guard := some (12, true) }, { dst := some 42, op := Op.pick (Operand.tmp 38) (Operand.tmp 41) (Operand.const (Value.bool false)), type := 4, pos := "law.go:95", after := #[{ on := 12, ground := Ground.data }, { on := 15, ground := Ground.data }], guard := none }, { dst := some 4, op := Op.assign (Operand.tmp 42), type := 4, pos := "law.go:95", after := #[{ on := 16, ground := Ground.data }, { on := 15, ground := Ground.chain }, { on := 0, ground := Ground.phase }, { on := 1, ground := Ground.phase }, { on := 2, ground := Ground.phase }, { on := 3, ground := Ground.phase }, { on := 4, ground := Ground.phase }, { on := 5, ground := Ground.phase }, { on := 6, ground := Ground.phase }, { on := 7, ground := Ground.phase }, { on := 8, ground := Ground.phase }, { on := 9, ground := Ground.phase }, { on := 10, ground := Ground.phase }, { on := 11, ground := Ground.phase }, { on := 12, ground := Ground.phase }, { on := 13, ground := Ground.phase }, { on := 14, ground := Ground.phase }, { on := 15, ground := Ground.phase }, { on := 16, ground := Ground.phase }], guard := none }] true) Q ⟨#[c0, c1, .pointer (some ⟨p, 0, none⟩), .pointer (some ⟨p + 1, 0, none⟩), c4, c5, c6, c7, c8, c9, c10, c11, c12, c13, c14, c15, c16, c17, c18, c19, c20, c21, c22, c23, c24, c25, c26, c27, c28, c29, c30, c31, c32, c33, c34, c35, c36, c37, c38, c39, c40, c41, c42], []⟩ w := by
  have zA : p < w.heap.size := by omega
  refine wp_region_held_drew (S := Below w.heap.size w) (by kernel_rfl) (Below.refl _ _).drew (fun _ => ?_)
  rw [show (#[{ dst := some 26, op := Op.call { callee := Callee.value (Operand.func 7), args := #[], argTypes := #[] }, type := 4, pos := "law.go:95", after := #[], guard := none }, { dst := some 27, op := Op.move (Operand.tmp 26), type := 4, pos := "law.go:95", after := #[{ on := 0, ground := Ground.data }, { on := 0, ground := Ground.chain }], guard := none }, { dst := some 28, op := Op.load 32 (Operand.tmp 2), type := 32, pos := "law.go:95", after := #[{ on := 1, ground := Ground.guard }], guard := some (1, true) }, { dst := some 29, op := Op.load 32 (Operand.tmp 3), type := 32, pos := "law.go:95", after := #[{ on := 1, ground := Ground.guard }], guard := some (1, true) }, { dst := some 30, op := Op.call { callee := Callee.value (Operand.func 8), args := #[Operand.tmp 28, Operand.tmp 29], argTypes := #[32, 32] }, type := 4, pos := "law.go:95", after := #[{ on := 2, ground := Ground.data }, { on := 3, ground := Ground.data }, { on := 1, ground := Ground.chain }, { on := 1, ground := Ground.guard }], guard := some (1, true) }, { dst := some 31, op := Op.load 32 (Operand.tmp 2), type := 32, pos := "law.go:95", after := #[{ on := 1, ground := Ground.guard }], guard := some (1, true) }, { dst := some 32, op := Op.buildSlice 37 1 #[(0, Operand.tmp 31)], type := 37, pos := "law.go:95", after := #[{ on := 5, ground := Ground.data }, { on := 1, ground := Ground.guard }], guard := some (1, true) }, { dst := some 33, op := Op.load 32 (Operand.tmp 3), type := 32, pos := "law.go:95", after := #[{ on := 1, ground := Ground.guard }], guard := some (1, true) }, { dst := some 34, op := Op.buildSlice 37 1 #[(0, Operand.tmp 33)], type := 37, pos := "law.go:95", after := #[{ on := 7, ground := Ground.data }, { on := 1, ground := Ground.guard }], guard := some (1, true) }, { dst := some 35, op := Op.call { callee := Callee.value (Operand.func 9), args := #[Operand.tmp 32, Operand.tmp 34], argTypes := #[37, 37] }, type := 4, pos := "law.go:95", after := #[{ on := 6, ground := Ground.data }, { on := 8, ground := Ground.data }, { on := 4, ground := Ground.chain }, { on := 1, ground := Ground.guard }], guard := some (1, true) }, { dst := some 36, op := Op.binOp BinOp.eql 4 (Operand.tmp 30) (Operand.tmp 35) 4, type := 4, pos := "law.go:95", after := #[{ on := 4, ground := Ground.data }, { on := 9, ground := Ground.data }, { on := 1, ground := Ground.guard }], guard := some (1, true) }, { dst := some 37, op := Op.pick (Operand.tmp 27) (Operand.tmp 36) (Operand.const (Value.bool false)), type := 4, pos := "law.go:95", after := #[{ on := 1, ground := Ground.data }, { on := 10, ground := Ground.data }], guard := none }, { dst := some 38, op := Op.move (Operand.tmp 37), type := 4, pos := "law.go:95", after := #[{ on := 11, ground := Ground.data }, { on := 9, ground := Ground.chain }], guard := none }, { dst := some 39, op := Op.load 32 (Operand.tmp 2), type := 32, pos := "law.go:95", after := #[{ on := 12, ground := Ground.guard }], guard := some (12, true) }, { dst := some 40, op := Op.load 32 (Operand.tmp 2), type := 32, pos := "law.go:95", after := #[{ on := 12, ground := Ground.guard }], guard := some (12, true) }, { dst := some 41, op := Op.call { callee := Callee.value (Operand.func 8), args := #[Operand.tmp 39, Operand.tmp 40], argTypes := #[32, 32] }, type := 4, pos := "law.go:95", after := #[{ on := 13, ground := Ground.data }, { on := 14, ground := Ground.data }, { on := 12, ground := Ground.chain }, { on := 12, ground := Ground.guard }], guard := some (12, true) }, { dst := some 42, op := Op.pick (Operand.tmp 38) (Operand.tmp 41) (Operand.const (Value.bool false)), type := 4, pos := "law.go:95", after := #[{ on := 12, ground := Ground.data }, { on := 15, ground := Ground.data }], guard := none }, { dst := some 4, op := Op.assign (Operand.tmp 42), type := 4, pos := "law.go:95", after := #[{ on := 16, ground := Ground.data }, { on := 15, ground := Ground.chain }, { on := 0, ground := Ground.phase }, { on := 1, ground := Ground.phase }, { on := 2, ground := Ground.phase }, { on := 3, ground := Ground.phase }, { on := 4, ground := Ground.phase }, { on := 5, ground := Ground.phase }, { on := 6, ground := Ground.phase }, { on := 7, ground := Ground.phase }, { on := 8, ground := Ground.phase }, { on := 9, ground := Ground.phase }, { on := 10, ground := Ground.phase }, { on := 11, ground := Ground.phase }, { on := 12, ground := Ground.phase }, { on := 13, ground := Ground.phase }, { on := 14, ground := Ground.phase }, { on := 15, ground := Ground.phase }, { on := 16, ground := Ground.phase }], guard := none }] : Array Oper).size = 18 from rfl]
  have hS0 : Below w.heap.size w w.drew := (Below.refl _ _).drew
  refine wpAnyH_ready (rs := [0]) (by kernel_rfl) (by simp) ?_
  refine AllReadyH.cons (i := 0) (o := { dst := some 26, op := Op.call { callee := Callee.value (Operand.func 7), args := #[], argTypes := #[] }, type := 4, pos := "law.go:95", after := #[], guard := none }) rfl (fun K hK => ?_) AllReadyH.nil
  rw [if_pos (by rfl)]
  go_simp
  refine (awake_any _).mono ?_
  rintro e w9 ⟨rfl, hb9⟩
  first | (refine hK.out _ _ (bt rfl hS0 hb9) (fun _ => ?_)) | (go_wp2_with fail; refine hK.out _ _ (bt rfl hS0 hb9) (fun _ => ?_))
  clear hK K
  (try simp only [Act.put, List.setIfInBounds_toArray, List.set_cons_zero, List.set_cons_succ])
  have hS9 := bt rfl hS0 hb9
  refine wpAnyH_take (i := 1) (oi := { dst := some 27, op := Op.move (Operand.tmp 26), type := 4, pos := "law.go:95", after := #[{ on := 0, ground := Ground.data }, { on := 0, ground := Ground.chain }], guard := none }) (v := .bool true) rfl (by kernel_rfl) (by kernel_rfl) (by kernel_rfl) (fun _ _ _ h => hQ _ _ _ _ _ h) (Or.inl ⟨by rfl, ?_⟩) hS9 ?_
  · intro wz _; go_simp
  simp only [Act.put, List.setIfInBounds_toArray, List.set_cons_zero, List.set_cons_succ]
  refine wpAnyH_take (i := 2) (oi := { dst := some 28, op := Op.load 32 (Operand.tmp 2), type := 32, pos := "law.go:95", after := #[{ on := 1, ground := Ground.guard }], guard := some (1, true) }) (v := .agg #[u0, u1, u2, u3, u4, u5, u6, u7, u8, u9, u10, u11, u12, u13, u14]) rfl (by kernel_rfl) (by kernel_rfl) (by kernel_rfl) (fun _ _ _ h => hQ _ _ _ _ _ h) (Or.inl ⟨by rfl, ?_⟩) hS9 ?_
  · exact fun wz hz => load_y 32 _ rfl _ rfl 32 _ (0, 0) _ ((hz.block _ zA).trans hgx) Try.underlying32 rfl infoVar
  simp only [Act.put, List.setIfInBounds_toArray, List.set_cons_zero, List.set_cons_succ]
  refine wpAnyH_take (i := 3) (oi := { dst := some 29, op := Op.load 32 (Operand.tmp 3), type := 32, pos := "law.go:95", after := #[{ on := 1, ground := Ground.guard }], guard := some (1, true) }) (v := .agg #[v0, v1, v2, v3, v4, v5, v6, v7, v8, v9, v10, v11, v12, v13, v14]) rfl (by kernel_rfl) (by kernel_rfl) (by kernel_rfl) (fun _ _ _ h => hQ _ _ _ _ _ h) (Or.inl ⟨by rfl, ?_⟩) hS9 ?_
  · exact fun wz hz => load_y 32 _ rfl _ rfl 32 _ (0, 0) _ ((hz.block _ zB).trans hgy) Try.underlying32 rfl infoVar
  simp only [Act.put, List.setIfInBounds_toArray, List.set_cons_zero, List.set_cons_succ]
  refine wpAnyH_take (i := 5) (oi := { dst := some 31, op := Op.load 32 (Operand.tmp 2), type := 32, pos := "law.go:95", after := #[{ on := 1, ground := Ground.guard }], guard := some (1, true) }) (v := .agg #[u0, u1, u2, u3, u4, u5, u6, u7, u8, u9, u10, u11, u12, u13, u14]) rfl (by kernel_rfl) (by kernel_rfl) (by kernel_rfl) (fun _ _ _ h => hQ _ _ _ _ _ h) (Or.inl ⟨by rfl, ?_⟩) hS9 ?_
  · exact fun wz hz => load_y 32 _ rfl _ rfl 32 _ (0, 0) _ ((hz.block _ zA).trans hgx) Try.underlying32 rfl infoVar
  simp only [Act.put, List.setIfInBounds_toArray, List.set_cons_zero, List.set_cons_succ]
  refine wpAnyH_take (i := 7) (oi := { dst := some 33, op := Op.load 32 (Operand.tmp 3), type := 32, pos := "law.go:95", after := #[{ on := 1, ground := Ground.guard }], guard := some (1, true) }) (v := .agg #[v0, v1, v2, v3, v4, v5, v6, v7, v8, v9, v10, v11, v12, v13, v14]) rfl (by kernel_rfl) (by kernel_rfl) (by kernel_rfl) (fun _ _ _ h => hQ _ _ _ _ _ h) (Or.inl ⟨by rfl, ?_⟩) hS9 ?_
  · exact fun wz hz => load_y 32 _ rfl _ rfl 32 _ (0, 0) _ ((hz.block _ zB).trans hgy) Try.underlying32 rfl infoVar
  simp only [Act.put, List.setIfInBounds_toArray, List.set_cons_zero, List.set_cons_succ]
  refine wpAnyH_ready (rs := [4, 6, 8]) (by kernel_rfl) (by simp) ?_
  refine AllReadyH.cons (i := 4) (o := { dst := some 30, op := Op.call { callee := Callee.value (Operand.func 8), args := #[Operand.tmp 28, Operand.tmp 29], argTypes := #[32, 32] }, type := 4, pos := "law.go:95", after := #[{ on := 2, ground := Ground.data }, { on := 3, ground := Ground.data }, { on := 1, ground := Ground.chain }, { on := 1, ground := Ground.guard }], guard := some (1, true) }) rfl (fun K hK => ?_) (AllReadyH.cons (i := 6) (o := { dst := some 32, op := Op.buildSlice 37 1 #[(0, Operand.tmp 31)], type := 37, pos := "law.go:95", after := #[{ on := 5, ground := Ground.data }, { on := 1, ground := Ground.guard }], guard := some (1, true) }) rfl (fun K hK => ?_) (AllReadyH.cons (i := 8) (o := { dst := some 34, op := Op.buildSlice 37 1 #[(0, Operand.tmp 33)], type := 37, pos := "law.go:95", after := #[{ on := 7, ground := Ground.data }, { on := 1, ground := Ground.guard }], guard := some (1, true) }) rfl (fun K hK => ?_) AllReadyH.nil))
  · rw [if_pos (by rfl)]
    go_simp
    refine (HC1 w9 hS9).mono ?_
    rintro e wn1 ⟨rfl, hb1⟩
    first | (refine hK.out _ _ (bt rfl hS9 hb1) (fun _ => ?_)) | (go_wp2_with fail; refine hK.out _ _ (bt rfl hS9 hb1) (fun _ => ?_))
    clear hK K
    (try simp only [Act.put, List.setIfInBounds_toArray, List.set_cons_zero, List.set_cons_succ])
    have hS1 := bt rfl hS9 hb1
    refine wpAnyH_ready (rs := [6, 8]) (by kernel_rfl) (by simp) ?_
    refine AllReadyH.cons (i := 6) (o := { dst := some 32, op := Op.buildSlice 37 1 #[(0, Operand.tmp 31)], type := 37, pos := "law.go:95", after := #[{ on := 5, ground := Ground.data }, { on := 1, ground := Ground.guard }], guard := some (1, true) }) rfl (fun K hK => ?_) (AllReadyH.cons (i := 8) (o := { dst := some 34, op := Op.buildSlice 37 1 #[(0, Operand.tmp 33)], type := 37, pos := "law.go:95", after := #[{ on := 7, ground := Ground.data }, { on := 1, ground := Ground.guard }], guard := some (1, true) }) rfl (fun K hK => ?_) AllReadyH.nil)
    · rw [if_pos (by rfl)]
      go_simp
      refine hK.out _ _ (bel_alloc hS1) (fun _ => ?_)
      clear hK K
      (try simp only [Act.put, List.setIfInBounds_toArray, List.set_cons_zero, List.set_cons_succ])
      have hS2 : Below w.heap.size w (wn1.alloc (.cells #[u0, u1, u2, u3, u4, u5, u6, u7, u8, u9, u10, u11, u12, u13, u14] 32)) := bel_alloc hS1
      have hN2 : (wn1.alloc (.cells #[u0, u1, u2, u3, u4, u5, u6, u7, u8, u9, u10, u11, u12, u13, u14] 32)).heap[wn1.heap.size]? = some (.cells #[u0, u1, u2, u3, u4, u5, u6, u7, u8, u9, u10, u11, u12, u13, u14] 32 (0, 0)) := blk_new rfl
      generalize wn1.alloc (.cells #[u0, u1, u2, u3, u4, u5, u6, u7, u8, u9, u10, u11, u12, u13, u14] 32) = wn2 at hS2 hN2 ⊢
      refine wpAnyH_ready (rs := [8]) (by kernel_rfl) (by simp) ?_
      refine AllReadyH.cons (i := 8) (o := { dst := some 34, op := Op.buildSlice 37 1 #[(0, Operand.tmp 33)], type := 37, pos := "law.go:95", after := #[{ on := 7, ground := Ground.data }, { on := 1, ground := Ground.guard }], guard := some (1, true) }) rfl (fun K hK => ?_) AllReadyH.nil
      · rw [if_pos (by rfl)]
        go_simp
        refine hK.out _ _ (bel_alloc hS2) (fun _ => ?_)
        clear hK K
        (try simp only [Act.put, List.setIfInBounds_toArray, List.set_cons_zero, List.set_cons_succ])
        have hS3 : Below w.heap.size w (wn2.alloc (.cells #[v0, v1, v2, v3, v4, v5, v6, v7, v8, v9, v10, v11, v12, v13, v14] 32)) := bel_alloc hS2
        have hN3 : (wn2.alloc (.cells #[v0, v1, v2, v3, v4, v5, v6, v7, v8, v9, v10, v11, v12, v13, v14] 32)).heap[wn2.heap.size]? = some (.cells #[v0, v1, v2, v3, v4, v5, v6, v7, v8, v9, v10, v11, v12, v13, v14] 32 (0, 0)) := blk_new rfl
        have hU3 : (wn2.alloc (.cells #[v0, v1, v2, v3, v4, v5, v6, v7, v8, v9, v10, v11, v12, v13, v14] 32)).heap[wn1.heap.size]? = some (.cells #[u0, u1, u2, u3, u4, u5, u6, u7, u8, u9, u10, u11, u12, u13, u14] 32 (0, 0)) := blk_old hN2
        generalize wn2.alloc (.cells #[v0, v1, v2, v3, v4, v5, v6, v7, v8, v9, v10, v11, v12, v13, v14] 32) = wn3 at hS3 hU3 hN3 ⊢
        exact vars_tail w p _ _ _ _ _ _ _ _ _ _ _ _ _ _ _ _ _ _ _ _ _ _ _ _ _ _ _ _ _ _ q zA hgx HC3 HC2 wn3 wn1.heap.size wn2.heap.size hS3 hU3 hN3 _ _ _ _ _ _ _ _ _ _ _ _ _ _ _ _ _ _ _ _ _ _ _ _ _ _ _ _ _ _ _ _ _ (by kernel_rfl) Q hQ hexit
    · rw [if_pos (by rfl)]
      go_simp
      refine hK.out _ _ (bel_alloc hS1) (fun _ => ?_)
      clear hK K
      (try simp only [Act.put, List.setIfInBounds_toArray, List.set_cons_zero, List.set_cons_succ])
      have hS4 : Below w.heap.size w (wn1.alloc (.cells #[v0, v1, v2, v3, v4, v5, v6, v7, v8, v9, v10, v11, v12, v13, v14] 32)) := bel_alloc hS1
      have hN4 : (wn1.alloc (.cells #[v0, v1, v2, v3, v4, v5, v6, v7, v8, v9, v10, v11, v12, v13, v14] 32)).heap[wn1.heap.size]? = some (.cells #[v0, v1, v2, v3, v4, v5, v6, v7, v8, v9, v10, v11, v12, v13, v14] 32 (0, 0)) := blk_new rfl
      generalize wn1.alloc (.cells #[v0, v1, v2, v3, v4, v5, v6, v7, v8, v9, v10, v11, v12, v13, v14] 32) = wn4 at hS4 hN4 ⊢
      refine wpAnyH_ready (rs := [6]) (by kernel_rfl) (by simp) ?_
      refine AllReadyH.cons (i := 6) (o := { dst := some 32, op := Op.buildSlice 37 1 #[(0, Operand.tmp 31)], type := 37, pos := "law.go:95", after := #[{ on := 5, ground := Ground.data }, { on := 1, ground := Ground.guard }], guard := some (1, true) }) rfl (fun K hK => ?_) AllReadyH.nil
      · rw [if_pos (by rfl)]
        go_simp
        refine hK.out _ _ (bel_alloc hS4) (fun _ => ?_)
        clear hK K
        (try simp only [Act.put, List.setIfInBounds_toArray, List.set_cons_zero, List.set_cons_succ])
        have hS5 : Below w.heap.size w (wn4.alloc (.cells #[u0, u1, u2, u3, u4, u5, u6, u7, u8, u9, u10, u11, u12, u13, u14] 32)) := bel_alloc hS4
        have hN5 : (wn4.alloc (.cells #[u0, u1, u2, u3, u4, u5, u6, u7, u8, u9, u10, u11, u12, u13, u14] 32)).heap[wn4.heap.size]? = some (.cells #[u0, u1, u2, u3, u4, u5, u6, u7, u8, u9, u10, u11, u12, u13, u14] 32 (0, 0)) := blk_new rfl
        have hV5 : (wn4.alloc (.cells #[u0, u1, u2, u3, u4, u5, u6, u7, u8, u9, u10, u11, u12, u13, u14] 32)).heap[wn1.heap.size]? = some (.cells #[v0, v1, v2, v3, v4, v5, v6, v7, v8, v9, v10, v11, v12, v13, v14] 32 (0, 0)) := blk_old hN4
        generalize wn4.alloc (.cells #[u0, u1, u2, u3, u4, u5, u6, u7, u8, u9, u10, u11, u12, u13, u14] 32) = wn5 at hS5 hN5 hV5 ⊢
        exact vars_tail w p _ _ _ _ _ _ _ _ _ _ _ _ _ _ _ _ _ _ _ _ _ _ _ _ _ _ _ _ _ _ q zA hgx HC3 HC2 wn5 wn4.heap.size wn1.heap.size hS5 hN5 hV5 _ _ _ _ _ _ _ _ _ _ _ _ _ _ _ _ _ _ _ _ _ _ _ _ _ _ _ _ _ _ _ _ _ (by kernel_rfl) Q hQ hexit
  · rw [if_pos (by rfl)]
    go_simp
    refine hK.out _ _ (bel_alloc hS9) (fun _ => ?_)
    clear hK K
    (try simp only [Act.put, List.setIfInBounds_toArray, List.set_cons_zero, List.set_cons_succ])
    have hS6 : Below w.heap.size w (w9.alloc (.cells #[u0, u1, u2, u3, u4, u5, u6, u7, u8, u9, u10, u11, u12, u13, u14] 32)) := bel_alloc hS9
    have hN6 : (w9.alloc (.cells #[u0, u1, u2, u3, u4, u5, u6, u7, u8, u9, u10, u11, u12, u13, u14] 32)).heap[w9.heap.size]? = some (.cells #[u0, u1, u2, u3, u4, u5, u6, u7, u8, u9, u10, u11, u12, u13, u14] 32 (0, 0)) := blk_new rfl
    generalize w9.alloc (.cells #[u0, u1, u2, u3, u4, u5, u6, u7, u8, u9, u10, u11, u12, u13, u14] 32) = wn6 at hS6 hN6 ⊢
    refine wpAnyH_ready (rs := [4, 8]) (by kernel_rfl) (by simp) ?_
    refine AllReadyH.cons (i := 4) (o := { dst := some 30, op := Op.call { callee := Callee.value (Operand.func 8), args := #[Operand.tmp 28, Operand.tmp 29], argTypes := #[32, 32] }, type := 4, pos := "law.go:95", after := #[{ on := 2, ground := Ground.data }, { on := 3, ground := Ground.data }, { on := 1, ground := Ground.chain }, { on := 1, ground := Ground.guard }], guard := some (1, true) }) rfl (fun K hK => ?_) (AllReadyH.cons (i := 8) (o := { dst := some 34, op := Op.buildSlice 37 1 #[(0, Operand.tmp 33)], type := 37, pos := "law.go:95", after := #[{ on := 7, ground := Ground.data }, { on := 1, ground := Ground.guard }], guard := some (1, true) }) rfl (fun K hK => ?_) AllReadyH.nil)
    · rw [if_pos (by rfl)]
      go_simp
      refine (HC1 wn6 hS6).mono ?_
      rintro e wn7 ⟨rfl, hb7⟩
      first | (refine hK.out _ _ (bt rfl hS6 hb7) (fun _ => ?_)) | (go_wp2_with fail; refine hK.out _ _ (bt rfl hS6 hb7) (fun _ => ?_))
      clear hK K
      (try simp only [Act.put, List.setIfInBounds_toArray, List.set_cons_zero, List.set_cons_succ])
      have hS7 := bt rfl hS6 hb7
      have hU7 := stays hb7 hN6
      refine wpAnyH_ready (rs := [8]) (by kernel_rfl) (by simp) ?_
      refine AllReadyH.cons (i := 8) (o := { dst := some 34, op := Op.buildSlice 37 1 #[(0, Operand.tmp 33)], type := 37, pos := "law.go:95", after := #[{ on := 7, ground := Ground.data }, { on := 1, ground := Ground.guard }], guard := some (1, true) }) rfl (fun K hK => ?_) AllReadyH.nil
      · rw [if_pos (by rfl)]
        go_simp
        refine hK.out _ _ (bel_alloc hS7) (fun _ => ?_)
        clear hK K
        (try simp only [Act.put, List.setIfInBounds_toArray, List.set_cons_zero, List.set_cons_succ])
        have hS8 : Below w.heap.size w (wn7.alloc (.cells #[v0, v1, v2, v3, v4, v5, v6, v7, v8, v9, v10, v11, v12, v13, v14] 32)) := bel_alloc hS7
        have hN8 : (wn7.alloc (.cells #[v0, v1, v2, v3, v4, v5, v6, v7, v8, v9, v10, v11, v12, v13, v14] 32)).heap[wn7.heap.size]? = some (.cells #[v0, v1, v2, v3, v4, v5, v6, v7, v8, v9, v10, v11, v12, v13, v14] 32 (0, 0)) := blk_new rfl
        have hU8 : (wn7.alloc (.cells #[v0, v1, v2, v3, v4, v5, v6, v7, v8, v9, v10, v11, v12, v13, v14] 32)).heap[w9.heap.size]? = some (.cells #[u0, u1, u2, u3, u4, u5, u6, u7, u8, u9, u10, u11, u12, u13, u14] 32 (0, 0)) := blk_old hU7
        generalize wn7.alloc (.cells #[v0, v1, v2, v3, v4, v5, v6, v7, v8, v9, v10, v11, v12, v13, v14] 32) = wn8 at hS8 hU8 hN8 ⊢
        exact vars_tail w p _ _ _ _ _ _ _ _ _ _ _ _ _ _ _ _ _ _ _ _ _ _ _ _ _ _ _ _ _ _ q zA hgx HC3 HC2 wn8 w9.heap.size wn7.heap.size hS8 hU8 hN8 _ _ _ _ _ _ _ _ _ _ _ _ _ _ _ _ _ _ _ _ _ _ _ _ _ _ _ _ _ _ _ _ _ (by kernel_rfl) Q hQ hexit
    · rw [if_pos (by rfl)]
      go_simp
      refine hK.out _ _ (bel_alloc hS6) (fun _ => ?_)
      clear hK K
      (try simp only [Act.put, List.setIfInBounds_toArray, List.set_cons_zero, List.set_cons_succ])
      have hS9 : Below w.heap.size w (wn6.alloc (.cells #[v0, v1, v2, v3, v4, v5, v6, v7, v8, v9, v10, v11, v12, v13, v14] 32)) := bel_alloc hS6
      have hN9 : (wn6.alloc (.cells #[v0, v1, v2, v3, v4, v5, v6, v7, v8, v9, v10, v11, v12, v13, v14] 32)).heap[wn6.heap.size]? = some (.cells #[v0, v1, v2, v3, v4, v5, v6, v7, v8, v9, v10, v11, v12, v13, v14] 32 (0, 0)) := blk_new rfl
      have hU9 : (wn6.alloc (.cells #[v0, v1, v2, v3, v4, v5, v6, v7, v8, v9, v10, v11, v12, v13, v14] 32)).heap[w9.heap.size]? = some (.cells #[u0, u1, u2, u3, u4, u5, u6, u7, u8, u9, u10, u11, u12, u13, u14] 32 (0, 0)) := blk_old hN6
      generalize wn6.alloc (.cells #[v0, v1, v2, v3, v4, v5, v6, v7, v8, v9, v10, v11, v12, v13, v14] 32) = wn9 at hS9 hU9 hN9 ⊢
      refine wpAnyH_ready (rs := [4]) (by kernel_rfl) (by simp) ?_
      refine AllReadyH.cons (i := 4) (o := { dst := some 30, op := Op.call { callee := Callee.value (Operand.func 8), args := #[Operand.tmp 28, Operand.tmp 29], argTypes := #[32, 32] }, type := 4, pos := "law.go:95", after := #[{ on := 2, ground := Ground.data }, { on := 3, ground := Ground.data }, { on := 1, ground := Ground.chain }, { on := 1, ground := Ground.guard }], guard := some (1, true) }) rfl (fun K hK => ?_) AllReadyH.nil
      · rw [if_pos (by rfl)]
        go_simp
        refine (HC1 wn9 hS9).mono ?_
        rintro e wn10 ⟨rfl, hb10⟩
        first | (refine hK.out _ _ (bt rfl hS9 hb10) (fun _ => ?_)) | (go_wp2_with fail; refine hK.out _ _ (bt rfl hS9 hb10) (fun _ => ?_))
        clear hK K
        (try simp only [Act.put, List.setIfInBounds_toArray, List.set_cons_zero, List.set_cons_succ])
        have hS10 := bt rfl hS9 hb10
        have hU10 := stays hb10 hU9
        have hV10 := stays hb10 hN9
        exact vars_tail w p _ _ _ _ _ _ _ _ _ _ _ _ _ _ _ _ _ _ _ _ _ _ _ _ _ _ _ _ _ _ q zA hgx HC3 HC2 wn10 w9.heap.size wn6.heap.size hS10 hU10 hV10 _ _ _ _ _ _ _ _ _ _ _ _ _ _ _ _ _ _ _ _ _ _ _ _ _ _ _ _ _ _ _ _ _ (by kernel_rfl) Q hQ hexit
  · rw [if_pos (by rfl)]
    go_simp
    refine hK.out _ _ (bel_alloc hS9) (fun _ => ?_)
    clear hK K
    (try simp only [Act.put, List.setIfInBounds_toArray, List.set_cons_zero, List.set_cons_succ])
    have hS11 : Below w.heap.size w (w9.alloc (.cells #[v0, v1, v2, v3, v4, v5, v6, v7, v8, v9, v10, v11, v12, v13, v14] 32)) := bel_alloc hS9
    have hN11 : (w9.alloc (.cells #[v0, v1, v2, v3, v4, v5, v6, v7, v8, v9, v10, v11, v12, v13, v14] 32)).heap[w9.heap.size]? = some (.cells #[v0, v1, v2, v3, v4, v5, v6, v7, v8, v9, v10, v11, v12, v13, v14] 32 (0, 0)) := blk_new rfl
    generalize w9.alloc (.cells #[v0, v1, v2, v3, v4, v5, v6, v7, v8, v9, v10, v11, v12, v13, v14] 32) = wn11 at hS11 hN11 ⊢
    refine wpAnyH_ready (rs := [4, 6]) (by kernel_rfl) (by simp) ?_
    refine AllReadyH.cons (i := 4) (o := { dst := some 30, op := Op.call { callee := Callee.value (Operand.func 8), args := #[Operand.tmp 28, Operand.tmp 29], argTypes := #[32, 32] }, type := 4, pos := "law.go:95", after := #[{ on := 2, ground := Ground.data }, { on := 3, ground := Ground.data }, { on := 1, ground := Ground.chain }, { on := 1, ground := Ground.guard }], guard := some (1, true) }) rfl (fun K hK => ?_) (AllReadyH.cons (i := 6) (o := { dst := some 32, op := Op.buildSlice 37 1 #[(0, Operand.tmp 31)], type := 37, pos := "law.go:95", after := #[{ on := 5, ground := Ground.data }, { on := 1, ground := Ground.guard }], guard := some (1, true) }) rfl (fun K hK => ?_) AllReadyH.nil)
    · rw [if_pos (by rfl)]
      go_simp
      refine (HC1 wn11 hS11).mono ?_
      rintro e wn12 ⟨rfl, hb12⟩
      first | (refine hK.out _ _ (bt rfl hS11 hb12) (fun _ => ?_)) | (go_wp2_with fail; refine hK.out _ _ (bt rfl hS11 hb12) (fun _ => ?_))
      clear hK K
      (try simp only [Act.put, List.setIfInBounds_toArray, List.set_cons_zero, List.set_cons_succ])
      have hS12 := bt rfl hS11 hb12
      have hV12 := stays hb12 hN11
      refine wpAnyH_ready (rs := [6]) (by kernel_rfl) (by simp) ?_
      refine AllReadyH.cons (i := 6) (o := { dst := some 32, op := Op.buildSlice 37 1 #[(0, Operand.tmp 31)], type := 37, pos := "law.go:95", after := #[{ on := 5, ground := Ground.data }, { on := 1, ground := Ground.guard }], guard := some (1, true) }) rfl (fun K hK => ?_) AllReadyH.nil
      · rw [if_pos (by rfl)]
        go_simp
        refine hK.out _ _ (bel_alloc hS12) (fun _ => ?_)
        clear hK K
        (try simp only [Act.put, List.setIfInBounds_toArray, List.set_cons_zero, List.set_cons_succ])
        have hS13 : Below w.heap.size w (wn12.alloc (.cells #[u0, u1, u2, u3, u4, u5, u6, u7, u8, u9, u10, u11, u12, u13, u14] 32)) := bel_alloc hS12
        have hN13 : (wn12.alloc (.cells #[u0, u1, u2, u3, u4, u5, u6, u7, u8, u9, u10, u11, u12, u13, u14] 32)).heap[wn12.heap.size]? = some (.cells #[u0, u1, u2, u3, u4, u5, u6, u7, u8, u9, u10, u11, u12, u13, u14] 32 (0, 0)) := blk_new rfl
        have hV13 : (wn12.alloc (.cells #[u0, u1, u2, u3, u4, u5, u6, u7, u8, u9, u10, u11, u12, u13, u14] 32)).heap[w9.heap.size]? = some (.cells #[v0, v1, v2, v3, v4, v5, v6, v7, v8, v9, v10, v11, v12, v13, v14] 32 (0, 0)) := blk_old hV12
        generalize wn12.alloc (.cells #[u0, u1, u2, u3, u4, u5, u6, u7, u8, u9, u10, u11, u12, u13, u14] 32) = wn13 at hS13 hN13 hV13 ⊢
        exact vars_tail w p _ _ _ _ _ _ _ _ _ _ _ _ _ _ _ _ _ _ _ _ _ _ _ _ _ _ _ _ _ _ q zA hgx HC3 HC2 wn13 wn12.heap.size w9.heap.size hS13 hN13 hV13 _ _ _ _ _ _ _ _ _ _ _ _ _ _ _ _ _ _ _ _ _ _ _ _ _ _ _ _ _ _ _ _ _ (by kernel_rfl) Q hQ hexit
    · rw [if_pos (by rfl)]
      go_simp
      refine hK.out _ _ (bel_alloc hS11) (fun _ => ?_)
      clear hK K
      (try simp only [Act.put, List.setIfInBounds_toArray, List.set_cons_zero, List.set_cons_succ])
      have hS14 : Below w.heap.size w (wn11.alloc (.cells #[u0, u1, u2, u3, u4, u5, u6, u7, u8, u9, u10, u11, u12, u13, u14] 32)) := bel_alloc hS11
      have hN14 : (wn11.alloc (.cells #[u0, u1, u2, u3, u4, u5, u6, u7, u8, u9, u10, u11, u12, u13, u14] 32)).heap[wn11.heap.size]? = some (.cells #[u0, u1, u2, u3, u4, u5, u6, u7, u8, u9, u10, u11, u12, u13, u14] 32 (0, 0)) := blk_new rfl
      have hV14 : (wn11.alloc (.cells #[u0, u1, u2, u3, u4, u5, u6, u7, u8, u9, u10, u11, u12, u13, u14] 32)).heap[w9.heap.size]? = some (.cells #[v0, v1, v2, v3, v4, v5, v6, v7, v8, v9, v10, v11, v12, v13, v14] 32 (0, 0)) := blk_old hN11
      generalize wn11.alloc (.cells #[u0, u1, u2, u3, u4, u5, u6, u7, u8, u9, u10, u11, u12, u13, u14] 32) = wn14 at hS14 hN14 hV14 ⊢
      refine wpAnyH_ready (rs := [4]) (by kernel_rfl) (by simp) ?_
      refine AllReadyH.cons (i := 4) (o := { dst := some 30, op := Op.call { callee := Callee.value (Operand.func 8), args := #[Operand.tmp 28, Operand.tmp 29], argTypes := #[32, 32] }, type := 4, pos := "law.go:95", after := #[{ on := 2, ground := Ground.data }, { on := 3, ground := Ground.data }, { on := 1, ground := Ground.chain }, { on := 1, ground := Ground.guard }], guard := some (1, true) }) rfl (fun K hK => ?_) AllReadyH.nil
      · rw [if_pos (by rfl)]
        go_simp
        refine (HC1 wn14 hS14).mono ?_
        rintro e wn15 ⟨rfl, hb15⟩
        first | (refine hK.out _ _ (bt rfl hS14 hb15) (fun _ => ?_)) | (go_wp2_with fail; refine hK.out _ _ (bt rfl hS14 hb15) (fun _ => ?_))
        clear hK K
        (try simp only [Act.put, List.setIfInBounds_toArray, List.set_cons_zero, List.set_cons_succ])
        have hS15 := bt rfl hS14 hb15
        have hU15 := stays hb15 hN14
        have hV15 := stays hb15 hV14
        exact vars_tail w p _ _ _ _ _ _ _ _ _ _ _ _ _ _ _ _ _ _ _ _ _ _ _ _ _ _ _ _ _ _ q zA hgx HC3 HC2 wn15 wn11.heap.size w9.heap.size hS15 hU15 hV15 _ _ _ _ _ _ _ _ _ _ _ _ _ _ _ _ _ _ _ _ _ _ _ _ _ _ _ _ _ _ _ _ _ (by kernel_rfl) Q hQ hexit
end Tx
end Go.Proofs.Ytggoejghnlgigaa
