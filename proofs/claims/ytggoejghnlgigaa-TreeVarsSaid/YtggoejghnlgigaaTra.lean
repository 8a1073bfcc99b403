/- What an expression reads. -/
import Derived.Test.YtggoejghnlgigaaTr
import Derived.Test.YtggoejghnlgigaaTs
namespace Go.Proofs.Ytggoejghnlgigaa
open Go.ChangeShapes Go.WideShapes Go.ChangeAt Go.RowKit Go.Maps
namespace Tx
set_option linter.unusedVariables false
set_option linter.unusedSimpArgs false
theorem wkR_1 (args : Array Value) (w : World) : (callFunc 53 args).run Try.prog w = .ok (.enter 53 args) w := by kernel_rfl
theorem wkR_2 (args : Array Value) (w : World) : (callFunc 55 args).run Try.prog w = .ok (.enter 55 args) w := by kernel_rfl
/-- Names as an answer: a list of the call's own. -/
def NamesOut (W : World) (ns : List ByteArray) (e : Ending) (w' : World) : Prop := ∃ lv, e = .returned lv ∧ w'.ownsRow W.heap.size 9 1 lv ns.length (ns.map Value.string) ∧ Below W.heap.size W w'
set_option maxRecDepth 100000 in
set_option maxHeartbeats 1000000 in
theorem reads_any (fk : FuncId) (selK : Dt → Fo → Nat) (hc : Chooses fk selK) (B : Nat → Prop) (W : World) (hB : ∀ k, B k → k < W.heap.size) (d : Dt) (ks : Fo) (nv kv : Value) (hn : NamesIn B W nv d.ns) (hk : KidsIn B W kv ks) (hsz : ks.size ≤ 1000000) :
    Calls Try.prog 44 #[exV d nv kv, .func (Fn.func fk) #[] #[]] W (NamesOut W (readsOf selK d ks)) := by
  have hmf : ∀ (fn : Fn) (first cap : Array Value) (w : World), (Instr.makeFunc fn first cap).run Try.prog w = .ok (.func fn first cap) w := fun _ _ _ _ => rfl
  have HN := Lib.hid hn
  have HK := Lib.hid hk
  have HB := Lib.hid hB
  have HC := Lib.hid hc
  clear hn hk hB hc
  unfold exV
  go_enter Try.func44, Try.ntmps44
  go_wp2_with fail
  generalize hW2 : (((W.alloc (.cells #[.int .u8 d.k, .int .u8 d.op, .int .i32 d.n, .string d.nm, nv, kv, .int .i64 d.line, .int .i64 d.col] 30)).alloc (.cells #[.func (Fn.func fk) #[] #[]] 83)).alloc (.cells #[.slice none 0 0, .map none] 90)) = W2
  have b2 : Below W.heap.size W W2 := by rw [← hW2]; exact (((Below.refl _ _).alloc (Nat.le_refl _) _).alloc (by simp) _).alloc (by simp; omega) _
  have c0 : W2.cell? ⟨W.heap.size + 1 + 1, 0, none⟩ = some (.slice none 0 0) := by rw [← hW2]; simp [go_sem]
  have c1 : W2.cell? ⟨W.heap.size + 1 + 1, 1, none⟩ = some (.map none) := by rw [← hW2]; simp [go_sem]
  have ck : W2.cell? ⟨W.heap.size + 1, 0, none⟩ = some (.func (Fn.func fk) #[] #[]) := by rw [← hW2]; simp [go_sem]
  have f0 : W2.frozen? ⟨W.heap.size + 1 + 1, 0, none⟩ = false := by rw [← hW2]; simp [go_sem]
  have f1 : W2.frozen? ⟨W.heap.size + 1 + 1, 1, none⟩ = false := by rw [← hW2]; simp [go_sem]
  have g2 : W2.heap[W.heap.size]? = some (.cells (cells d nv kv).toArray 30 (0, 0)) := by rw [← hW2]; exact blk_of3 W _ _ _
  clear hW2
  have hN : NamesAt (W.heap.size + 1 + 1) [] (.slice none 0 0) (.map none) W2 := ⟨c0, c1, f0, f1, ⟨rfl, .inl ⟨rfl, rfl⟩⟩, .inl ⟨rfl, rfl⟩⟩
  have hR : NamesR (W.heap.size + 1) fk (W.heap.size + 1 + 1) [] (fun k => k = W.heap.size + 1 ∨ Foot (W.heap.size + 1 + 1) (.slice none 0 0) (.map none) k) W2 := ⟨_, _, hN, rfl, by omega, ck⟩
  have hge : ∀ k, (k = W.heap.size + 1 ∨ Foot (W.heap.size + 1 + 1) (.slice none 0 0) (.map none) k) → W.heap.size ≤ k := by
    rintro k (rfl | e)
    · omega
    · have := foot_ge hN k e; omega
  have kp : ∀ b o v, B b → W.cell? ⟨b, o, none⟩ = some v → W2.cell? ⟨b, o, none⟩ = some v := fun b o v hb hc => (b2.cell (p := ⟨b, o, none⟩) (HB.out b hb)).trans hc
  have hx2 := exAt_cell kp HN.out HK.out g2
  refine (walk_any entR (fun _ d ks => selK d ks) lvR (fun _ => false) List.length 3000000 _ _ _ _ (NamesR (W.heap.size + 1) fk (W.heap.size + 1 + 1)) (reads_visit _ _ _ HC.out _) wkR_1 wkR_2 (fun k => B k ∨ k = W.heap.size) W2 (fun k hk => by rcases hk with hk | rfl; exact Nat.lt_of_lt_of_le (HB.out k hk) b2.size; exact (Array.getElem?_eq_some_iff.1 g2).1) [] _ hR (fun k hk hb => by rcases hb with hb | hb; (have := HB.out k hb; have := hge k hk; omega); (rcases hk with hk | hk; omega; (have := foot_ge hN k hk; omega))) d ks nv kv _ _ hx2 rfl hsz (by simp; omega)).mono ?_
  rintro e w4 ⟨rfl, F', hR4, hkk, hnew⟩
  obtain ⟨lv, mv, hN4, rfl, _, _⟩ := hR4
  have d0 := hN4.c0
  have hb4 := keeps_below b2 hkk b2.size hge
  clear c0 c1 ck f0 f1 hN hR hmf
  go_wp2
  go_ret
  exact ⟨lv, rfl, Go.Joins.ownsRow_le hN4.own (by omega), hb4⟩
end Tx
end Go.Proofs.Ytggoejghnlgigaa
