/- What Words answers of words with gaps; two words held against each other. -/
import Derived.Test.YtlmfjaaooklhnaaLJb
import Derived.Test.YtlmfjaaooklhnaaLexG
namespace Go.Proofs.Ytlmfjaaooklhnaa
open Go.ChangeShapes Go.WideShapes Go.ChangeAt Go.RowKit
set_option linter.unusedVariables false
set_option linter.unusedSimpArgs false
set_option maxHeartbeats 1000000 in
theorem same_true (k n l c l' c' : Int) (t : ByteArray) (w : World) :
    Calls Try.prog 9 #[.agg #[.int .u8 k, .string t, .int .i32 n, .int .i64 l, .int .i64 c], .agg #[.int .u8 k, .string t, .int .i32 n, .int .i64 l', .int .i64 c']] w fun e w' => e = .returned (.bool true) ∧ Below w.heap.size w w' := by
  go_enter Try.func9, Try.ntmps9
  go_wp2
  go_ret
  exact ⟨rfl, ((Below.refl _ _).alloc (Nat.le_refl _) _).alloc (by simp) _⟩
def TokAt (w : World) (g : Nat) (ts : List Lx.Tok) : Prop := ∀ (i : Nat) (t : Lx.Tok), ts[i]? = some t → ∀ (j : Nat) (u : Value), (tokCells t)[j]? = some u → w.cell? ⟨g, i * 5 + j, none⟩ = some u
theorem TokAt.below {w w' : World} {B g : Nat} {ts : List Lx.Tok} (h : TokAt w g ts) (hb : Below B w w') (hg : g < B) : TokAt w' g ts := fun i t hi j u hj => (hb.cell (p := ⟨g, i * 5 + j, none⟩) hg).trans (h i t hi j u hj)
def TokOut (ks : List Lx.Ky) (W : World) (e : Ending) (w' : World) : Prop :=
  ∃ g cap ts, e = .returned (.tuple #[.slice (some ⟨g, 0, none⟩) ks.length cap, .nilIface]) ∧ ts.map Lx.key = ks ∧ TokAt w' g ts ∧ g < w'.heap.size ∧ ks.length ≤ cap ∧ Below W.heap.size W w'
theorem flat_cells (ts : List Lx.Tok) : ∀ (i : Nat) (t : Lx.Tok), ts[i]? = some t → ∀ (j : Nat) (u : Value), (tokCells t)[j]? = some u → (ts.flatMap tokCells)[i * 5 + j]? = some u := by
  induction ts with
  | nil => intro i t h; simp at h
  | cons a r ih =>
    intro i t h j u hj
    have ha : (tokCells a).length = 5 := rfl
    have hj5 : j < 5 := by
      have := (List.getElem?_eq_some_iff.1 hj).1
      simpa [tokCells] using this
    rw [List.flatMap_cons]
    cases i with
    | zero =>
      simp at h
      subst h
      rw [List.getElem?_append_left (by rw [ha]; omega)]
      simpa using hj
    | succ i =>
      rw [List.getElem?_append_right (by rw [ha]; omega), ha, show (i + 1) * 5 + j - 5 = i * 5 + j by omega]
      exact ih i t (by simpa using h) j u hj
theorem tok_of (ks : List Lx.Ky) (hne : ks ≠ []) (o : Lx.Out) (ts : List Lx.Tok) (ho : o = .inl ts) (hk : ts.map Lx.key = ks) (W : World) (e : Ending) (w' : World) (h : WordsOut o W e w') : TokOut ks W e w' := by
  subst ho
  obtain ⟨v, he, hown, hb⟩ := h
  have hl : ts.length = ks.length := by rw [← hk]; simp
  have hpos : 0 < ts.length := by rw [hl]; exact List.length_pos_iff.2 hne
  have hlt := hown.lt
  rcases hown.2 with ⟨_, h0⟩ | ⟨g, cap, cur, hv, hbase, hg, hcap, _⟩
  · omega
  · subst hv
    refine ⟨g, cap, ts, by rw [he, hl], hk, fun i t hi j u hj => ?_, (hlt g rfl).2, by omega, hb⟩
    have := hown.cells (g := g) rfl (i * 5 + j) u (flat_cells ts i t hi j u hj)
    have hadd : (⟨g, 0, none⟩ : Addr).add (i * 5 + j) = ⟨g, i * 5 + j, none⟩ := by unfold Addr.add; split <;> simp_all
    rwa [hadd] at this
theorem words_gapped (ws : List (Lx.Ky × Lx.Bs)) (hws : ∀ x ∈ ws, Lx.Fine x.1 ∧ (∃ g', x.2 = 32 :: g') ∧ Lx.Skip x.2) (s : ByteArray) (hs : s.data.toList = Lx.gapped ws) (hz : s.size ≤ 65536) (W : World) :
    Calls Try.prog 7 #[.string s] W (TokOut (ws.map (·.1) ++ [(0, [], 0)]) W) := by
  obtain ⟨ts, h1, h2⟩ := Lx.lx_gapped ws hws 1 1
  exact (words_any s hz W).mono fun e w' h => tok_of _ (by simp) _ ts (by rw [hs]; exact h1) h2 W e w' h
theorem words_joined (ws : List Lx.Ky) (hws : ∀ x ∈ ws, Lx.Fine x) (s : ByteArray) (hs : s.data.toList = Lx.joined (ws.map (·.2.1))) (hz : s.size ≤ 65536) (W : World) :
    Calls Try.prog 7 #[.string s] W (TokOut (ws ++ [(0, [], 0)]) W) := by
  obtain ⟨ts, h1, h2⟩ := Lx.lx_joined ws hws 1 1
  exact (words_any s hz W).mono fun e w' h => tok_of _ (by simp) _ ts (by rw [hs]; exact h1) h2 W e w' h
end Go.Proofs.Ytlmfjaaooklhnaa
