/- What an expression reads at once, and in all. -/
import Derived.Test.YtggoejghnlgigaaTra
namespace Go.Proofs.Ytggoejghnlgigaa
open Go.ChangeShapes Go.WideShapes Go.ChangeAt Go.RowKit Go.Maps
namespace Tx
set_option linter.unusedVariables false
set_option linter.unusedSimpArgs false
theorem NamesOut.from {W W1 : World} {ns : List ByteArray} {e : Ending} {w' : World} (h : NamesOut W1 ns e w') (hb : Below W.heap.size W W1) : NamesOut W ns e w' := by
  obtain ⟨lv, he, ho, hb1⟩ := h
  refine ⟨lv, he, Go.Joins.ownsRow_le ho hb.size, ?_⟩
  exact keeps_below (F := fun _ => False) hb (Keeps.below hb1) hb.size (fun _ h => h.elim)
def selAll : Dt → Fo → Nat := fun _ ks => ks.len
def selNow : Dt → Fo → Nat := fun d ks => if (d.k == 10) = true then 0 else if (d.k == 9) = true then min 1 ks.len else ks.len
set_option maxRecDepth 100000 in
set_option maxHeartbeats 1000000 in
theorem all_any (B : Nat → Prop) (W : World) (hB : ∀ k, B k → k < W.heap.size) (d : Dt) (ks : Fo) (nv kv : Value) (hn : NamesIn B W nv d.ns) (hk : KidsIn B W kv ks) (hsz : ks.size ≤ 1000000) :
    Calls Try.prog 27 #[exV d nv kv] W (NamesOut W (readsOf selAll d ks)) := by
  have HN := Lib.hid hn
  have HK := Lib.hid hk
  have HB := Lib.hid hB
  clear hn hk hB
  unfold exV
  go_enter Try.func27, Try.ntmps27
  go_wp2_with fail
  generalize hW2 : W.alloc (.cells #[.int .u8 d.k, .int .u8 d.op, .int .i32 d.n, .string d.nm, nv, kv, .int .i64 d.line, .int .i64 d.col] 30) = W2
  have b2 : Below W.heap.size W W2 := by rw [← hW2]; exact (Below.refl _ _).alloc (Nat.le_refl _) _
  clear hW2
  have kp : ∀ b o v, B b → W.cell? ⟨b, o, none⟩ = some v → W2.cell? ⟨b, o, none⟩ = some v := fun b o v hb hc => (b2.cell (p := ⟨b, o, none⟩) (HB.out b hb)).trans hc
  refine (reads_any 46 selAll all_chooses B W2 (fun k hk => Nat.lt_of_lt_of_le (HB.out k hk) b2.size) d ks nv kv (HN.out.keep kp) (HK.out.keep kp) hsz).mono ?_
  rintro e w4 hO
  have hO' := hO.from b2
  clear hO
  obtain ⟨lv, rfl, ho⟩ := hO'
  go_wp2
  go_ret
  exact ⟨lv, rfl, ho⟩
set_option maxHeartbeats 2000000 in
theorem now_chooses : Chooses 45 selNow := by
  refine ⟨fun args w => by kernel_rfl, fun P w b o d ks nv kv hx => ?_⟩
  have c0 : w.cell? ⟨b, o, none⟩ = some (.int .u8 d.k) := hx.at 0 rfl
  have c5 := hx.at 5 (v := kv) rfl
  have hs := hx.kids
  clear hx
  unfold selNow
  cases t10 : (d.k == 10)
  · cases t9 : (d.k == 9)
    · rw [if_neg (by simp), if_neg (by simp)]
      have hsl := Lib.hid hs.sl
      obtain ⟨ao, c, rfl⟩ := hs.slice
      clear hs
      go_enter Try.func45, Try.ntmps45
      go_wp2
      go_ret
      exact ⟨_, rfl, hsl.out, Below.refl _ _⟩
    · rw [if_neg (by simp), if_pos (by simp)]
      rcases hs with ⟨⟨a, c, rfl⟩, rfl⟩ | ⟨kb, ko, cap, rfl, h1, h2, h3⟩
      · go_enter Try.func45, Try.ntmps45
        go_wp2_with fail
        go_region
        go_wp2
        go_ret
        exact ⟨_, rfl, .inl ⟨⟨_, _, rfl⟩, rfl⟩, (Below.refl _ _).drew⟩
      · go_enter Try.func45, Try.ntmps45
        go_wp2_with fail
        go_region
        generalize hz : (if (ks.len : Int) < 1 then (ks.len : Int) else 1) = z
        have e : z.toNat = min 1 ks.len := by rw [← hz]; split <;> omega
        rw [e]
        clear hz e
        go_wp2
        go_ret
        exact ⟨_, rfl, .inr ⟨kb, ko, cap, rfl, Nat.min_le_right _ _, Nat.le_trans (Nat.min_le_right _ _) h1, h2, FoIn.keep (w := w) (w' := w.drew) (fun b o v hb hc => hc) _ _ _ h3⟩, (Below.refl _ _).drew⟩
  · rw [if_pos (by simp)]
    clear hs
    go_enter Try.func45, Try.ntmps45
    go_wp2
    go_ret
    exact ⟨_, rfl, .inl ⟨⟨_, _, rfl⟩, rfl⟩, Below.refl _ _⟩
set_option maxRecDepth 100000 in
set_option maxHeartbeats 1000000 in
theorem now_any (B : Nat → Prop) (W : World) (hB : ∀ k, B k → k < W.heap.size) (d : Dt) (ks : Fo) (nv kv : Value) (hn : NamesIn B W nv d.ns) (hk : KidsIn B W kv ks) (hsz : ks.size ≤ 1000000) :
    Calls Try.prog 26 #[exV d nv kv] W (NamesOut W (readsOf selNow d ks)) := by
  have HN := Lib.hid hn
  have HK := Lib.hid hk
  have HB := Lib.hid hB
  clear hn hk hB
  unfold exV
  go_enter Try.func26, Try.ntmps26
  go_wp2_with fail
  generalize hW2 : W.alloc (.cells #[.int .u8 d.k, .int .u8 d.op, .int .i32 d.n, .string d.nm, nv, kv, .int .i64 d.line, .int .i64 d.col] 30) = W2
  have b2 : Below W.heap.size W W2 := by rw [← hW2]; exact (Below.refl _ _).alloc (Nat.le_refl _) _
  clear hW2
  have kp : ∀ b o v, B b → W.cell? ⟨b, o, none⟩ = some v → W2.cell? ⟨b, o, none⟩ = some v := fun b o v hb hc => (b2.cell (p := ⟨b, o, none⟩) (HB.out b hb)).trans hc
  refine (reads_any 45 selNow now_chooses B W2 (fun k hk => Nat.lt_of_lt_of_le (HB.out k hk) b2.size) d ks nv kv (HN.out.keep kp) (HK.out.keep kp) hsz).mono ?_
  rintro e w4 hO
  have hO' := hO.from b2
  clear hO
  obtain ⟨lv, rfl, ho⟩ := hO'
  go_wp2
  go_ret
  exact ⟨lv, rfl, ho⟩
end Tx
end Go.Proofs.Ytggoejghnlgigaa
