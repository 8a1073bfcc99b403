/- Expressions in memory: what a forest of them is, where it lies, and what keeps it. -/
import Derived.Test.YtcklccpcajbjeaaRows
import Derived.WalkKit
import Derived.ProofKit
import Derived.OpenShut
import Derived.Lib.Hide
import Derived.Below
import Derived.Outline
namespace Go.Proofs.Ytcklccpcajbjeaa
open Go.ChangeShapes Go.WideShapes Go.ChangeAt Go.RowKit
namespace Tx
set_option linter.unusedVariables false

/-- What an expression is but for its kids. -/
structure Dt where
  k : Int
  op : Int
  n : Int
  nm : ByteArray
  hnm : nm.size ≤ maxLen
  ns : List ByteArray
  line : Int
  col : Int
/-- Expressions side by side, each with its kids. -/
inductive Fo where
  | nil : Fo
  | cons (d : Dt) (ks rest : Fo) : Fo
def Fo.len : Fo → Nat
  | .nil => 0
  | .cons _ _ r => r.len + 1
def Fo.size : Fo → Nat
  | .nil => 0
  | .cons _ ks r => 1 + ks.size + r.size
def Fo.depth : Fo → Nat
  | .nil => 0
  | .cons _ ks r => max (1 + ks.depth) r.depth
def Fo.get : Fo → Nat → Option (Dt × Fo)
  | .nil, _ => none
  | .cons d ks _, 0 => some (d, ks)
  | .cons _ _ r, i + 1 => r.get i
def Fo.drop : Fo → Nat → Fo
  | f, 0 => f
  | .nil, _ + 1 => .nil
  | .cons _ _ r, i + 1 => r.drop i
theorem Fo.get_drop : ∀ (f : Fo) (i : Nat) (d : Dt) (ks : Fo), f.get i = some (d, ks) → f.drop i = .cons d ks (f.drop (i + 1))
  | .nil, i, d, ks, h => by cases i <;> simp [Fo.get] at h
  | .cons d' ks' r, 0, d, ks, h => by
    simp only [Fo.get, Option.some.injEq, Prod.mk.injEq] at h
    obtain ⟨rfl, rfl⟩ := h
    cases r <;> rfl
  | .cons d' ks' r, i + 1, d, ks, h => Fo.get_drop r i d ks h
theorem Fo.get_lt : ∀ (f : Fo) (i : Nat), i < f.len → ∃ d ks, f.get i = some (d, ks)
  | .nil, i, h => absurd h (Nat.not_lt_zero _)
  | .cons d ks r, 0, _ => ⟨d, ks, rfl⟩
  | .cons d ks r, i + 1, h => Fo.get_lt r i (Nat.lt_of_succ_lt_succ h)
theorem Fo.drop_len : ∀ (f : Fo), f.drop f.len = .nil
  | .nil => rfl
  | .cons d ks r => Fo.drop_len r

/-- A list of names lies behind a slice. -/
def NamesIn (B : Nat → Prop) (w : World) (v : Value) (ns : List ByteArray) : Prop :=
  ((∃ a c, v = .slice a 0 c) ∧ ns = []) ∨ ∃ b o cap, v = .slice (some ⟨b, o, none⟩) ns.length cap ∧ ns.length ≤ cap ∧ cap ≤ maxLen ∧ B b ∧ ∀ i s, ns[i]? = some s → s.size ≤ maxLen ∧ w.cell? ⟨b, o + i, none⟩ = some (.string s)
/-- The cells of an expression. -/
def cells (d : Dt) (nv kv : Value) : List Value := [.int .u8 d.k, .int .u8 d.op, .int .i32 d.n, .string d.nm, nv, kv, .int .i64 d.line, .int .i64 d.col]
/-- Expressions lie side by side from an address on. -/
def FoIn (B : Nat → Prop) (w : World) : Fo → Nat → Nat → Prop
  | .nil, _, _ => True
  | .cons d ks r, b, o => B b ∧ (∃ nv kv, (∀ j v, (cells d nv kv)[j]? = some v → w.cell? ⟨b, o + j, none⟩ = some v) ∧ NamesIn B w nv d.ns ∧
      (((∃ a c, kv = .slice a 0 c) ∧ ks = .nil) ∨ ∃ kb ko cap, kv = .slice (some ⟨kb, ko, none⟩) ks.len cap ∧ ks.len ≤ cap ∧ cap ≤ maxLen ∧ FoIn B w ks kb ko)) ∧ FoIn B w r b (o + 8)
def KidsIn (B : Nat → Prop) (w : World) (kv : Value) (ks : Fo) : Prop :=
  ((∃ a c, kv = .slice a 0 c) ∧ ks = .nil) ∨ ∃ kb ko cap, kv = .slice (some ⟨kb, ko, none⟩) ks.len cap ∧ ks.len ≤ cap ∧ cap ≤ maxLen ∧ FoIn B w ks kb ko

theorem NamesIn.keep {B : Nat → Prop} {w w' : World} (hb : ∀ b o v, B b → w.cell? ⟨b, o, none⟩ = some v → w'.cell? ⟨b, o, none⟩ = some v) {v : Value} {ns : List ByteArray} (h : NamesIn B w v ns) : NamesIn B w' v ns := by
  rcases h with h | ⟨b, o, cap, h1, h2, h3, h4, h5⟩
  · exact .inl h
  · exact .inr ⟨b, o, cap, h1, h2, h3, h4, fun i s hi => ⟨(h5 i s hi).1, hb _ _ _ h4 (h5 i s hi).2⟩⟩
theorem FoIn.keep {B : Nat → Prop} {w w' : World} (hb : ∀ b o v, B b → w.cell? ⟨b, o, none⟩ = some v → w'.cell? ⟨b, o, none⟩ = some v) : ∀ (f : Fo) (b o : Nat), FoIn B w f b o → FoIn B w' f b o
  | .nil, _, _, _ => trivial
  | .cons d ks r, b, o, h => by
    obtain ⟨hB, ⟨nv, kv, hc, hn, hk⟩, hr⟩ := h
    refine ⟨hB, ⟨nv, kv, fun j v hj => hb _ _ _ hB (hc j v hj), hn.keep hb, ?_⟩, FoIn.keep hb r b (o + 8) hr⟩
    rcases hk with hk | ⟨kb, ko, cap, e, h1, h2, h3⟩
    · exact .inl hk
    · exact .inr ⟨kb, ko, cap, e, h1, h2, FoIn.keep hb ks kb ko h3⟩
theorem KidsIn.keep {B : Nat → Prop} {w w' : World} (hb : ∀ b o v, B b → w.cell? ⟨b, o, none⟩ = some v → w'.cell? ⟨b, o, none⟩ = some v) {v : Value} {ks : Fo} (h : KidsIn B w v ks) : KidsIn B w' v ks := by
  rcases h with h | ⟨kb, ko, cap, e, h1, h2, h3⟩
  · exact .inl h
  · exact .inr ⟨kb, ko, cap, e, h1, h2, FoIn.keep hb _ _ _ h3⟩
theorem NamesIn.mono {B B' : Nat → Prop} (hB : ∀ k, B k → B' k) {w : World} {v : Value} {ns : List ByteArray} (h : NamesIn B w v ns) : NamesIn B' w v ns := by
  rcases h with h | ⟨b, o, cap, h1, h2, h3, h4, h5⟩
  · exact .inl h
  · exact .inr ⟨b, o, cap, h1, h2, h3, hB _ h4, h5⟩
theorem FoIn.mono {B B' : Nat → Prop} (hB : ∀ k, B k → B' k) {w : World} : ∀ (f : Fo) (b o : Nat), FoIn B w f b o → FoIn B' w f b o
  | .nil, _, _, _ => trivial
  | .cons d ks r, b, o, h => by
    obtain ⟨hb, ⟨nv, kv, hc, hn, hk⟩, hr⟩ := h
    refine ⟨hB _ hb, ⟨nv, kv, hc, hn.mono hB, ?_⟩, FoIn.mono hB r b (o + 8) hr⟩
    rcases hk with hk | ⟨kb, ko, cap, e, h1, h2, h3⟩
    · exact .inl hk
    · exact .inr ⟨kb, ko, cap, e, h1, h2, FoIn.mono hB ks kb ko h3⟩
theorem KidsIn.mono {B B' : Nat → Prop} (hB : ∀ k, B k → B' k) {w : World} {v : Value} {ks : Fo} (h : KidsIn B w v ks) : KidsIn B' w v ks := by
  rcases h with h | ⟨kb, ko, cap, e, h1, h2, h3⟩
  · exact .inl h
  · exact .inr ⟨kb, ko, cap, e, h1, h2, FoIn.mono hB _ _ _ h3⟩
/-- The expression at a place of a row. -/
theorem FoIn.at {B : Nat → Prop} {w : World} : ∀ (f : Fo) (b o : Nat), FoIn B w f b o → ∀ (i : Nat) (d : Dt) (ks : Fo), f.get i = some (d, ks) →
    B b ∧ ∃ nv kv, (∀ j v, (cells d nv kv)[j]? = some v → w.cell? ⟨b, o + i * 8 + j, none⟩ = some v) ∧ NamesIn B w nv d.ns ∧ KidsIn B w kv ks
  | .nil, _, _, _, i, d, ks, h => by cases i <;> simp [Fo.get] at h
  | .cons d' ks' r, b, o, ⟨hB, ⟨nv, kv, hc, hn, hk⟩, hr⟩, 0, d, ks, h => by
    simp only [Fo.get, Option.some.injEq, Prod.mk.injEq] at h
    obtain ⟨rfl, rfl⟩ := h
    exact ⟨hB, nv, kv, fun j v hj => by simpa using hc j v hj, hn, hk⟩
  | .cons d' ks' r, b, o, ⟨hB, _, hr⟩, i + 1, d, ks, h => by
    obtain ⟨h1, nv, kv, hc, hn, hk⟩ := FoIn.at r b (o + 8) hr i d ks h
    exact ⟨h1, nv, kv, fun j v hj => by have := hc j v hj; rwa [show o + 8 + i * 8 + j = o + (i + 1) * 8 + j by omega] at this, hn, hk⟩
end Tx
end Go.Proofs.Ytcklccpcajbjeaa
