/- When two expressions are one; what is left to compare. -/
import Derived.Test.YtggoejghnlgigaaTw
namespace Go.Proofs.Ytggoejghnlgigaa
namespace Tx
set_option linter.unusedVariables false
def sameN : List ByteArray → List ByteArray → Bool
  | [], [] => true
  | a :: l, b :: m => (a.toList == b.toList) && sameN l m
  | _, _ => false
def sameD (a b : Dt) : Bool := a.k == b.k && (a.op == b.op && (a.n == b.n && ((a.nm.toList == b.nm.toList) && sameN a.ns b.ns)))
def sameF : Fo → Fo → Bool
  | .nil, .nil => true
  | .cons d ks r, .cons d' ks' r' => sameD d d' && (sameF ks ks' && sameF r r')
  | _, _ => false
theorem sameN_len : ∀ (l m : List ByteArray), sameN l m = true → l.length = m.length
  | [], [], _ => rfl
  | a :: l, b :: m, h => by
    simp only [sameN, Bool.and_eq_true] at h
    simp [sameN_len l m h.2]
  | [], _ :: _, h => by simp [sameN] at h
  | _ :: _, [], h => by simp [sameN] at h
theorem sameN_ne {l m : List ByteArray} (h : l.length ≠ m.length) : sameN l m = false := by
  cases e : sameN l m
  · rfl
  · exact absurd (sameN_len l m e) h
theorem sameN_drop {l m : List ByteArray} {i : Nat} {a b : ByteArray} (ha : l[i]? = some a) (hb : m[i]? = some b) : sameN (l.drop i) (m.drop i) = ((a.toList == b.toList) && sameN (l.drop (i + 1)) (m.drop (i + 1))) := by
  obtain ⟨h1, rfl⟩ := List.getElem?_eq_some_iff.1 ha
  obtain ⟨h2, rfl⟩ := List.getElem?_eq_some_iff.1 hb
  rw [List.drop_eq_getElem_cons h1, List.drop_eq_getElem_cons h2, sameN]
theorem sameN_done {l m : List ByteArray} {i : Nat} (h : l.length ≤ i) (hm : m.length ≤ i) : sameN (l.drop i) (m.drop i) = true := by
  rw [List.drop_of_length_le h, List.drop_of_length_le hm, sameN]
theorem sameN_self : ∀ (l : List ByteArray), sameN l l = true
  | [] => rfl
  | a :: l => by simp [sameN, sameN_self l]
theorem sameD_self (d : Dt) : sameD d d = true := by simp [sameD, sameN_self]
theorem sameF_self : ∀ (f : Fo), sameF f f = true
  | .nil => rfl
  | .cons d ks r => by simp [sameF, sameD_self, sameF_self ks, sameF_self r]
theorem sameF_len : ∀ (f g : Fo), sameF f g = true → f.len = g.len
  | .nil, .nil, _ => rfl
  | .cons d ks r, .cons d' ks' r', h => by
    simp only [sameF, Bool.and_eq_true] at h
    simp only [Fo.len, sameF_len r r' h.2.2]
  | .nil, .cons .., h => by simp [sameF] at h
  | .cons .., .nil, h => by simp [sameF] at h
theorem sameF_ne {f g : Fo} (h : f.len ≠ g.len) : sameF f g = false := by
  cases e : sameF f g
  · rfl
  · exact absurd (sameF_len f g e) h
theorem sameF_drop {f g : Fo} {i : Nat} {d d' : Dt} {ks ks' : Fo} (hf : f.get i = some (d, ks)) (hg : g.get i = some (d', ks')) : sameF (f.drop i) (g.drop i) = (sameD d d' && (sameF ks ks' && sameF (f.drop (i + 1)) (g.drop (i + 1)))) := by
  rw [Fo.get_drop f i d ks hf, Fo.get_drop g i d' ks' hg, sameF]
theorem sameF_done {f g : Fo} (i : Nat) (hf : f.len = i) (hg : g.len = i) : sameF (f.drop i) (g.drop i) = true := by
  subst hf
  rw [Fo.drop_len, ← hg, Fo.drop_len, sameF]
theorem drop_zero (f : Fo) : f.drop 0 = f := by cases f <;> rfl
theorem drop_size {f : Fo} {i : Nat} {d : Dt} {ks : Fo} (hf : f.get i = some (d, ks)) : (f.drop i).size = 1 + ks.size + (f.drop (i + 1)).size := by
  rw [Fo.get_drop f i d ks hf, Fo.size]
theorem len_nil {f : Fo} (h : f.len = 0) : f = .nil := by
  cases f
  · rfl
  · simp [Fo.len] at h
theorem len_size : ∀ (f : Fo), f.len ≤ f.size
  | .nil => Nat.le_refl _
  | .cons d ks r => by simp only [Fo.len, Fo.size]; have := len_size r; omega
/-- Two lists of expressions that have to be one, and where they lie. -/
structure Pr where
  va : Value
  vb : Value
  a : Fo
  b : Fo
def allSame : List Pr → Bool
  | [] => true
  | p :: l => sameF p.a p.b && allSame l
def left : List Pr → Nat
  | [] => 0
  | p :: l => p.a.size + 1 + left l
theorem left_len : ∀ (l : List Pr), l.length ≤ left l
  | [] => Nat.le_refl _
  | p :: l => by simp only [left, List.length_cons]; have := left_len l; omega
end Tx
end Go.Proofs.Ytggoejghnlgigaa
