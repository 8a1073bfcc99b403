/- What lex.Words answers. -/
import Derived.Test.YtlmfjaaooklhnaaLexE
import Derived.Test.YtlmfjaaooklhnaaFNew
import Derived.Laws.AppendOwn
import Derived.OwnWalk
import Derived.Deep.RegionWith
import Derived.LoopTactic
import Derived.Deep.LoopGhost
namespace Go.Proofs.Ytlmfjaaooklhnaa
open Go.ChangeShapes Go.WideShapes Go.ChangeAt Go.RowKit
set_option linter.unusedVariables false
set_option linter.unusedSimpArgs false

/-- A place lies in the block B. -/
structure AtIs (w : World) (B : Nat) (line col : Int) : Prop where
  c0 : w.cell? ⟨B, 0, none⟩ = some (.int .i64 line)
  c1 : w.cell? ⟨B, 1, none⟩ = some (.int .i64 col)
  f0 : w.frozen? ⟨B, 0, none⟩ = false
  f1 : w.frozen? ⟨B, 1, none⟩ = false
theorem AtIs.below {w w' : World} {B C : Nat} {line col : Int} (h : AtIs w B line col) (hb : Below C w w') (hlt : B < C) : AtIs w' B line col :=
  ⟨(hb.cell (p := ⟨B, 0, none⟩) hlt).trans h.c0, (hb.cell (p := ⟨B, 1, none⟩) hlt).trans h.c1, (hb.frozen (p := ⟨B, 0, none⟩) hlt).trans h.f0, (hb.frozen (p := ⟨B, 1, none⟩) hlt).trans h.f1⟩

def tokCells (t : Lx.Tok) : List Value := [.int .u8 t.k, .string ⟨t.t.toArray⟩, .int .i32 t.n, .int .i64 t.line, .int .i64 t.col]
def preO (acc : List Lx.Tok) : Lx.Out → Lx.Out
  | .inl l => .inl (acc ++ l)
  | .inr e => .inr e
theorem preO_cons (acc : List Lx.Tok) (t : Lx.Tok) (o : Lx.Out) : preO acc (Lx.consO t o) = preO (acc ++ [t]) o := by
  cases o <;> simp [preO, Lx.consO]

/-- What holds at the head of the loops of Words: what is left of the text, where it begins, the words that were read. -/
def Lexing (s : ByteArray) (W : World) (sv lv : Value) (wr : World) (cs : ByteArray) (line col : Int) (acc : List Lx.Tok) : Prop :=
  sv = .string cs ∧ Lx.lx s.data.toList 1 1 = preO acc (Lx.lx cs.data.toList line col) ∧ wr.ownsRow (W.heap.size + 1) 34 5 lv acc.length (acc.flatMap tokCells) ∧
  AtIs wr W.heap.size line col ∧ Below W.heap.size W wr ∧ W.heap.size < wr.heap.size ∧ 1 ≤ line ∧ line + cs.size ≤ 70000 ∧ 1 ≤ col ∧ col + cs.size ≤ 70000 ∧ acc.length + cs.size ≤ 70000 ∧ cs.size ≤ 65536

theorem Lexing.drewN {s : ByteArray} {W : World} {sv lv : Value} {wr : World} {cs : ByteArray} {line col : Int} {acc : List Lx.Tok} (h : Lexing s W sv lv wr cs line col acc) (n : Nat) : Lexing s W sv lv (wr.drewN n) cs line col acc := by
  obtain ⟨a, b, c, d, e, f, r⟩ := h
  exact ⟨a, b, c, d.below (below_drewN (Below.refl (W.heap.size + 1) wr) n) (by omega), below_drewN e n, f, r⟩

theorem ownsRow_of_heap {w wn : World} {base : Nat} {e : TypeId} {size : Nat} {v : Value} {n : Nat} {xs : List Value} (h : w.ownsRow base e size v n xs) (hb : ∀ k, base ≤ k → k < w.heap.size → wn.heap[k]? = w.heap[k]?) : wn.ownsRow base e size v n xs := by
  refine ⟨h.1, ?_⟩
  rcases h.2 with hn | ⟨g, cap, cur, rfl, hg, hgg, rest⟩
  · exact .inl hn
  · exact .inr ⟨g, cap, cur, rfl, hg, (hb g hg (Array.getElem?_eq_some_iff.1 hgg).1).trans hgg, rest⟩
theorem lineB_bd (l : List UInt8) (n : Int) : n ≤ Lx.lineB l n ∧ Lx.lineB l n ≤ n + 1 := by unfold Lx.lineB; split <;> omega
theorem colB_bd (l : List UInt8) (n : Int) : Lx.colB l n = 1 ∨ Lx.colB l n = n + l.length := by unfold Lx.colB; split <;> simp
theorem Lexing.gap {s : ByteArray} {W : World} {lv : Value} {wr w1 wd : World} {ds : ByteArray} {li co li' co' : Int} {acc : List Lx.Tok} {g : Nat} (h : Lexing s W (.string ds) lv wr ds li co acc)
    (hd : wd.heap = wr.heap) (hb : Below wd.heap.size wd w1) (hbw : Below W.heap.size W w1) (hg : Lx.gap ds.data.toList = g) (hg0 : 0 < g) (hli : Lx.lineB (ds.extract 0 g).data.toList li = li') (hco : Lx.colB (ds.extract 0 g).data.toList co = co') :
    Lexing s W (.string (ds.extract g ds.size)) lv ((w1.setCell ⟨W.heap.size, 0, none⟩ (.int .i64 li')).setCell ⟨W.heap.size, 1, none⟩ (.int .i64 co')) (ds.extract g ds.size) li' co' acc := by
  obtain ⟨_, hlx, hown, ⟨g0, g1, g2, g3⟩, hbl, hsz, l1, l2, c1, c2, a1, z2⟩ := h
  have hgl := Lx.gap_le ds.data.toList
  rw [← size_list, hg] at hgl
  have hz : (ds.extract g ds.size).size = ds.size - g := by rw [size_list, Lib.extract_to_end, List.length_drop, ← size_list]
  have ht : (ds.extract 0 g).data.toList.length = g := by rw [extract_take, List.length_take, ← size_list]; omega
  have q0 : w1.cell? ⟨W.heap.size, 0, none⟩ = some (.int .i64 li) := (hb.cell (p := ⟨W.heap.size, 0, none⟩) (by rw [hd]; exact hsz)).trans ((World.cell?_of_block (by rw [hd])).trans g0)
  have q1 : w1.cell? ⟨W.heap.size, 1, none⟩ = some (.int .i64 co) := (hb.cell (p := ⟨W.heap.size, 1, none⟩) (by rw [hd]; exact hsz)).trans ((World.cell?_of_block (by rw [hd])).trans g1)
  have q2 : w1.frozen? ⟨W.heap.size, 0, none⟩ = false := (hb.frozen (p := ⟨W.heap.size, 0, none⟩) (by rw [hd]; exact hsz)).trans ((World.frozen?_of_block (by rw [hd])).trans g2)
  have q3 : w1.frozen? ⟨W.heap.size, 1, none⟩ = false := (hb.frozen (p := ⟨W.heap.size, 1, none⟩) (by rw [hd]; exact hsz)).trans ((World.frozen?_of_block (by rw [hd])).trans g3)
  have b1 := lineB_bd (ds.extract 0 g).data.toList li
  have b2 := colB_bd (ds.extract 0 g).data.toList co
  rw [ht] at b2
  have hsw := hb.size
  rw [hd] at hsw
  refine ⟨rfl, ?_, ?_, ?_, ?_, ?_, by omega, ?_, ?_, ?_, ?_, by omega⟩
  · rw [hlx, Lx.lx_eq ds.data.toList, if_pos (by omega), hg, ← hli, ← hco, extract_take, Lib.extract_to_end]
  · refine ownsRow_of_heap hown fun k hk hlt => ?_
    rw [Below.heap_setCell _ _ _ _ (by simp; omega), Below.heap_setCell _ _ _ _ (by simp; omega), hb.block k (by rw [hd]; exact hlt), hd]
  · constructor <;> simp [q0, q1, q2, q3, go_sem]
  · exact (hbw.setCell (Nat.le_refl _) _).setCell (Nat.le_refl _) _
  · simp; omega
  · rw [hz]; omega
  · rcases b2 with b2 | b2 <;> omega
  · rw [hz]; rcases b2 with b2 | b2 <;> omega
  · rw [hz]; omega

theorem word_zero (l : List UInt8) (hb : (Lx.word l).bad = 0) (hk : (Lx.word l).k = 0) : l = [] ∧ Lx.word l = ⟨0, [], 0, 0⟩ := by
  cases l with
  | nil => exact ⟨rfl, rfl⟩
  | cons c r => exact absurd hk (Lx.word_k c r hb)
theorem word_len (l : List UInt8) (hb : (Lx.word l).bad = 0) : (Lx.word l).t.length ≤ l.length := by
  by_cases hk : (Lx.word l).k = 0
  · obtain ⟨rfl, h⟩ := word_zero l hb hk
    rw [h]
    exact Nat.le_refl _
  · exact (Lx.word_good (l := l) hb hk).2
theorem infoTok : (Try.prog.info? 34).map (fun i => (i.zero, i.size, i.bytes)) = some (some (Value.agg #[.int .u8 0, .string ⟨#[]⟩, .int .i32 0, .int .i64 0, .int .i64 0]), 5, 48) := by kernel_rfl
/-- Behind the append of a word: what lies where. -/
structure Pushed (W w1 w2 : World) (x : Lx.Wd) (li co : Int) (lv' : Value) (acc : List Lx.Tok) : Prop where
  at_ : AtIs w2 W.heap.size li co
  k : w2.cell? ⟨w1.heap.size, 0, none⟩ = some (.int .u8 x.k)
  t : w2.cell? ⟨w1.heap.size, 1, none⟩ = some (.string ⟨x.t.toArray⟩)
  own : w2.ownsRow (W.heap.size + 1) 34 5 lv' (acc.length + 1) (acc.flatMap tokCells ++ [.int .u8 x.k, .string ⟨x.t.toArray⟩, .int .i32 x.n, .int .i64 li, .int .i64 co])
  below : Below W.heap.size W w2
  big : W.heap.size < w2.heap.size
theorem Lexing.push {s : ByteArray} {W : World} {lv lv' : Value} {wr w1 w2 : World} {ds : ByteArray} {li co : Int} {acc : List Lx.Tok} {x : Lx.Wd} {T T' : TypeId} {o : Array Value} (h : Lexing s W (.string ds) lv wr ds li co acc)
    (hb : Below wr.heap.size wr w1) (ho : o = #[.int .u8 x.k, .string ⟨x.t.toArray⟩, .int .i32 x.n, .int .i64 li, .int .i64 co])
    (hown : w2.ownsRow (W.heap.size + 1) 34 5 lv' (acc.length + 1) (acc.flatMap tokCells ++ [.int .u8 x.k, .string ⟨x.t.toArray⟩, .int .i32 x.n, .int .i64 li, .int .i64 co]))
    (hg : ((w1.alloc (.cells o T)).alloc (.cells o T')).grownBy w2 lv.ownBlock) : Pushed W w1 w2 x li co lv' acc := by
  subst ho
  obtain ⟨_, hlx, ho, hat, hbl, hsz, r⟩ := h
  have hlt := ho.lt
  have hzz : W.heap.size < w1.heap.size := Nat.lt_of_lt_of_le hsz hb.size
  have hat1 : AtIs ((w1.alloc (.cells #[.int .u8 x.k, .string ⟨x.t.toArray⟩, .int .i32 x.n, .int .i64 li, .int .i64 co] T)).alloc (.cells #[.int .u8 x.k, .string ⟨x.t.toArray⟩, .int .i32 x.n, .int .i64 li, .int .i64 co] T')) W.heap.size li co :=
    (hat.below hb hsz).below (((Below.refl _ _).alloc (Nat.le_refl _) _).alloc (by simp) _) hzz
  have hnW : some W.heap.size ≠ lv.ownBlock := fun e => by have := hlt _ e.symm; omega
  have hn1 : some w1.heap.size ≠ lv.ownBlock := fun e => by have := hlt _ e.symm; have := hb.size; omega
  have hsz2 := hg.size
  simp at hsz2
  refine ⟨⟨hg.cell hat1.c0 hnW, hg.cell hat1.c1 hnW, ?_, ?_⟩, hg.cell (by simp [go_sem]) hn1, hg.cell (by simp [go_sem]) hn1, hown, ?_, by omega⟩
  · rw [World.frozen?_of_block (hg.block W.heap.size (by simp; omega) hnW)]; exact hat1.f0
  · rw [World.frozen?_of_block (hg.block W.heap.size (by simp; omega) hnW)]; exact hat1.f1
  · exact (((hbl.trans (hb.mono (by omega))).alloc (by omega) _).alloc (by simp; omega) _).grown hg (by simp; omega) (fun k hk => by have := hlt k hk; omega)

def outW (l : List UInt8) : Lx.Out := if 65536 < l.length then .inr (3, 1, 1) else Lx.lx l 1 1
/-- What Words hands back: the words, in memory of its own; or an error, and no words. -/
def WordsOut (o : Lx.Out) (W : World) (e : Ending) (w' : World) : Prop :=
  match o with
  | .inl l => ∃ v, e = .returned (.tuple #[v, .nilIface]) ∧ w'.ownsRow W.heap.size 34 5 v l.length (l.flatMap tokCells) ∧ Below W.heap.size W w'
  | .inr (k, line, col) => ∃ b, e = .returned (.tuple #[.slice none 0 0, .iface 52 (.pointer (some ⟨b, 0, none⟩))]) ∧ IsErr w' b k line col ∧ W.heap.size ≤ b ∧ Below W.heap.size W w'

theorem Pushed.done {s ds : ByteArray} {W w1 w2 : World} {x : Lx.Wd} {li co : Int} {v' : Value} {acc : List Lx.Tok} (h : Pushed W w1 w2 x li co v' acc) (hx : Lx.word ds.data.toList = x) (hb : x.bad = 0) (hk : x.k = 0)
    (hO : Lx.lx s.data.toList 1 1 = preO acc (if x.k = 0 then .inl [⟨0, [], 0, li, co⟩] else Lx.consO ⟨x.k, x.t, x.n, li, co⟩ (Lx.lx (List.drop (List.length x.t) ds.data.toList) li (co + ↑(List.length x.t))))) :
    WordsOut (Lx.lx s.data.toList 1 1) W (.returned (.tuple #[v', .nilIface])) w2 := by
  rw [hO, if_pos hk]
  obtain ⟨_, hw⟩ := word_zero ds.data.toList (by rw [hx]; exact hb) (by rw [hx]; exact hk)
  rw [hx] at hw
  subst hw
  refine ⟨v', rfl, ?_, h.below⟩
  have := h.own
  rw [List.length_append, List.flatMap_append]
  refine ⟨by simpa [tokCells] using this.1, ?_⟩
  rcases this.2 with e | ⟨g, cap, cur, e1, e2, e3⟩
  · exact .inl e
  · exact .inr ⟨g, cap, cur, e1, by omega, e3⟩
theorem Pushed.next {s ds : ByteArray} {W wr w1 w2 : World} {x : Lx.Wd} {li co : Int} {lv v' : Value} {acc : List Lx.Tok} (h : Pushed W w1 w2 x li co v' acc) (hL : Lexing s W (.string ds) lv wr ds li co acc) (hx : Lx.word ds.data.toList = x) (hb : x.bad = 0) (hk : ¬ x.k = 0)
    (hO : Lx.lx s.data.toList 1 1 = preO acc (if x.k = 0 then .inl [⟨0, [], 0, li, co⟩] else Lx.consO ⟨x.k, x.t, x.n, li, co⟩ (Lx.lx (List.drop (List.length x.t) ds.data.toList) li (co + ↑(List.length x.t))))) :
    Lexing s W (.string (ds.extract (List.length x.t) ds.size)) v' (w2.setCell ⟨W.heap.size, 1, none⟩ (.int .i64 (co + ↑(List.length x.t)))) (ds.extract (List.length x.t) ds.size) li (co + ↑(List.length x.t)) (acc ++ [⟨x.k, x.t, x.n, li, co⟩]) ∧ (ds.extract (List.length x.t) ds.size).size < ds.size := by
  obtain ⟨_, _, _, _, hbl, hsz, l1, l2, c1, c2, a1, z2⟩ := hL
  rw [if_neg hk, preO_cons] at hO
  obtain ⟨g1, g2⟩ := Lx.word_good (l := ds.data.toList) (by rw [hx]; exact hb) (by rw [hx]; exact hk)
  rw [hx] at g1 g2
  rw [← size_list] at g2
  have hz : (ds.extract (List.length x.t) ds.size).size = ds.size - List.length x.t := by rw [size_list, Lib.extract_to_end, List.length_drop, ← size_list]
  obtain ⟨p0, p1, p2, p3⟩ := h.at_
  refine ⟨⟨rfl, ?_, ?_, ?_, h.below.setCell (Nat.le_refl _) _, ?_, l1, ?_, ?_, ?_, ?_, ?_⟩, by rw [hz]; omega⟩
  · rw [hO, Lib.extract_to_end]
  · rw [List.length_append, List.flatMap_append]
    refine ownsRow_of_heap (w := w2) ?_ fun k hk' hlt => Below.heap_setCell _ _ _ _ (by simp; omega)
    simpa [tokCells] using h.own
  · constructor <;> simp [p0, p1, p2, p3, go_sem]
  · have := h.big; simpa using this
  · rw [hz]; omega
  · omega
  · rw [hz]; omega
  · rw [hz, List.length_append]; simp; omega
  · rw [hz]; omega

set_option maxRecDepth 100000 in
set_option maxHeartbeats 2000000 in
theorem words_long (s : ByteArray) (hs : s.size ≤ maxLen) (hl : 65536 < s.size) (W : World) :
    Calls Try.prog 7 #[.string s] W (WordsOut (.inr (3, 1, 1)) W) := by
  unfold maxLen at hs
  go_enter Try.func7, Try.ntmps7
  go_wp2_with (go_at_call 11; refine (new_any _ _ _ rfl _).mono ?_; rintro e w1 ⟨b, rfl, hx, hlt, hb⟩)
  go_ret2
  exact ⟨b, rfl, hx, by simp at hlt; omega, ((Below.refl _ _).alloc (Nat.le_refl _) _).trans (hb.mono (by simp))⟩

def strLen : Value → Nat
  | .string b => b.size
  | _ => 0

set_option maxRecDepth 100000 in
set_option maxHeartbeats 2000000 in
theorem words_any (s : ByteArray) (hs : s.size ≤ 65536) (W : World) :
    Calls Try.prog 7 #[.string s] W (WordsOut (Lx.lx s.data.toList 1 1) W) := by
  go_enter Try.func7, Try.ntmps7
  go_wp2
  go_loopw [0, 5] (fun sv lv wr => ∃ cs line col acc, Lexing s W sv lv wr cs line col acc) (fun sv _ _ => strLen sv)
  case atStart =>
    refine ⟨s, 1, 1, [], rfl, ?_, World.ownsRow_nil _ _ _ _, ?_, ?_, by simp, by omega, by omega, by omega, by omega, by simp; omega, hs⟩
    · cases Lx.lx s.data.toList 1 1 <;> rfl
    · constructor <;> simp [go_sem]
    · exact (Below.refl _ _).alloc (Nat.le_refl _) _
  case round =>
    obtain ⟨cs, line, col, acc, hL⟩ := hrel
    obtain rfl := hL.1
    have z1 := hL.2.2.2.2.2.2.2.2.2.2.2
    have HL0 := Lib.hid hL
    clear hL
    go_wp2_with (go_at_call 12; refine (gap_any _ (by omega) _).mono ?_; rintro e w1 ⟨rfl, n, rfl⟩)
    have HL := Lib.hid (HL0.out.drewN n)
    obtain ⟨wo, hwo⟩ : ∃ wo : World, wo = wr.drewN n := ⟨_, rfl⟩
    rw [← hwo] at HL ⊢
    clear hwo HL0
    go_loopw [0, 6] (fun sv nv wi => ∃ cs' line' col', Lexing s W sv u5 wi cs' line' col' acc ∧ nv = .int .i64 (Lx.gap cs'.data.toList) ∧ cs'.size ≤ cs.size) (fun sv _ _ => strLen sv)
    case atStart => exact ⟨cs, line, col, HL.out, rfl, Nat.le_refl _⟩
    case round =>
      obtain ⟨ds, li, co, hL, rfl, hle⟩ := hrel
      clear HL
      obtain rfl := hL.1
      have HL := Lib.hid hL
      obtain ⟨_, hlx, hown, hat, hbl, hsz, l1, l2, c1, c2, a1, z2⟩ := hL
      clear hlx hown
      obtain ⟨g0, g1, g2, g3⟩ := hat
      have hgl := Lx.gap_le ds.data.toList
      rw [← size_list] at hgl
      obtain ⟨g, hg⟩ : ∃ g, Lx.gap ds.data.toList = g := ⟨_, rfl⟩
      rw [hg] at hgl ⊢
      have HG := Lib.hid hg
      clear hg
      by_cases hg0 : 0 < g
      · have e1 : (ds.extract 0 g).size ≤ 65536 := by rw [size_list, extract_take, List.length_take]; omega
        have e2 : 0 ≤ li := by omega
        have e3 : li ≤ 100000 := by omega
        have e4 : 0 ≤ co := by omega
        have e5 : co ≤ 100000 := by omega
        obtain ⟨li', hli⟩ : ∃ x, Lx.lineB (ds.extract 0 g).data.toList li = x := ⟨_, rfl⟩
        obtain ⟨co', hco⟩ : ∃ x, Lx.colB (ds.extract 0 g).data.toList co = x := ⟨_, rfl⟩
        have HLI := Lib.hid hli
        have HCO := Lib.hid hco
        clear hli hco
        go_wp2
        go_region_with (go_at_call 13; refine (behind_any li co (ds.extract 0 g) e1 e2 e3 e4 e5 _).mono ?_; rintro e w1 ⟨rfl, hb⟩; rw [HLI.out, HCO.out]; obtain ⟨hcc, hff⟩ := bcell hb; have q0 := (hcc W.heap.size 0 (by simpa using hsz)).trans g0; have q1 := (hcc W.heap.size 1 (by simpa using hsz)).trans g1; have q2 := (hff W.heap.size 0 (by simpa using hsz)).trans g2; have q3 := (hff W.heap.size 1 (by simpa using hsz)).trans g3; clear hcc hff)
        have HN := Lib.hid (HL.out.gap (wd := wr.drew) rfl hb ((hbl.drew).trans (hb.mono (by simp; omega))) HG.out hg0 HLI.out HCO.out)
        have hz : (ds.extract g ds.size).size + g = ds.size := by rw [size_list, Lib.extract_to_end, List.length_drop, ← size_list]; omega
        clear q0 q1 q2 q3 hb g0 g1 g2 g3 HL
        obtain ⟨wn, hwn⟩ : ∃ wn, (w1.setCell ⟨W.heap.size, 0, none⟩ (.int .i64 li')).setCell ⟨W.heap.size, 1, none⟩ (.int .i64 co') = wn := ⟨_, rfl⟩
        rw [hwn] at HN ⊢
        clear hwn
        obtain ⟨fs, hfs⟩ : ∃ fs, ds.extract g ds.size = fs := ⟨_, rfl⟩
        rw [hfs] at HN hz
        have HZ := Lib.hid hz
        have hfz : fs.size ≤ 65536 := by omega
        clear hz
        go_wp2_with (go_at_call 12; refine (gap_any _ hfz _).mono ?_; rintro e w3 ⟨rfl, n3, rfl⟩)
        go_roundw
        case rel => exact ⟨fs, li', co', HN.out.drewN n3, rfl, by have := HZ.out; omega⟩
        case measure => have := HZ.out; simp [strLen]; omega
      · have hgz : g = 0 := by omega
        subst hgz
        have hlx := HL.out.2.1
        rw [Lx.lx_eq ds.data.toList, if_neg (by rw [HG.out]; omega)] at hlx
        obtain ⟨x, hx⟩ : ∃ x, Lx.word ds.data.toList = x := ⟨_, rfl⟩
        rw [hx] at hlx
        have HX := Lib.hid hx
        have hds : ds.size ≤ maxLen := by unfold maxLen; omega
        by_cases hb0 : x.bad ≠ 0
        · rw [if_pos hb0] at hlx
          have HO := Lib.hid hlx
          clear hlx hx
          have hbt : (x.bad == 0) = false := by simpa using hb0
          have hbt2 : (x.bad != 0) = true := by simpa using hb0
          go_wp2_with (first
            | (go_at_call 14; refine (word_any _ hds _).mono ?_; rintro e w1 ⟨rfl, hb⟩; rw [HX.out]; unfold wv; obtain ⟨hcc, hff⟩ := bcell hb; have q0 := (hcc W.heap.size 0 (by simpa using hsz)).trans g0; have q1 := (hcc W.heap.size 1 (by simpa using hsz)).trans g1; have hzz : W.heap.size < w1.heap.size := Nat.lt_of_lt_of_le hsz hb.size; clear hcc hff)
            | (go_at_call 11; refine (new_any _ _ _ hbt _).mono ?_; rintro e w2 ⟨b, rfl, hE, hlt, hb2⟩))
          go_ret2
          rw [HO.out]
          refine ⟨b, rfl, hE, by simp at hlt; omega, (hbl.trans (hb.mono (by omega))).trans (((Below.refl _ _).alloc (by omega) _).trans (hb2.mono (by simp; omega)))⟩
        · have hb0' : x.bad = 0 := by omega
          rw [if_neg hb0] at hlx
          have hbt : (x.bad == 0) = true := by simpa using hb0'
          have hbt2 : (x.bad != 0) = false := by simpa using hb0'
          have hlen : x.t.length ≤ ds.size := by rw [size_list, ← hx]; exact word_len _ (by rw [hx]; exact hb0')
          have HX0 := Lib.hid hb0'
          have HLX := Lib.hid hlx
          clear hlx hb0' hb0 hx
          obtain ⟨i0, hi, hz0, hz1, hz2⟩ := info_parts infoTok
          go_wp2_with (first
            | (go_at_call 14; refine (word_any _ hds _).mono ?_; rintro e w1 ⟨rfl, hb⟩; rw [HX.out]; unfold wv; obtain ⟨hcc, hff⟩ := bcell hb; have q0 := (hcc W.heap.size 0 (by simpa using hsz)).trans g0; have q1 := (hcc W.heap.size 1 (by simpa using hsz)).trans g1; have hzz : W.heap.size < w1.heap.size := Nat.lt_of_lt_of_le hsz hb.size; clear hcc hff; have HW1 := Lib.hid hb; have HOW := Lib.hid (ownsRow_of_heap HL.out.2.2.1 (fun k hk hlt => hb.block k hlt)))
            | (at_builtin; refine wpList_append_own _ rfl (.tmp 41) (.tmp 43) 26 rfl (W.heap.size + 1) 34 i0 _ 5 48 Try.underlying26 hi hz0 hz1 hz2 rfl (by decide) _ _ _ rfl ((HOW.out.alloc _).alloc _) ⟨w1.heap.size + 1, 0, none⟩ 1 1 [.int .u8 x.k, .string ⟨x.t.toArray⟩, .int .i32 x.n, .int .i64 li, .int .i64 co] rfl rfl ?c1 ?c2 ?c3 ?c4 ?c5 ?_; rotate_left 5; intro v' w2 hown2 hgrow2 _; have HP := Lib.hid (HL.out.push HW1.out rfl hown2 hgrow2); have p0 := HP.out.at_.c0; have p1 := HP.out.at_.c1; have p2 := HP.out.at_.f0; have p3 := HP.out.at_.f1; have pk := HP.out.k; have pt := HP.out.t; have psz := HP.out.big; clear hown2 hgrow2 hb q0 q1))
          · have hk : (x.k == 0) = true := by assumption
            go_ret2
            exact HP.out.done HX.out HX0.out (by simpa using hk) HLX.out
          · have hk : (x.k == 0) = false := by assumption
            obtain ⟨q1, q2⟩ := HP.out.next HL.out HX.out HX0.out (by simpa using hk) HLX.out
            exact ⟨⟨_, _, _, _, q1⟩, by simp only [strLen]; omega⟩
          · intro j u hj
            rcases j with _ | _ | _ | _ | _ | j <;> simp at hj <;> subst hj <;> simp [Addr.add, go_sem]
          · intro u hu
            simp at hu
            rcases hu with rfl | rfl | rfl | rfl | rfl <;> rfl
          · unfold maxLen; omega
          · omega
          · simp; omega
end Go.Proofs.Ytlmfjaaooklhnaa
