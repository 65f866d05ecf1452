import Derived.Test.YtaonfedjilfgjaaPk4
import Derived.Deep.LoopGhost
import Derived.Deep.QuietTactic
import Derived.BigQuiet
import Derived.Lib.Hide
import Derived.Lib.SliceRun
import Derived.Test.YtaonfedjilfgjaaPk8
import Derived.Shelf.Abstract
import Derived.Test.YtaonfedjilfgjaaPk1
import Derived.Shelf.Bytes.SlSmallAll
import Derived.Test.YtaonfedjilfgjaaPk3
import Derived.Lib.MakeNoZero
import Derived.Laws.Externs
import Derived.Deep.RegionLaw

/-
  slices.Clone at a row of blocks and at a row of writes, as calls.
-/
namespace Go.Proofs.Ytaonfedjilfgjaa
open Go.RowKit

theorem Try.cellInfo2 : (Try.prog.info? 101).map (fun i => (i.zero, i.size, i.bytes)) = some (some (.agg (Lib.byteCells (zeros 64)).toArray), 64, 64) := by kernel_rfl
theorem OwnK.empty0 {e : TypeId} {k : Nat} {w0 w : World} (hl : Later w0 w) : OwnK e k w0 (w.alloc (.cells #[] e)) (.slice (some ⟨w.heap.size, 0, none⟩) 0 0) [] :=
  ⟨World.ownsRow_made w #[] 0 hl.size (Nat.zero_le _) (by simp), (fun cs hcs => by cases hcs), hl.alloc _⟩
set_option maxRecDepth 100000 in
set_option maxHeartbeats 400000 in
theorem cloneC_any (a : Addr) (n c : Nat) (css : List (List Value)) (w : World) (hx : RowK 64 w (some a) n css) (hone : ∀ cs ∈ css, ∀ u ∈ cs, u.oneCell' = true) (hn : n ≤ 1000000) :
    Calls Try.prog 71 #[.slice (some a) n c] w fun e w' => ∃ v, e = .returned v ∧ OwnK 101 64 w w' v css := by
  have q29 : ∀ (w : World) (a : Option Addr) (n c n' c' : Nat), (binOp .eql 92 (.slice a n c) (.slice none n' c')).run Try.prog w = .ok (.bool a.isNone) w := fun w a n c n' c' => Lib.run_eql_slice_nil w _ _ a n c n' c' Try.underlying92
  obtain ⟨i0, hi, hz0, hz1, hz2⟩ := info_parts Try.cellInfo2
  have HX := Lib.hid hx; have HO := Lib.hid hone
  have HE : Hid (OwnK 101 64 w (w.alloc (.cells #[] 101)) (.slice (some ⟨w.heap.size, 0, none⟩) 0 0) []) := OwnK.empty0 (Later.refl w)
  have HL : Hid (Later w (w.alloc (.cells #[] 101))) := (Later.refl w).alloc _
  have HZ : Hid ((Value.agg (Lib.byteCells (zeros 64)).toArray).cells.size = 64) := by show (Lib.byteCells (zeros 64)).toArray.size = 64; rw [List.size_toArray, bc_len, zeros_length]
  clear hx hone
  go_enter Try.func71, Try.ntmps71
  go_wp2_with (at_builtin; refine wpList_append_rowK rfl _ _ 92 rfl i0 _ 64 Try.underlying92 hi hz0 hz1 hz2 HZ.out (by decide) HE.out rfl _ _ _ css rfl (HX.out.later HL.out) HO.out (by simp; omega) (by omega) ?_; intro v2 w2 hown2 hg2; have HO2 := Lib.hid hown2; clear hown2 hg2)
  go_ret
  exact ⟨_, rfl, by simpa using HO2.out⟩
set_option maxRecDepth 100000 in
set_option maxHeartbeats 400000 in
theorem cloneW_any (A : Option Addr) (n c : Nat) (css : List (List Value)) (w : World) (hx : RowK 129 w A n css) (hone : ∀ cs ∈ css, ∀ u ∈ cs, u.oneCell' = true) (hn : n ≤ 1000000) :
    Calls Try.prog 72 #[.slice A n c] w fun e w' => ∃ v, e = .returned v ∧ OwnK 103 129 w w' v css := by
  have q29 : ∀ (w : World) (a : Option Addr) (n c n' c' : Nat), (binOp .eql 93 (.slice a n c) (.slice none n' c')).run Try.prog w = .ok (.bool a.isNone) w := fun w a n c n' c' => Lib.run_eql_slice_nil w _ _ a n c n' c' Try.underlying93
  cases A with
  | none =>
    have e : css = [] := by
      rcases Nat.eq_zero_or_pos n with h | h
      · exact List.eq_nil_of_length_eq_zero (by have := hx.len; omega)
      · obtain ⟨_, _, h, _⟩ := hx.2.2 h
        cases h
    subst e
    clear hx hone
    go_enter Try.func72, Try.ntmps72
    go_wp2
    go_ret
    exact ⟨_, rfl, OwnK.nil (Later.refl w)⟩
  | some a =>
    obtain ⟨i0, hi, hz0, hz1, hz2⟩ := info_parts Try.writeInfo
    have HX := Lib.hid hx; have HO := Lib.hid hone
    have HE : Hid (OwnK 103 129 w (w.alloc (.cells #[] 103)) (.slice (some ⟨w.heap.size, 0, none⟩) 0 0) []) := OwnK.empty0 (Later.refl w)
    have HL : Hid (Later w (w.alloc (.cells #[] 103))) := (Later.refl w).alloc _
    have HZ : Hid ((Value.agg (wrL ⟨0, zeros 64, zeros 64⟩).toArray).cells.size = 129) := by show (wrL ⟨0, zeros 64, zeros 64⟩).toArray.size = 129; rw [List.size_toArray, wrL_len ⟨zeros_length 64, zeros_length 64⟩]
    clear hx hone
    go_enter Try.func72, Try.ntmps72
    go_wp2_with (at_builtin; refine wpList_append_rowK rfl _ _ 93 rfl i0 _ 136 Try.underlying93 hi hz0 hz1 hz2 HZ.out (by decide) HE.out rfl _ _ _ css rfl (HX.out.later HL.out) HO.out (by simp; omega) (by omega) ?_; intro v2 w2 hown2 hg2; have HO2 := Lib.hid hown2; clear hown2 hg2)
    go_ret
    exact ⟨_, rfl, by simpa using HO2.out⟩

end Go.Proofs.Ytaonfedjilfgjaa

/-
  The statement of Copy that draws its order.
-/
namespace Go.Proofs.Ytaonfedjilfgjaa
open Go.RowKit

theorem OwnK.base {e : TypeId} {k : Nat} {w0 w1 w : World} {v : Value} {css : List (List Value)} (h : OwnK e k w0 w v css) (hl : Later w1 w0) : OwnK e k w1 w v css :=
  ⟨by
    refine ⟨h.1.1, ?_⟩
    rcases h.1.2 with h1 | ⟨g, cap, cur, h1, h2, h3⟩
    · exact .inl h1
    · exact .inr ⟨g, cap, cur, h1, Nat.le_trans hl.le h2, h3⟩, h.2.1, hl.trans h.2.2⟩
def bkCopy2_p4 (wx : World) (wb : World) (N : Nat) (bs : List (List Value)) (v : Value) (w : World) : Prop := ∃ (p c1 : Nat), v = .slice (some ⟨p, 0, none⟩) N c1 ∧ OwnK 101 64 wb w (.slice (some ⟨p, 0, none⟩) N c1) bs ∧ wx.heap.size ≤ p
def bkCopy2_p9 (wx : World) (wb : World) (M : Nat) (wss : List (List Value)) (v : Value) (w : World) : Prop := ∃ (Q : Option Addr) (c2 : Nat), v = .slice Q M c2 ∧ OwnK 103 129 wb w (.slice Q M c2) wss ∧ ∀ q, (Value.slice Q M c2).ownBlock = some q → wx.heap.size ≤ q
def bkCopy2_R (wx : World) (wb : World) (g : Nat) (gc : Nat) (b : Nat) (N : Nat) (cN : Nat) (M : Nat) (cM : Nat) (B : Option Addr) (bs : List (List Value)) (wss : List (List Value)) : Nat → Value → World → Prop
  | 0, v, _ => v = .pointer (some ⟨g, 0, none⟩)
  | 1, v, _ => v = .pointer (some ⟨g, 0, none⟩)
  | 2, v, _ => v = .pointer (some ⟨g, 0 + 0, none⟩)
  | 3, v, _ => v = .slice (some ⟨b, 0, none⟩) N cN
  | 4, v, w => bkCopy2_p4 wx wb N bs v w
  | 5, v, _ => v = .pointer (some ⟨g, 0, none⟩)
  | 6, v, _ => v = .pointer (some ⟨g, 0, none⟩)
  | 7, v, _ => v = .pointer (some ⟨g, 0 + 1, none⟩)
  | 8, v, _ => v = .slice B M cM
  | 9, v, w => bkCopy2_p9 wx wb M wss v w
  | 10, v, _ => v = .pointer (some ⟨gc, 0 + 0, none⟩)
  | 11, _, _ => True
  | 12, v, _ => v = .pointer (some ⟨gc, 0 + 1, none⟩)
  | 13, _, _ => True
  | _, _, _ => True
def bkCopy2_X (wx : World) (wb : World) (gc : Nat) (N : Nat) (M : Nat) (s2 : Value) (o' : Int) (l' : Int) (a' : Bool) (d' : Bool) (bs : List (List Value)) (wss : List (List Value)) : Nat → List Value → World → World → Prop
  | 0, _, w1, w => w = w1
  | 1, [_], w1, w => ∃ (p c1 : Nat), OwnK 101 64 wb w (.slice (some ⟨p, 0, none⟩) N c1) bs ∧ wx.heap.size ≤ p ∧ CellsAt w gc #[.slice (some ⟨p, 0, none⟩) N c1, s2, .int .i64 o', .bool a', .int .i64 l', .bool d'] 95 ∧ Chg (fun q => q = gc) w1 w
  | 2, [_, _], w1, w => ∃ (p c1 : Nat) (Q : Option Addr) (c2 : Nat), OwnK 101 64 wb w (.slice (some ⟨p, 0, none⟩) N c1) bs ∧ wx.heap.size ≤ p ∧ OwnK 103 129 wb w (.slice Q M c2) wss ∧ (∀ q, (Value.slice Q M c2).ownBlock = some q → wx.heap.size ≤ q) ∧ CellsAt w gc #[.slice (some ⟨p, 0, none⟩) N c1, .slice Q M c2, .int .i64 o', .bool a', .int .i64 l', .bool d'] 95 ∧ Chg (fun q => q = gc) w1 w
  | _, _, _, _ => False
set_option maxRecDepth 100000 in
set_option maxHeartbeats 1600000 in
theorem bkCopy2 {ops : Array Oper} (hn : ops.size = 14) (hg : goesBack ops = true)
    (o0 : OpIs ops 0 (.move (.tmp 0)) (some 7) [])
    (o1 : OpIs ops 1 (.nilCheck (.tmp 7)) (some 8) [0])
    (o2 : OpIs ops 2 (.fieldAddr 95 (.tmp 8) 0) (some 9) [1])
    (o3 : OpIs ops 3 (.load 92 (.tmp 9)) (some 10) [2])
    (o4 : OpIs ops 4 (.call { callee := .value (.func 71), args := #[.tmp 10], argTypes := #[92] }) (some 11) [3])
    (o5 : OpIs ops 5 (.move (.tmp 0)) (some 12) [])
    (o6 : OpIs ops 6 (.nilCheck (.tmp 12)) (some 13) [5])
    (o7 : OpIs ops 7 (.fieldAddr 95 (.tmp 13) 1) (some 14) [6])
    (o8 : OpIs ops 8 (.load 93 (.tmp 14)) (some 15) [7])
    (o9 : OpIs ops 9 (.call { callee := .value (.func 72), args := #[.tmp 15], argTypes := #[93] }) (some 16) [4, 8])
    (o10 : OpIs ops 10 (.fieldAddr 95 (.tmp 3) 0) (some 17) [0, 1, 2, 3, 4, 8, 9])
    (o11 : OpIs ops 11 (.store 92 (.tmp 17) (.tmp 11)) none [0, 1, 2, 3, 4, 8, 9, 10])
    (o12 : OpIs ops 12 (.fieldAddr 95 (.tmp 3) 1) (some 18) [0, 1, 2, 3, 4, 5, 6, 7, 8, 9, 10, 11])
    (o13 : OpIs ops 13 (.store 93 (.tmp 18) (.tmp 16)) none [0, 1, 2, 3, 4, 5, 6, 7, 8, 9, 10, 11, 12])
    {a1 : Act} (hs : 19 ≤ a1.tmps.size) {wx : World} {wb : World} {g gc b N cN M cM : Nat} {B : Option Addr} {s1 s2 : Value} {o' l' : Int} {a' d' : Bool} {bs wss : List (List Value)} (e0 : a1.eval (.tmp 0) = .pointer (some ⟨g, 0, none⟩)) (e3 : a1.eval (.tmp 3) = .pointer (some ⟨gc, 0, none⟩)) (hc0 : wx.cell? ⟨g, 0 + 0, none⟩ = some (.slice (some ⟨b, 0, none⟩) N cN)) (hc1 : wx.cell? ⟨g, 0 + 1, none⟩ = some (.slice B M cM)) (hWb : Later wb wx) (hrb : RowK 64 wx (some ⟨b, 0, none⟩) N bs) (hbne : bs ≠ []) (hb1 : ∀ cs ∈ bs, ∀ u ∈ cs, u.oneCell' = true) (hN : N ≤ 1000000) (hrw : RowK 129 wx B M wss) (hw1 : ∀ cs ∈ wss, ∀ u ∈ cs, u.oneCell' = true) (hM : M ≤ 1000000) (hbc : CellsAt wx gc #[s1, s2, .int .i64 o', .bool a', .int .i64 l', .bool d'] 95) (hgb : wb.heap.size ≤ gc)
    {Q : Exit → Act → World → Prop} {id : Nat} (hend : ∀ (a : Act) (w1 w : World) (v0 v1 : Value), SameOut a1 a [7, 8, 9, 10, 11, 12, 13, 14, 15, 16, 17, 18] → Later wx w1 → bkCopy2_X wx wb gc N M s2 o' l' a' d' bs wss 2 [v0, v1] w1 w → Q .normal a w) :
    (Code.region id ops true).wp Try.prog Q a1 wx := by
  refine region_turns (n := 14) (by kernel_rfl) hg hn [7, 8, 9, 10, 11, 12, 13, 14, 15, 16, 17, 1011, 18, 1013] (by decide +kernel) rfl [7, 8, 9, 10, 11, 12, 13, 14, 15, 16, 17, 18] (fun i => decide (i = 11) || decide (i = 13)) (fun i => decide (i = 0) || decide (i = 1) || decide (i = 2) || decide (i = 5) || decide (i = 6) || decide (i = 7) || decide (i = 10) || decide (i = 12)) (fun i => !decide (i = 11) && !decide (i = 13)) [11, 13] ?_ ?_ (bkCopy2_R wx wb g gc b N cN M cM B bs wss) (bkCopy2_X wx wb gc N M s2 o' l' a' d' bs wss) ?_ ?_ (by decide) ?_ ?_ ?_ ?_ (fun _ _ _ => Iff.rfl) ?_ ?_ ?_ ?_
  · intro i hi hs'
    have hc : i = 0 ∨ i = 1 ∨ i = 2 ∨ i = 3 ∨ i = 4 ∨ i = 5 ∨ i = 6 ∨ i = 7 ∨ i = 8 ∨ i = 9 ∨ i = 10 ∨ i = 11 ∨ i = 12 ∨ i = 13 := by omega
    rcases hc with rfl | rfl | rfl | rfl | rfl | rfl | rfl | rfl | rfl | rfl | rfl | rfl | rfl | rfl
    · decide
    · decide
    · decide
    · decide
    · decide
    · decide
    · decide
    · decide
    · decide
    · decide
    · decide
    · cases hs'
    · decide
    · cases hs'
  · intro i hi hs'
    have hc : i = 0 ∨ i = 1 ∨ i = 2 ∨ i = 3 ∨ i = 4 ∨ i = 5 ∨ i = 6 ∨ i = 7 ∨ i = 8 ∨ i = 9 ∨ i = 10 ∨ i = 11 ∨ i = 12 ∨ i = 13 := by omega
    rcases hc with rfl | rfl | rfl | rfl | rfl | rfl | rfl | rfl | rfl | rfl | rfl | rfl | rfl | rfl
    · show (7 : Nat) < _; omega
    · show (8 : Nat) < _; omega
    · show (9 : Nat) < _; omega
    · show (10 : Nat) < _; omega
    · show (11 : Nat) < _; omega
    · show (12 : Nat) < _; omega
    · show (13 : Nat) < _; omega
    · show (14 : Nat) < _; omega
    · show (15 : Nat) < _; omega
    · show (16 : Nat) < _; omega
    · show (17 : Nat) < _; omega
    · cases hs'
    · show (18 : Nat) < _; omega
    · cases hs'
  · intro i hi
    simp only [Bool.or_eq_true, decide_eq_true_eq] at hi
    rcases hi with rfl | rfl
    · decide
    · decide
  · intro i hi
    simp only [List.mem_cons, List.not_mem_nil, or_false] at hi
    rcases hi with rfl | rfl
    · decide
    · decide
  · intro i hi hT
    have hc : i = 0 ∨ i = 1 ∨ i = 2 ∨ i = 3 ∨ i = 4 ∨ i = 5 ∨ i = 6 ∨ i = 7 ∨ i = 8 ∨ i = 9 ∨ i = 10 ∨ i = 11 ∨ i = 12 ∨ i = 13 := by omega
    rcases hc with rfl | rfl | rfl | rfl | rfl | rfl | rfl | rfl | rfl | rfl | rfl | rfl | rfl | rfl
    · rfl
    · rfl
    · rfl
    · rfl
    · rfl
    · rfl
    · rfl
    · rfl
    · rfl
    · rfl
    · rfl
    · cases hT
    · rfl
    · cases hT
  · intro l dn i hi h k hk hp hT
    simp only [List.mem_cons, List.not_mem_nil, or_false] at hi
    rcases hi with rfl | rfl
    · have c0 := o11.back dn h 0 (by simp)
      have c1 := o11.back dn h 1 (by simp)
      have c2 := o11.back dn h 2 (by simp)
      have c3 := o11.back dn h 3 (by simp)
      have c4 := o11.back dn h 4 (by simp)
      have c8 := o11.back dn h 8 (by simp)
      have c9 := o11.back dn h 9 (by simp)
      have c10 := o11.back dn h 10 (by simp)
      have c7 := o8.back dn c8 7 (by simp)
      have c6 := o7.back dn c7 6 (by simp)
      have c5 := o6.back dn c6 5 (by simp)
      have hc : k = 0 ∨ k = 1 ∨ k = 2 ∨ k = 3 ∨ k = 4 ∨ k = 5 ∨ k = 6 ∨ k = 7 ∨ k = 8 ∨ k = 9 ∨ k = 10 ∨ k = 11 ∨ k = 12 ∨ k = 13 := by omega
      rcases hc with rfl | rfl | rfl | rfl | rfl | rfl | rfl | rfl | rfl | rfl | rfl | rfl | rfl | rfl
      · cases hp
      · cases hp
      · cases hp
      · exact c3
      · exact c4
      · cases hp
      · cases hp
      · cases hp
      · exact c8
      · exact c9
      · cases hp
      · cases hT
      · cases hp
      · cases hT
    · have c0 := o13.back dn h 0 (by simp)
      have c1 := o13.back dn h 1 (by simp)
      have c2 := o13.back dn h 2 (by simp)
      have c3 := o13.back dn h 3 (by simp)
      have c4 := o13.back dn h 4 (by simp)
      have c5 := o13.back dn h 5 (by simp)
      have c6 := o13.back dn h 6 (by simp)
      have c7 := o13.back dn h 7 (by simp)
      have c8 := o13.back dn h 8 (by simp)
      have c9 := o13.back dn h 9 (by simp)
      have c10 := o13.back dn h 10 (by simp)
      have c11 := o13.back dn h 11 (by simp)
      have c12 := o13.back dn h 12 (by simp)
      have hc : k = 0 ∨ k = 1 ∨ k = 2 ∨ k = 3 ∨ k = 4 ∨ k = 5 ∨ k = 6 ∨ k = 7 ∨ k = 8 ∨ k = 9 ∨ k = 10 ∨ k = 11 ∨ k = 12 ∨ k = 13 := by omega
      rcases hc with rfl | rfl | rfl | rfl | rfl | rfl | rfl | rfl | rfl | rfl | rfl | rfl | rfl | rfl
      · cases hp
      · cases hp
      · cases hp
      · exact c3
      · exact c4
      · cases hp
      · cases hp
      · cases hp
      · exact c8
      · exact c9
      · cases hp
      · cases hT
      · cases hp
      · cases hT
  · intro l dn t i i' h1 h2 h
    match t, h1, h2 with
    | 0, h1, h2 => cases h1; cases h2; have c0 := o13.back dn h 0 (by simp); have c1 := o13.back dn h 1 (by simp); have c2 := o13.back dn h 2 (by simp); have c3 := o13.back dn h 3 (by simp); have c4 := o13.back dn h 4 (by simp); have c5 := o13.back dn h 5 (by simp); have c6 := o13.back dn h 6 (by simp); have c7 := o13.back dn h 7 (by simp); have c8 := o13.back dn h 8 (by simp); have c9 := o13.back dn h 9 (by simp); have c10 := o13.back dn h 10 (by simp); have c11 := o13.back dn h 11 (by simp); have c12 := o13.back dn h 12 (by simp); exact c11
    | t + 1, h1, h2 => simp at h2
  · intro i hi v w
    simp only [Bool.or_eq_true, decide_eq_true_eq] at hi
    rcases hi with rfl | rfl
    · trivial
    · trivial
  · intro l a w i o K ho hi hp hT hwait so hl0 F hK
    have hc : i = 0 ∨ i = 1 ∨ i = 2 ∨ i = 3 ∨ i = 4 ∨ i = 5 ∨ i = 6 ∨ i = 7 ∨ i = 8 ∨ i = 9 ∨ i = 10 ∨ i = 11 ∨ i = 12 ∨ i = 13 := by omega
    rcases hc with rfl | rfl | rfl | rfl | rfl | rfl | rfl | rfl | rfl | rfl | rfl | rfl | rfl | rfl
    · cases hp
    · cases hp
    · cases hp
    · have ws := o3.waits ho hwait
      have f2 : a.eval (.tmp 9) = .pointer (some ⟨g, 0 + 0, none⟩) := by obtain ⟨_, _, _, h⟩ := F 2 (ws 2 (by simp)) (by decide); exact h
      refine o3.loadDC f2 (Later.cell hl0 hc0) ?_
      exact hK _ _ (Later.refl w) rfl
    · have ws := o4.waits ho hwait
      have f3 : a.eval (.tmp 10) = .slice (some ⟨b, 0, none⟩) N cN := by obtain ⟨_, _, _, h⟩ := F 3 (ws 3 (by simp)) (by decide); exact h
      refine o4.call1 (enters_of Try.func71 (by kernel_rfl) rfl) f3 (cloneC_any _ N cN bs w (hrb.later hl0) hb1 hN) ?_
      rintro e w' ⟨v, rfl, ho⟩
      obtain ⟨A1, c1, rfl, -, -⟩ := ho.row
      obtain ⟨p, cur, rfl, hn, -, -, -, -, -⟩ := ho.block_ hbne
      have e : bs.length = N := hrb.len
      rw [e] at ho
      have hp := (ho.lt p rfl).1
      have := hl0.le
      exact ⟨_, rfl, hK _ _ ho.2.2 ⟨p, c1, by rw [e], ho.base (hWb.trans hl0), by omega⟩⟩
    · cases hp
    · cases hp
    · cases hp
    · have ws := o8.waits ho hwait
      have f7 : a.eval (.tmp 14) = .pointer (some ⟨g, 0 + 1, none⟩) := by obtain ⟨_, _, _, h⟩ := F 7 (ws 7 (by simp)) (by decide); exact h
      refine o8.loadDW f7 (Later.cell hl0 hc1) ?_
      exact hK _ _ (Later.refl w) rfl
    · have ws := o9.waits ho hwait
      have f8 : a.eval (.tmp 15) = .slice B M cM := by obtain ⟨_, _, _, h⟩ := F 8 (ws 8 (by simp)) (by decide); exact h
      refine o9.call1 (enters_of Try.func72 (by kernel_rfl) rfl) f8 (cloneW_any _ M cM wss w (hrw.later hl0) hw1 hM) ?_
      rintro e w' ⟨v, rfl, ho⟩
      obtain ⟨A1, c1, rfl, -, -⟩ := ho.row
      have e : wss.length = M := hrw.len
      rw [e] at ho
      have := hl0.le
      exact ⟨_, rfl, hK _ _ ho.2.2 ⟨A1, c1, by rw [e], ho.base (hWb.trans hl0), fun q hq => by have := (ho.lt q hq).1; omega⟩⟩
    · cases hp
    · cases hT
    · cases hp
    · cases hT
  · intro l a w w1 i o K ho hi hp hwait so hl0 F hK
    have hc : i = 0 ∨ i = 1 ∨ i = 2 ∨ i = 3 ∨ i = 4 ∨ i = 5 ∨ i = 6 ∨ i = 7 ∨ i = 8 ∨ i = 9 ∨ i = 10 ∨ i = 11 ∨ i = 12 ∨ i = 13 := by omega
    rcases hc with rfl | rfl | rfl | rfl | rfl | rfl | rfl | rfl | rfl | rfl | rfl | rfl | rfl | rfl
    · refine o0.move ?_
      rw [show a.eval (.tmp 0) = .pointer (some ⟨g, 0, none⟩) from ((show _ = a1.eval _ from by simp only [Act.eval, Array.getD_eq_getD_getElem?, so.out 0 (by decide)]).trans e0)]
      exact hK _ rfl
    · have ws := o1.waits ho hwait
      have f0 : a.eval (.tmp 7) = .pointer (some ⟨g, 0, none⟩) := by obtain ⟨_, _, _, h⟩ := F 0 (ws 0 (by simp)) (by decide); exact h
      refine o1.nilCk f0 ?_
      exact hK _ rfl
    · have ws := o2.waits ho hwait
      have f1 : a.eval (.tmp 8) = .pointer (some ⟨g, 0, none⟩) := by obtain ⟨_, _, _, h⟩ := F 1 (ws 1 (by simp)) (by decide); exact h
      refine o2.fieldDev (by omega) f1 ?_
      exact hK _ rfl
    · cases hp
    · cases hp
    · refine o5.move ?_
      rw [show a.eval (.tmp 0) = .pointer (some ⟨g, 0, none⟩) from ((show _ = a1.eval _ from by simp only [Act.eval, Array.getD_eq_getD_getElem?, so.out 0 (by decide)]).trans e0)]
      exact hK _ rfl
    · have ws := o6.waits ho hwait
      have f5 : a.eval (.tmp 12) = .pointer (some ⟨g, 0, none⟩) := by obtain ⟨_, _, _, h⟩ := F 5 (ws 5 (by simp)) (by decide); exact h
      refine o6.nilCk f5 ?_
      exact hK _ rfl
    · have ws := o7.waits ho hwait
      have f6 : a.eval (.tmp 13) = .pointer (some ⟨g, 0, none⟩) := by obtain ⟨_, _, _, h⟩ := F 6 (ws 6 (by simp)) (by decide); exact h
      refine o7.fieldDev (by omega) f6 ?_
      exact hK _ rfl
    · cases hp
    · cases hp
    · refine o10.fieldDev (by omega) ((show _ = a1.eval _ from by simp only [Act.eval, Array.getD_eq_getD_getElem?, so.out 3 (by decide)]).trans e3) ?_
      exact hK _ rfl
    · cases hp
    · refine o12.fieldDev (by omega) ((show _ = a1.eval _ from by simp only [Act.eval, Array.getD_eq_getD_getElem?, so.out 3 (by decide)]).trans e3) ?_
      exact hK _ rfl
    · cases hp
  · intro l a w1 w tq iq o vals K htq ho hwait so hl0 F hvl hvs hx hK
    match tq, htq with
    | 0, htq =>
      cases htq
      have hv0 := List.eq_nil_of_length_eq_zero hvl
      subst hv0
      have hw : w = w1 := hx
      subst hw
      have ws := o11.waits ho hwait
      obtain ⟨x4, y4, z4, f4⟩ := F 4 (ws 4 (by simp)) (by decide)
      have f10 : a.eval (.tmp 17) = .pointer (some ⟨gc, 0 + 0, none⟩) := by obtain ⟨_, _, _, h⟩ := F 10 (ws 10 (by simp)) (by decide); exact h
      replace hK : ∀ vv ww, bkCopy2_X wx wb gc N M s2 o' l' a' d' bs wss 1 ([] ++ [vv]) w ww → K a ww := hK
      obtain ⟨p, c1, fe, ho, hp⟩ := f4
      have hgl := hbc.lt
      refine o11.storeDC f10 fe (hbc.later hl0) (by show 0 + 0 < 6; omega) (fun w' k1 k2 => hK undef _ ⟨p, c1, (ho.on z4).chg k2 (fun q hq e => by cases hq; have e2 : p = gc := e; omega) (k2.low (ho.on z4).2.2 (fun q hq => by rw [hq]; exact hgb)), hp, k1, k2⟩)
    | 1, htq =>
      cases htq
      obtain ⟨v0, rfl⟩ := List.length_eq_one_iff.1 hvl
      have ws := o13.waits ho hwait
      obtain ⟨x9, y9, z9, f9⟩ := F 9 (ws 9 (by simp)) (by decide)
      have f12 : a.eval (.tmp 18) = .pointer (some ⟨gc, 0 + 1, none⟩) := by obtain ⟨_, _, _, h⟩ := F 12 (ws 12 (by simp)) (by decide); exact h
      replace hK : ∀ vv ww, bkCopy2_X wx wb gc N M s2 o' l' a' d' bs wss 2 ([v0] ++ [vv]) w1 ww → K a ww := hK
      obtain ⟨Q', c2, fe, ho, hq⟩ := f9
      obtain ⟨p, c1, h1, hp, hb, hch⟩ := hx
      have hgl := hbc.lt
      have ho2 := (ho.on z9).chg hch (fun q hq' e => by have := hq q hq'; omega) h1.2.2
      refine o13.storeDW f12 fe hb (by show 0 + 1 < 6; omega) (fun w' k1 k2 => hK undef _ ⟨p, c1, Q', c2, h1.chg k2 (fun q hq' e => by cases hq'; have e2 : p = gc := e; omega) (k2.low h1.2.2 (fun q hq' => by rw [hq']; exact hgb)), hp, ho2.chg k2 (fun q hq' e => by have := hq q hq'; omega) (k2.low h1.2.2 (fun q hq' => by rw [hq']; exact hgb)), hq, k1, hch.trans k2 fun _ e => .inl e⟩)
    | tq + 2, htq => simp at htq
  · intro a w1 w vals so hl F hvl hvs hx
    obtain ⟨v0, v1, rfl⟩ := len_two hvl
    exact hend a w1 w v0 v1 so hl   hx

end Go.Proofs.Ytaonfedjilfgjaa

/-
  A device of its own that is just so: Copy, as a call.
-/
namespace Go.Proofs.Ytaonfedjilfgjaa
open Go.RowKit

section
variable {W w : World} {S : Nat → Prop} {g : Nat} {d : DvP}
set_option maxRecDepth 100000 in
set_option maxHeartbeats 800000 in
theorem copyDev_any (h : DevAt W w S g d) (hro : d.row.length ≤ 900000) :
    Calls Try.prog 39 #[.pointer (some ⟨g, 0, none⟩)] w fun e w' => ∃ gc S', e = .returned (.pointer (some ⟨gc, 0, none⟩)) ∧ DevAt W w' S' gc d ∧ Later w w' ∧ ∀ k, S' k → w.heap.size ≤ k := by
  obtain ⟨b, cc, B, m, c2, hb, h1, hc, h2, hm, hc2, hr2, sb, bg, s2⟩ := h.parts
  have x0 := hb.cell (i := 0) rfl; have x1 := hb.cell (i := 1) rfl; have x2 := hb.cell (i := 2) rfl; have x3 := hb.cell (i := 3) rfl; have x4 := hb.cell (i := 4) rfl; have x5 := hb.cell (i := 5) rfl
  simp only [List.getElem_toArray, List.getElem_cons_zero, List.getElem_cons_succ] at x0 x1 x2 x3 x4 x5
  have hrb : RowK 64 w (some ⟨b, 0, none⟩) d.bl.length (blL d) := by
    obtain ⟨A1, c1, hv, _, hr⟩ := h1.row
    injection hv with e1 e2 e3
    rw [← e1, ← e2] at hr
    exact hr
  have HRB := Lib.hid hrb; have HRW := Lib.hid hr2; have HH := Lib.hid h; have HB := Lib.hid hb; have HM := Lib.hid hm
  have HO1 : Hid (∀ cs ∈ blL d, ∀ u ∈ cs, u.oneCell' = true) := fun cs hcs => by
    obtain ⟨y, _, rfl⟩ := List.mem_map.1 hcs
    exact bc_one y
  have HO2 : Hid (∀ cs ∈ rowL d, ∀ u ∈ cs, u.oneCell' = true) := fun cs hcs => by
    obtain ⟨y, _, rfl⟩ := List.mem_map.1 hcs
    exact wrL_one y
  have hmost := h.ok.most
  have hmm : m ≤ 1000000 := by rw [hm]; omega
  clear h hb h1 h2 s2 hr2 hrb hm
  go_enter Try.func39, Try.ntmps39
  go_wp2_with fail
  have hlx : Later w (w.alloc (.cells #[.slice (some ⟨b, 0, none⟩) d.bl.length cc, .slice B m c2, .int .i64 (d.ops : Nat), .bool d.armed, .int .i64 d.left, .bool d.down] 95)) := (Later.refl w).alloc _
  have hbc := CellsAt.made w #[.slice (some ⟨b, 0, none⟩) d.bl.length cc, .slice B m c2, .int .i64 (d.ops : Nat), .bool d.armed, .int .i64 d.left, .bool d.down] 95
  have HLX := Lib.hid hlx
  refine bkCopy2 rfl (by kernel_rfl) ⟨_, rfl, rfl, rfl, rfl, by kernel_rfl⟩ ⟨_, rfl, rfl, rfl, rfl, by kernel_rfl⟩ ⟨_, rfl, rfl, rfl, rfl, by kernel_rfl⟩ ⟨_, rfl, rfl, rfl, rfl, by kernel_rfl⟩ ⟨_, rfl, rfl, rfl, rfl, by kernel_rfl⟩ ⟨_, rfl, rfl, rfl, rfl, by kernel_rfl⟩ ⟨_, rfl, rfl, rfl, rfl, by kernel_rfl⟩ ⟨_, rfl, rfl, rfl, rfl, by kernel_rfl⟩ ⟨_, rfl, rfl, rfl, rfl, by kernel_rfl⟩ ⟨_, rfl, rfl, rfl, rfl, by kernel_rfl⟩ ⟨_, rfl, rfl, rfl, rfl, by kernel_rfl⟩ ⟨_, rfl, rfl, rfl, rfl, by kernel_rfl⟩ ⟨_, rfl, rfl, rfl, rfl, by kernel_rfl⟩ ⟨_, rfl, rfl, rfl, rfl, by kernel_rfl⟩ (of_decide_eq_true rfl) (wb := W) (g := g) (gc := w.heap.size) (b := b) (N := d.bl.length) (cN := cc) (M := m) (cM := c2) (B := B) (s1 := .slice (some ⟨b, 0, none⟩) d.bl.length cc) (s2 := .slice B m c2) (bs := blL d) (wss := rowL d) rfl rfl ((HB.out.later hlx).cell rfl) ((HB.out.later hlx).cell rfl) (HH.out.base.trans hlx) (HRB.out.later hlx) (bl_ne HH.out.ok) HO1.out (by omega) (HRW.out.later hlx) HO2.out hmm hbc HH.out.base.le (fun a w6 w7 v6 v7 so l6 hx => ?_)
  obtain ⟨p, c1, Q, c3, ho1, hp, ho2, hq, hbx, hch⟩ := hx
  have hsz : w.heap.size ≤ (w.alloc (.cells #[.slice (some ⟨b, 0, none⟩) d.bl.length cc, .slice B m c2, .int .i64 (d.ops : Nat), .bool d.armed, .int .i64 d.left, .bool d.down] 95)).heap.size := hlx.le
  have hlat : Later w w7 := hch.low (HLX.out.trans l6) fun q hq => by rw [hq]; exact Nat.le_refl _
  have hdev : DevAt W w7 (fun q => w.heap.size ≤ q ∧ q < w7.heap.size) w.heap.size d :=
    ⟨⟨_, _, hbx, ho1, ho2, (fun q hq' => by cases hq'; exact ⟨Nat.le_trans hsz hp, (ho1.lt p rfl).2⟩), fun q hq' => ⟨by have := hq q hq'; omega, (ho2.lt q hq').2⟩⟩, HH.out.ok, ⟨Nat.le_refl _, hbx.lt⟩, fun k hk => ⟨Nat.le_trans HH.out.base.le hk.1, hk.2⟩, ho1.2.2⟩
  have HD := Lib.hid hdev; have HLT := Lib.hid hlat
  have ha := so.is
  simp only [List.foldl_cons, List.foldl_nil] at ha
  generalize a.eval (.tmp 7) = y7 at ha
  generalize a.eval (.tmp 8) = y8 at ha
  generalize a.eval (.tmp 9) = y9 at ha
  generalize a.eval (.tmp 10) = y10 at ha
  generalize a.eval (.tmp 11) = y11 at ha
  generalize a.eval (.tmp 12) = y12 at ha
  generalize a.eval (.tmp 13) = y13 at ha
  generalize a.eval (.tmp 14) = y14 at ha
  generalize a.eval (.tmp 15) = y15 at ha
  generalize a.eval (.tmp 16) = y16 at ha
  generalize a.eval (.tmp 17) = y17 at ha
  generalize a.eval (.tmp 18) = y18 at ha
  subst ha
  simp only [Act.put, List.setIfInBounds_toArray, List.set_cons_zero, List.set_cons_succ]
  clear hdev hlat so ho1 ho2 hbx hch hlx hbc l6 hsz hp hq x0 x1 x2 x3 x4 x5
  go_wp2
  go_ret
  exact ⟨_, _, rfl, HD.out, HLT.out, fun k hk => hk.1⟩
end

end Go.Proofs.Ytaonfedjilfgjaa

/-
  Bytes as a string.
-/
namespace Go.Proofs.Ytaonfedjilfgjaa
open Go.RowKit

theorem string_bytes (w : World) (A : Option Addr) (n c : Nat) (bs : Bs) (h : BsAt w A n bs) : (convert 33 9 (.slice A n c)).run Try.prog w = .ok (.string ⟨bs.toArray⟩) w := by
  have hl := h.len
  rcases Nat.eq_zero_or_pos n with h0 | h0
  · subst h0
    obtain rfl : bs = [] := List.eq_nil_of_length_eq_zero hl
    exact run_convert_bytes_zero w _ 5 Try.underlying33 Try.underlying5 A c 9 Try.underlying9
  · obtain ⟨b, o, rfl, hc⟩ := h.2 h0
    subst hl
    refine run_convert_bytes_back w _ 9 5 _ c bs Try.underlying33 Try.underlying5 Try.underlying9 fun j hj => ?_
    rw [plain_add]
    exact hc j _ (List.getElem?_eq_getElem hj)

end Go.Proofs.Ytaonfedjilfgjaa

/-
  Package bytes: Equal, HasPrefix, and Repeat of one byte, as calls.
-/
namespace Go.Proofs.Ytaonfedjilfgjaa
open Go.RowKit

section
variable {w w' : World} {A B : Option Addr} {n m c e : Nat} {xs ys : Bs}
set_option maxRecDepth 100000 in
set_option maxHeartbeats 400000 in
theorem bytesEqual_any (hx : BsAt w A n xs) (hy : BsAt w B m ys) :
    Calls Try.prog 20 #[.slice A n c, .slice B m e] w fun e w' => e = .returned (.bool (decide (xs = ys))) ∧ w' = w := by
  have c1 := string_bytes w A n c xs hx
  have c2 := string_bytes w B m e ys hy
  clear hx hy
  go_enter Try.func20, Try.ntmps20
  go_wp2
  go_ret
  exact ⟨ret_bool (by by_cases h : xs = ys <;> simp [h]), rfl⟩
def hasP (xs ys : Bs) : Bool := decide (ys.length ≤ xs.length) && decide (xs.take ys.length = ys)
set_option maxRecDepth 100000 in
set_option maxHeartbeats 400000 in
theorem mul64_one (w : World) : Calls Try.prog 107 #[.int .u64 1, .int .u64 64] w fun e w' => e = .returned (.tuple #[.int .u64 0, .int .u64 64]) ∧ w' = w := by
  go_enter Try.func107, Try.ntmps107
  go_wp2
  go_ret2
  exact ⟨rfl, rfl⟩
set_option maxRecDepth 100000 in
set_option maxHeartbeats 400000 in
theorem mul_one (w : World) : Calls Try.prog 81 #[.int .u64 1, .int .u64 64] w fun e w' => e = .returned (.tuple #[.int .u64 0, .int .u64 64]) ∧ w' = w := by
  have HM := Lib.hid (mul64_one w)
  go_enter Try.func81, Try.ntmps81
  go_wp2_with fail
  refine HM.out.mono ?_
  rintro e w1 ⟨rfl, rfl⟩
  go_wp2
  go_ret2
  exact ⟨rfl, rfl⟩
end

end Go.Proofs.Ytaonfedjilfgjaa

/-
  bytes.Repeat of one byte, 64 times, as a call.
-/
namespace Go.Proofs.Ytaonfedjilfgjaa
open Go.RowKit

/-- copy, as one step of a region that draws its order. -/
theorem step_copy_mid {P : Program} {ops : Array Oper} {o : Oper} {a : Act} {w : World} {K : Act → World → Prop} {Q : Exit → Act → World → Prop} {E : Prop} (hgd : o.guard = none) (d s : Operand) (dT sT : TypeId)
    (ho : o.op = Op.call { callee := Callee.builtin Builtin.copy, args := #[d, s], argTypes := #[dT, sT] }) (elem : TypeId) (hu : P.underlying dT = some (.slice elem)) (hsz : (P.info? elem).map (·.size) = some 1)
    (b k dLen dCap : Nat) (ad : Addr) (sLen sCap : Nat) (hd : a.eval d = .slice (some ⟨b, k, none⟩) dLen dCap) (hs : a.eval s = .slice (some ad) sLen sCap)
    (cs : List Value) (hn : cs.length = Nat.min sLen dLen) (hsrc : ∀ j v, cs[j]? = some v → w.cell? (ad.add j) = some v) (hth : w.there b k cs.length) (h1 : ∀ v ∈ cs, v.oneCell' = true)
    (h : ∀ w', w' = w.setCells b k cs → K (a.put o.dst (goInt cs.length)) w') : if Region.wanted o (yielded ops a.tmps) = true then Oper.wp P o a w K Q else E := by
  have hw : Region.wanted o (yielded ops a.tmps) = true := by simp [Region.wanted, hgd]
  rw [if_pos hw]
  have hrun := run_copy_cells (P := P) w dT sT o.type elem b k dLen dCap ad sLen sCap cs hu hsz hn hsrc (fun j hj => (hth j hj).1) (fun j hj => (hth j hj).2) h1
  unfold Oper.wp
  simp [execOp, ho, resolve, invoke, builtin, hd, hs, hrun, Result.andThen]
  exact h _ rfl
/-- The first k cells of block g are this byte. -/
def Fills (w : World) (g : Nat) (x : UInt8) (k : Nat) : Prop := ∃ cur, CellsAt w g cur 5 ∧ 64 ≤ cur.size ∧ ∀ i, i < k → cur[i]? = some (.int .u8 (x.toNat : Int))
theorem Fills.more {w w' : World} {g k q : Nat} {x : UInt8} (h : Fills w g x k) (hq : k + q ≤ 64) (hw : w' = w.setCells g k (List.replicate q (.int .u8 (x.toNat : Int)))) : Fills w' g x (k + q) := by
  obtain ⟨cur, hc, hs, hf⟩ := h
  refine ⟨_, by rw [hw]; exact hc.sets _, by rw [setRun_size]; exact hs, fun i hi => ?_⟩
  by_cases h1 : i < k
  · rw [setRun_out _ _ _ _ (.inl h1)]
    exact hf i h1
  · obtain ⟨j, rfl⟩ : ∃ j, i = k + j := ⟨i - k, by omega⟩
    exact setRun_in _ _ k j _ (by rw [List.getElem?_replicate, if_pos (by omega)]) (by rw [List.length_replicate]; omega)
theorem Fills.drew {w : World} {g k : Nat} {x : UInt8} (h : Fills w g x k) : Fills w.drew g x k := h
set_option maxRecDepth 100000 in
set_option maxHeartbeats 800000 in
theorem repeat_any (w : World) (b c : Nat) (x : UInt8) (hx : w.cell? ⟨b, 0, none⟩ = some (.int .u8 (x.toNat : Int))) :
    Calls Try.prog 44 #[.slice (some ⟨b, 0, none⟩) 1 c, .int .i64 64] w fun e w' => e = .returned (.slice (some ⟨w.heap.size, 0, none⟩) 64 64) ∧ BsAt w' (some ⟨w.heap.size, 0, none⟩) 64 (List.replicate 64 x) ∧ Later w w' := by
  have HM := Lib.hid (mul_one w)
  obtain ⟨cs, hrun, hle, -⟩ := Lib.run_makeNoZero (P := Try.prog) w #[3] 33 5 Try.underlying33 64 (by decide)
  have hcall : (callFunc 82 #[.int .i64 64]).run Try.prog w = .ok (.value (.slice (some ⟨w.heap.size, 0, none⟩) 64 cs.size)) (w.drew.drew.alloc (.cells cs 5)) := by
    rw [run_callFunc_extern Try.func82 (by kernel_rfl) (by kernel_rfl) (by kernel_rfl) (e := Extern.BytealgMakeNoZero.makeNoZero #[3] #[33]) (by kernel_rfl)]
    have h2 : (Extern.BytealgMakeNoZero.makeNoZero #[3] #[33] #[.int .i64 64]).run Try.prog w = .ok (.slice (some ⟨w.heap.size, 0, none⟩) 64 cs.size) (w.drew.drew.alloc (.cells cs 5)) := hrun
    rw [h2]
    rfl
  have hl1 : Later w (w.drew.drew.alloc (.cells cs 5)) := ((Later.refl w).drew.drew).alloc _
  have hc1 : CellsAt (w.drew.drew.alloc (.cells cs 5)) w.heap.size cs 5 := CellsAt.made w.drew.drew cs 5
  have hle' : ((64 : Int) ≤ (cs.size : Int)) := by omega
  clear hrun
  go_enter Try.func44, Try.ntmps44
  go_wp2_with fail
  refine HM.out.mono ?_
  rintro e w1 ⟨rfl, rfl⟩
  have HL1 := Lib.hid hl1; have HC1 := Lib.hid hc1
  clear hl1 hc1
  generalize w1.drew.drew.alloc (.cells cs 5) = w2 at *
  have HX2 := Lib.hid (HL1.out.cell hx)
  have HG : Hid (∀ q, q = w1.heap.size → w1.heap.size ≤ q) := fun q hq => by omega
  generalize hg : w1.heap.size = g at *
  have HGG := Lib.hid hg
  clear hg
  go_wp2_with (with_reducible show wpList _ _ _ ({ dst := some 60, op := Op.call _, type := _, pos := _, after := _, guard := _ } :: _) _ _; refine Hid.out ?_)
  refine Lib.hid (wpList_copy_mid rfl _ _ _ _ rfl 5 Try.underlying33 Try.byteSize (some ⟨g, 0, none⟩) (some ⟨b, 0, none⟩) 64 64 1 c rfl rfl g 0 (List.replicate 1 (.int .u8 (x.toNat : Int))) rfl (fun _ => ⟨rfl, _, rfl, fun j v hj => ?_⟩) (HC1.out.there (by simp; omega)) (fun v hv => by rw [List.eq_of_mem_replicate hv]; rfl) ?_)
  · rw [List.getElem?_replicate] at hj
    split at hj
    · cases hj
      obtain rfl : j = 0 := by omega
      exact HX2.out
    · cases hj
  intro w3 hw3
  have hf0 : Fills w2 g x 0 := ⟨cs, HC1.out, hle, fun i hi => absurd hi (Nat.not_lt_zero _)⟩
  have HF := Lib.hid (hf0.more (q := 1) (by decide) hw3)
  have HL3 : Hid (Later w1 w3) := by
    show Later _ _
    rw [hw3]
    exact (sets_chg (g := g) _ w2 0).low HL1.out (fun q hq => by rw [hq, HGG.out]; exact Nat.le_refl _)
  clear hw3 hf0 HL1 HC1 HX2 hcall hx HG HM
  go_wp2_with fail
  go_loopg [10] 65 (fun g0 s10 wr => ∃ k : Nat, 1 ≤ k ∧ k ≤ 64 ∧ 64 - k ≤ g0 ∧ s10 = .int .i64 (k : Nat) ∧ Hid (Fills wr g x k) ∧ Hid (Later w1 wr))
  case atStart => exact ⟨1, by decide, by decide, by decide, rfl, HF, HL3⟩
  case round =>
    obtain ⟨k, hk1, hk, hg, rfl, hf, hlw⟩ := hrel
    clear HF HL3
    by_cases hlt : k < 64
    · obtain ⟨q, hq⟩ : ∃ q, q = Nat.min k (64 - k) := ⟨_, rfl⟩
      have hq' : q = min k (64 - k) := hq
      have hq1 : 1 ≤ q := by omega
      have hq2 : k + q ≤ 64 := by omega
      have hmin : min ((k : Nat) : Int) 64 = (k : Nat) := by omega
      have HQ := Lib.hid hq
      have HSRC : Hid (∀ (j : Nat) (v : Value), (List.replicate q (Value.int .u8 (x.toNat : Int)))[j]? = some v → wr.drew.cell? ((⟨g, 0, none⟩ : Addr).add j) = some v) := fun j v hj => by
        obtain ⟨cur, hc, hs, hf'⟩ := hf.out
        rw [List.getElem?_replicate] at hj
        split at hj
        · cases hj
          rw [plain_add, Nat.zero_add]
          exact (Later.refl wr).drew.cell (hc.cell (hf' j (by omega)))
        · cases hj
      have HTH : Hid (wr.drew.there g k (List.replicate q (Value.int .u8 (x.toNat : Int))).length) := by
        obtain ⟨cur, hc, hs, _⟩ := hf.out
        exact (hc.later (Later.refl wr).drew).there (by rw [List.length_replicate]; omega)
      have HLN : Hid ((List.replicate q (Value.int .u8 (x.toNat : Int))).length = Nat.min k (64 - k)) := by show _ = _; rw [List.length_replicate]; exact hq
      have HON : Hid (∀ v ∈ List.replicate q (Value.int .u8 (x.toNat : Int)), v.oneCell' = true) := fun v hv => by rw [List.eq_of_mem_replicate hv]; rfl
      have hk64 : ((k : Nat) : Int) ≤ 64 := by omega
      have hne : ¬ (64 = k) := by omega
      clear hq hq'
      go_wp2_with fail
      clear hmin
      go_region_law? (refine step_copy_mid rfl _ _ _ _ rfl 5 Try.underlying33 Try.byteSize g k (64 - k) (64 - k) ⟨g, 0, none⟩ k 64 (by go_simp) (by go_simp) (List.replicate q (.int .u8 (x.toNat : Int))) HLN.out HSRC.out HTH.out HON.out ?_; intro w4 hw4; have HW4 := Lib.hid hw4; clear hw4)
      have hf4 := Lib.hid (hf.out.drew.more hq2 HW4.out)
      have hl4 : Hid (Later w1 w4) := by
        show Later _ _
        rw [HW4.out]
        exact (sets_chg (g := g) _ wr.drew k).low (hlw.out.drew) (fun p hp => by rw [hp, HGG.out]; exact Nat.le_refl _)
      have hw : IntKind.i64.wrap ((k : Int) + (q : Int)) = ((k + q : Nat) : Int) := by rw [IntKind.wrap_i64]; omega
      clear HSRC HTH HLN HON HQ HW4
      go_wp2
      go_roundg (64 - (k + q))
      case measure => omega
      case rel => exact ⟨k + q, by omega, hq2, by omega, by go_num, hf4, hl4⟩
    · obtain rfl : k = 64 := by omega
      go_wp2
      go_ret
      obtain ⟨cur, hc, hs, hf'⟩ := hf.out
      rw [HGG.out]
      refine ⟨rfl, ⟨List.length_replicate, fun _ => ⟨g, 0, rfl, fun j y hj => ?_⟩⟩, hlw.out⟩
      rw [List.getElem?_replicate] at hj
      split at hj
      · cases hj
        rw [Nat.zero_add]
        exact hc.cell (hf' j (by omega))
      · cases hj

end Go.Proofs.Ytaonfedjilfgjaa
