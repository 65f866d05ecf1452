/-
  The statement of Copy that draws its order.
-/
import Derived.Test.YtknjkkdoeanhbaaBkOps2
import Derived.Test.YtknjkkdoeanhbaaBkClone
import Derived.Shelf.Abstract
namespace Go.Proofs.Ytknjkkdoeanhbaa
open Go.RowKit

theorem OwnK.base {e : TypeId} {k : Nat} {w0 w1 w : World} {v : Value} {css : List (List Value)} (h : OwnK e k w0 w v css) (hl : Later w1 w0) : OwnK e k w1 w v css :=
  ⟨by
    refine ⟨h.1.1, ?_⟩
    rcases h.1.2 with h1 | ⟨g, cap, cur, h1, h2, h3⟩
    · exact .inl h1
    · exact .inr ⟨g, cap, cur, h1, Nat.le_trans hl.le h2, h3⟩, h.2.1, hl.trans h.2.2⟩
def bkCopy2_p4 (wx : World) (wb : World) (N : Nat) (bs : List (List Value)) (v : Value) (w : World) : Prop := ∃ (p c1 : Nat), v = .slice (some ⟨p, 0, none⟩) N c1 ∧ OwnK 73 64 wb w (.slice (some ⟨p, 0, none⟩) N c1) bs ∧ wx.heap.size ≤ p
def bkCopy2_p9 (wx : World) (wb : World) (M : Nat) (wss : List (List Value)) (v : Value) (w : World) : Prop := ∃ (Q : Option Addr) (c2 : Nat), v = .slice Q M c2 ∧ OwnK 75 129 wb w (.slice Q M c2) wss ∧ ∀ q, (Value.slice Q M c2).ownBlock = some q → wx.heap.size ≤ q
def bkCopy2_R (wx : World) (wb : World) (g : Nat) (gc : Nat) (b : Nat) (N : Nat) (cN : Nat) (M : Nat) (cM : Nat) (B : Option Addr) (bs : List (List Value)) (wss : List (List Value)) : Nat → Value → World → Prop
  | 0, v, _ => v = .pointer (some ⟨g, 0, none⟩)
  | 1, v, _ => v = .pointer (some ⟨g, 0, none⟩)
  | 2, v, _ => v = .pointer (some ⟨g, 0 + 0, none⟩)
  | 3, v, _ => v = .slice (some ⟨b, 0, none⟩) N cN
  | 4, v, w => bkCopy2_p4 wx wb N bs v w
  | 5, v, _ => v = .pointer (some ⟨g, 0, none⟩)
  | 6, v, _ => v = .pointer (some ⟨g, 0, none⟩)
  | 7, v, _ => v = .pointer (some ⟨g, 0 + 1, none⟩)
  | 8, v, _ => v = .slice B M cM
  | 9, v, w => bkCopy2_p9 wx wb M wss v w
  | 10, v, _ => v = .pointer (some ⟨gc, 0 + 0, none⟩)
  | 11, _, _ => True
  | 12, v, _ => v = .pointer (some ⟨gc, 0 + 1, none⟩)
  | 13, _, _ => True
  | _, _, _ => True
def bkCopy2_X (wx : World) (wb : World) (gc : Nat) (N : Nat) (M : Nat) (s2 : Value) (o' : Int) (l' : Int) (a' : Bool) (d' : Bool) (bs : List (List Value)) (wss : List (List Value)) : Nat → List Value → World → World → Prop
  | 0, _, w1, w => w = w1
  | 1, [_], w1, w => ∃ (p c1 : Nat), OwnK 73 64 wb w (.slice (some ⟨p, 0, none⟩) N c1) bs ∧ wx.heap.size ≤ p ∧ CellsAt w gc #[.slice (some ⟨p, 0, none⟩) N c1, s2, .int .i64 o', .bool a', .int .i64 l', .bool d'] 67 ∧ Chg (fun q => q = gc) w1 w
  | 2, [_, _], w1, w => ∃ (p c1 : Nat) (Q : Option Addr) (c2 : Nat), OwnK 73 64 wb w (.slice (some ⟨p, 0, none⟩) N c1) bs ∧ wx.heap.size ≤ p ∧ OwnK 75 129 wb w (.slice Q M c2) wss ∧ (∀ q, (Value.slice Q M c2).ownBlock = some q → wx.heap.size ≤ q) ∧ CellsAt w gc #[.slice (some ⟨p, 0, none⟩) N c1, .slice Q M c2, .int .i64 o', .bool a', .int .i64 l', .bool d'] 67 ∧ Chg (fun q => q = gc) w1 w
  | _, _, _, _ => False
set_option maxRecDepth 100000 in
set_option maxHeartbeats 1600000 in
theorem bkCopy2 {ops : Array Oper} (hn : ops.size = 14) (hg : goesBack ops = true)
    (o0 : OpIs ops 0 (.move (.tmp 0)) (some 7) [])
    (o1 : OpIs ops 1 (.nilCheck (.tmp 7)) (some 8) [0])
    (o2 : OpIs ops 2 (.fieldAddr 67 (.tmp 8) 0) (some 9) [1])
    (o3 : OpIs ops 3 (.load 64 (.tmp 9)) (some 10) [2])
    (o4 : OpIs ops 4 (.call { callee := .value (.func 44), args := #[.tmp 10], argTypes := #[64] }) (some 11) [3])
    (o5 : OpIs ops 5 (.move (.tmp 0)) (some 12) [])
    (o6 : OpIs ops 6 (.nilCheck (.tmp 12)) (some 13) [5])
    (o7 : OpIs ops 7 (.fieldAddr 67 (.tmp 13) 1) (some 14) [6])
    (o8 : OpIs ops 8 (.load 65 (.tmp 14)) (some 15) [7])
    (o9 : OpIs ops 9 (.call { callee := .value (.func 45), args := #[.tmp 15], argTypes := #[65] }) (some 16) [4, 8])
    (o10 : OpIs ops 10 (.fieldAddr 67 (.tmp 3) 0) (some 17) [0, 1, 2, 3, 4, 8, 9])
    (o11 : OpIs ops 11 (.store 64 (.tmp 17) (.tmp 11)) none [0, 1, 2, 3, 4, 8, 9, 10])
    (o12 : OpIs ops 12 (.fieldAddr 67 (.tmp 3) 1) (some 18) [0, 1, 2, 3, 4, 5, 6, 7, 8, 9, 10, 11])
    (o13 : OpIs ops 13 (.store 65 (.tmp 18) (.tmp 16)) none [0, 1, 2, 3, 4, 5, 6, 7, 8, 9, 10, 11, 12])
    {a1 : Act} (hs : 19 ≤ a1.tmps.size) {wx : World} {wb : World} {g gc b N cN M cM : Nat} {B : Option Addr} {s1 s2 : Value} {o' l' : Int} {a' d' : Bool} {bs wss : List (List Value)} (e0 : a1.eval (.tmp 0) = .pointer (some ⟨g, 0, none⟩)) (e3 : a1.eval (.tmp 3) = .pointer (some ⟨gc, 0, none⟩)) (hc0 : wx.cell? ⟨g, 0 + 0, none⟩ = some (.slice (some ⟨b, 0, none⟩) N cN)) (hc1 : wx.cell? ⟨g, 0 + 1, none⟩ = some (.slice B M cM)) (hWb : Later wb wx) (hrb : RowK 64 wx (some ⟨b, 0, none⟩) N bs) (hbne : bs ≠ []) (hb1 : ∀ cs ∈ bs, ∀ u ∈ cs, u.oneCell' = true) (hN : N ≤ 1000000) (hrw : RowK 129 wx B M wss) (hw1 : ∀ cs ∈ wss, ∀ u ∈ cs, u.oneCell' = true) (hM : M ≤ 1000000) (hbc : CellsAt wx gc #[s1, s2, .int .i64 o', .bool a', .int .i64 l', .bool d'] 67) (hgb : wb.heap.size ≤ gc)
    {Q : Exit → Act → World → Prop} {id : Nat} (hend : ∀ (a : Act) (w1 w : World) (v0 v1 : Value), SameOut a1 a [7, 8, 9, 10, 11, 12, 13, 14, 15, 16, 17, 18] → Later wx w1 → bkCopy2_X wx wb gc N M s2 o' l' a' d' bs wss 2 [v0, v1] w1 w → Q .normal a w) :
    (Code.region id ops true).wp Try.prog Q a1 wx := by
  refine region_turns (n := 14) (by kernel_rfl) hg hn [7, 8, 9, 10, 11, 12, 13, 14, 15, 16, 17, 1011, 18, 1013] (by decide +kernel) rfl [7, 8, 9, 10, 11, 12, 13, 14, 15, 16, 17, 18] (fun i => decide (i = 11) || decide (i = 13)) (fun i => decide (i = 0) || decide (i = 1) || decide (i = 2) || decide (i = 5) || decide (i = 6) || decide (i = 7) || decide (i = 10) || decide (i = 12)) (fun i => !decide (i = 11) && !decide (i = 13)) [11, 13] ?_ ?_ (bkCopy2_R wx wb g gc b N cN M cM B bs wss) (bkCopy2_X wx wb gc N M s2 o' l' a' d' bs wss) ?_ ?_ (by decide) ?_ ?_ ?_ ?_ (fun _ _ _ => Iff.rfl) ?_ ?_ ?_ ?_
  · intro i hi hs'
    have hc : i = 0 ∨ i = 1 ∨ i = 2 ∨ i = 3 ∨ i = 4 ∨ i = 5 ∨ i = 6 ∨ i = 7 ∨ i = 8 ∨ i = 9 ∨ i = 10 ∨ i = 11 ∨ i = 12 ∨ i = 13 := by omega
    rcases hc with rfl | rfl | rfl | rfl | rfl | rfl | rfl | rfl | rfl | rfl | rfl | rfl | rfl | rfl
    · decide
    · decide
    · decide
    · decide
    · decide
    · decide
    · decide
    · decide
    · decide
    · decide
    · decide
    · cases hs'
    · decide
    · cases hs'
  · intro i hi hs'
    have hc : i = 0 ∨ i = 1 ∨ i = 2 ∨ i = 3 ∨ i = 4 ∨ i = 5 ∨ i = 6 ∨ i = 7 ∨ i = 8 ∨ i = 9 ∨ i = 10 ∨ i = 11 ∨ i = 12 ∨ i = 13 := by omega
    rcases hc with rfl | rfl | rfl | rfl | rfl | rfl | rfl | rfl | rfl | rfl | rfl | rfl | rfl | rfl
    · show (7 : Nat) < _; omega
    · show (8 : Nat) < _; omega
    · show (9 : Nat) < _; omega
    · show (10 : Nat) < _; omega
    · show (11 : Nat) < _; omega
    · show (12 : Nat) < _; omega
    · show (13 : Nat) < _; omega
    · show (14 : Nat) < _; omega
    · show (15 : Nat) < _; omega
    · show (16 : Nat) < _; omega
    · show (17 : Nat) < _; omega
    · cases hs'
    · show (18 : Nat) < _; omega
    · cases hs'
  · intro i hi
    simp only [Bool.or_eq_true, decide_eq_true_eq] at hi
    rcases hi with rfl | rfl
    · decide
    · decide
  · intro i hi
    simp only [List.mem_cons, List.not_mem_nil, or_false] at hi
    rcases hi with rfl | rfl
    · decide
    · decide
  · intro i hi hT
    have hc : i = 0 ∨ i = 1 ∨ i = 2 ∨ i = 3 ∨ i = 4 ∨ i = 5 ∨ i = 6 ∨ i = 7 ∨ i = 8 ∨ i = 9 ∨ i = 10 ∨ i = 11 ∨ i = 12 ∨ i = 13 := by omega
    rcases hc with rfl | rfl | rfl | rfl | rfl | rfl | rfl | rfl | rfl | rfl | rfl | rfl | rfl | rfl
    · rfl
    · rfl
    · rfl
    · rfl
    · rfl
    · rfl
    · rfl
    · rfl
    · rfl
    · rfl
    · rfl
    · cases hT
    · rfl
    · cases hT
  · intro l dn i hi h k hk hp hT
    simp only [List.mem_cons, List.not_mem_nil, or_false] at hi
    rcases hi with rfl | rfl
    · have c0 := o11.back dn h 0 (by simp)
      have c1 := o11.back dn h 1 (by simp)
      have c2 := o11.back dn h 2 (by simp)
      have c3 := o11.back dn h 3 (by simp)
      have c4 := o11.back dn h 4 (by simp)
      have c8 := o11.back dn h 8 (by simp)
      have c9 := o11.back dn h 9 (by simp)
      have c10 := o11.back dn h 10 (by simp)
      have c7 := o8.back dn c8 7 (by simp)
      have c6 := o7.back dn c7 6 (by simp)
      have c5 := o6.back dn c6 5 (by simp)
      have hc : k = 0 ∨ k = 1 ∨ k = 2 ∨ k = 3 ∨ k = 4 ∨ k = 5 ∨ k = 6 ∨ k = 7 ∨ k = 8 ∨ k = 9 ∨ k = 10 ∨ k = 11 ∨ k = 12 ∨ k = 13 := by omega
      rcases hc with rfl | rfl | rfl | rfl | rfl | rfl | rfl | rfl | rfl | rfl | rfl | rfl | rfl | rfl
      · cases hp
      · cases hp
      · cases hp
      · exact c3
      · exact c4
      · cases hp
      · cases hp
      · cases hp
      · exact c8
      · exact c9
      · cases hp
      · cases hT
      · cases hp
      · cases hT
    · have c0 := o13.back dn h 0 (by simp)
      have c1 := o13.back dn h 1 (by simp)
      have c2 := o13.back dn h 2 (by simp)
      have c3 := o13.back dn h 3 (by simp)
      have c4 := o13.back dn h 4 (by simp)
      have c5 := o13.back dn h 5 (by simp)
      have c6 := o13.back dn h 6 (by simp)
      have c7 := o13.back dn h 7 (by simp)
      have c8 := o13.back dn h 8 (by simp)
      have c9 := o13.back dn h 9 (by simp)
      have c10 := o13.back dn h 10 (by simp)
      have c11 := o13.back dn h 11 (by simp)
      have c12 := o13.back dn h 12 (by simp)
      have hc : k = 0 ∨ k = 1 ∨ k = 2 ∨ k = 3 ∨ k = 4 ∨ k = 5 ∨ k = 6 ∨ k = 7 ∨ k = 8 ∨ k = 9 ∨ k = 10 ∨ k = 11 ∨ k = 12 ∨ k = 13 := by omega
      rcases hc with rfl | rfl | rfl | rfl | rfl | rfl | rfl | rfl | rfl | rfl | rfl | rfl | rfl | rfl
      · cases hp
      · cases hp
      · cases hp
      · exact c3
      · exact c4
      · cases hp
      · cases hp
      · cases hp
      · exact c8
      · exact c9
      · cases hp
      · cases hT
      · cases hp
      · cases hT
  · intro l dn t i i' h1 h2 h
    match t, h1, h2 with
    | 0, h1, h2 => cases h1; cases h2; have c0 := o13.back dn h 0 (by simp); have c1 := o13.back dn h 1 (by simp); have c2 := o13.back dn h 2 (by simp); have c3 := o13.back dn h 3 (by simp); have c4 := o13.back dn h 4 (by simp); have c5 := o13.back dn h 5 (by simp); have c6 := o13.back dn h 6 (by simp); have c7 := o13.back dn h 7 (by simp); have c8 := o13.back dn h 8 (by simp); have c9 := o13.back dn h 9 (by simp); have c10 := o13.back dn h 10 (by simp); have c11 := o13.back dn h 11 (by simp); have c12 := o13.back dn h 12 (by simp); exact c11
    | t + 1, h1, h2 => simp at h2
  · intro i hi v w
    simp only [Bool.or_eq_true, decide_eq_true_eq] at hi
    rcases hi with rfl | rfl
    · trivial
    · trivial
  · intro l a w i o K ho hi hp hT hwait so hl0 F hK
    have hc : i = 0 ∨ i = 1 ∨ i = 2 ∨ i = 3 ∨ i = 4 ∨ i = 5 ∨ i = 6 ∨ i = 7 ∨ i = 8 ∨ i = 9 ∨ i = 10 ∨ i = 11 ∨ i = 12 ∨ i = 13 := by omega
    rcases hc with rfl | rfl | rfl | rfl | rfl | rfl | rfl | rfl | rfl | rfl | rfl | rfl | rfl | rfl
    · cases hp
    · cases hp
    · cases hp
    · have ws := o3.waits ho hwait
      have f2 : a.eval (.tmp 9) = .pointer (some ⟨g, 0 + 0, none⟩) := by obtain ⟨_, _, _, h⟩ := F 2 (ws 2 (by simp)) (by decide); exact h
      refine o3.loadDC f2 (Later.cell hl0 hc0) ?_
      exact hK _ _ (Later.refl w) rfl
    · have ws := o4.waits ho hwait
      have f3 : a.eval (.tmp 10) = .slice (some ⟨b, 0, none⟩) N cN := by obtain ⟨_, _, _, h⟩ := F 3 (ws 3 (by simp)) (by decide); exact h
      refine o4.call1 (enters_of Try.func44 (by kernel_rfl) rfl) f3 (cloneC_any _ N cN bs w (hrb.later hl0) hb1 hN) ?_
      rintro e w' ⟨v, rfl, ho⟩
      obtain ⟨A1, c1, rfl, -, -⟩ := ho.row
      obtain ⟨p, cur, rfl, hn, -, -, -, -, -⟩ := ho.block_ hbne
      have e : bs.length = N := hrb.len
      rw [e] at ho
      have hp := (ho.lt p rfl).1
      have := hl0.le
      exact ⟨_, rfl, hK _ _ ho.2.2 ⟨p, c1, by rw [e], ho.base (hWb.trans hl0), by omega⟩⟩
    · cases hp
    · cases hp
    · cases hp
    · have ws := o8.waits ho hwait
      have f7 : a.eval (.tmp 14) = .pointer (some ⟨g, 0 + 1, none⟩) := by obtain ⟨_, _, _, h⟩ := F 7 (ws 7 (by simp)) (by decide); exact h
      refine o8.loadDW f7 (Later.cell hl0 hc1) ?_
      exact hK _ _ (Later.refl w) rfl
    · have ws := o9.waits ho hwait
      have f8 : a.eval (.tmp 15) = .slice B M cM := by obtain ⟨_, _, _, h⟩ := F 8 (ws 8 (by simp)) (by decide); exact h
      refine o9.call1 (enters_of Try.func45 (by kernel_rfl) rfl) f8 (cloneW_any _ M cM wss w (hrw.later hl0) hw1 hM) ?_
      rintro e w' ⟨v, rfl, ho⟩
      obtain ⟨A1, c1, rfl, -, -⟩ := ho.row
      have e : wss.length = M := hrw.len
      rw [e] at ho
      have := hl0.le
      exact ⟨_, rfl, hK _ _ ho.2.2 ⟨A1, c1, by rw [e], ho.base (hWb.trans hl0), fun q hq => by have := (ho.lt q hq).1; omega⟩⟩
    · cases hp
    · cases hT
    · cases hp
    · cases hT
  · intro l a w w1 i o K ho hi hp hwait so hl0 F hK
    have hc : i = 0 ∨ i = 1 ∨ i = 2 ∨ i = 3 ∨ i = 4 ∨ i = 5 ∨ i = 6 ∨ i = 7 ∨ i = 8 ∨ i = 9 ∨ i = 10 ∨ i = 11 ∨ i = 12 ∨ i = 13 := by omega
    rcases hc with rfl | rfl | rfl | rfl | rfl | rfl | rfl | rfl | rfl | rfl | rfl | rfl | rfl | rfl
    · refine o0.move ?_
      rw [show a.eval (.tmp 0) = .pointer (some ⟨g, 0, none⟩) from ((show _ = a1.eval _ from by simp only [Act.eval, Array.getD_eq_getD_getElem?, so.out 0 (by decide)]).trans e0)]
      exact hK _ rfl
    · have ws := o1.waits ho hwait
      have f0 : a.eval (.tmp 7) = .pointer (some ⟨g, 0, none⟩) := by obtain ⟨_, _, _, h⟩ := F 0 (ws 0 (by simp)) (by decide); exact h
      refine o1.nilCk f0 ?_
      exact hK _ rfl
    · have ws := o2.waits ho hwait
      have f1 : a.eval (.tmp 8) = .pointer (some ⟨g, 0, none⟩) := by obtain ⟨_, _, _, h⟩ := F 1 (ws 1 (by simp)) (by decide); exact h
      refine o2.fieldDev (by omega) f1 ?_
      exact hK _ rfl
    · cases hp
    · cases hp
    · refine o5.move ?_
      rw [show a.eval (.tmp 0) = .pointer (some ⟨g, 0, none⟩) from ((show _ = a1.eval _ from by simp only [Act.eval, Array.getD_eq_getD_getElem?, so.out 0 (by decide)]).trans e0)]
      exact hK _ rfl
    · have ws := o6.waits ho hwait
      have f5 : a.eval (.tmp 12) = .pointer (some ⟨g, 0, none⟩) := by obtain ⟨_, _, _, h⟩ := F 5 (ws 5 (by simp)) (by decide); exact h
      refine o6.nilCk f5 ?_
      exact hK _ rfl
    · have ws := o7.waits ho hwait
      have f6 : a.eval (.tmp 13) = .pointer (some ⟨g, 0, none⟩) := by obtain ⟨_, _, _, h⟩ := F 6 (ws 6 (by simp)) (by decide); exact h
      refine o7.fieldDev (by omega) f6 ?_
      exact hK _ rfl
    · cases hp
    · cases hp
    · refine o10.fieldDev (by omega) ((show _ = a1.eval _ from by simp only [Act.eval, Array.getD_eq_getD_getElem?, so.out 3 (by decide)]).trans e3) ?_
      exact hK _ rfl
    · cases hp
    · refine o12.fieldDev (by omega) ((show _ = a1.eval _ from by simp only [Act.eval, Array.getD_eq_getD_getElem?, so.out 3 (by decide)]).trans e3) ?_
      exact hK _ rfl
    · cases hp
  · intro l a w1 w tq iq o vals K htq ho hwait so hl0 F hvl hvs hx hK
    match tq, htq with
    | 0, htq =>
      cases htq
      have hv0 := List.eq_nil_of_length_eq_zero hvl
      subst hv0
      have hw : w = w1 := hx
      subst hw
      have ws := o11.waits ho hwait
      obtain ⟨x4, y4, z4, f4⟩ := F 4 (ws 4 (by simp)) (by decide)
      have f10 : a.eval (.tmp 17) = .pointer (some ⟨gc, 0 + 0, none⟩) := by obtain ⟨_, _, _, h⟩ := F 10 (ws 10 (by simp)) (by decide); exact h
      replace hK : ∀ vv ww, bkCopy2_X wx wb gc N M s2 o' l' a' d' bs wss 1 ([] ++ [vv]) w ww → K a ww := hK
      obtain ⟨p, c1, fe, ho, hp⟩ := f4
      have hgl := hbc.lt
      refine o11.storeDC f10 fe (hbc.later hl0) (by show 0 + 0 < 6; omega) (fun w' k1 k2 => hK undef _ ⟨p, c1, (ho.on z4).chg k2 (fun q hq e => by cases hq; have e2 : p = gc := e; omega) (k2.low (ho.on z4).2.2 (fun q hq => by rw [hq]; exact hgb)), hp, k1, k2⟩)
    | 1, htq =>
      cases htq
      obtain ⟨v0, rfl⟩ := List.length_eq_one_iff.1 hvl
      have ws := o13.waits ho hwait
      obtain ⟨x9, y9, z9, f9⟩ := F 9 (ws 9 (by simp)) (by decide)
      have f12 : a.eval (.tmp 18) = .pointer (some ⟨gc, 0 + 1, none⟩) := by obtain ⟨_, _, _, h⟩ := F 12 (ws 12 (by simp)) (by decide); exact h
      replace hK : ∀ vv ww, bkCopy2_X wx wb gc N M s2 o' l' a' d' bs wss 2 ([v0] ++ [vv]) w1 ww → K a ww := hK
      obtain ⟨Q', c2, fe, ho, hq⟩ := f9
      obtain ⟨p, c1, h1, hp, hb, hch⟩ := hx
      have hgl := hbc.lt
      have ho2 := (ho.on z9).chg hch (fun q hq' e => by have := hq q hq'; omega) h1.2.2
      refine o13.storeDW f12 fe hb (by show 0 + 1 < 6; omega) (fun w' k1 k2 => hK undef _ ⟨p, c1, Q', c2, h1.chg k2 (fun q hq' e => by cases hq'; have e2 : p = gc := e; omega) (k2.low h1.2.2 (fun q hq' => by rw [hq']; exact hgb)), hp, ho2.chg k2 (fun q hq' e => by have := hq q hq'; omega) (k2.low h1.2.2 (fun q hq' => by rw [hq']; exact hgb)), hq, k1, hch.trans k2 fun _ e => .inl e⟩)
    | tq + 2, htq => simp at htq
  · intro a w1 w vals so hl F hvl hvs hx
    obtain ⟨v0, v1, rfl⟩ := len_two hvl
    exact hend a w1 w v0 v1 so hl   hx

end Go.Proofs.Ytknjkkdoeanhbaa
