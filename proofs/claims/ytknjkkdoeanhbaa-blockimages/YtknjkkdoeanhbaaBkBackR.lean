/-
  The statement of back that draws its order, in a round.
-/
import Derived.Test.YtknjkkdoeanhbaaBkOps2
import Derived.Test.YtknjkkdoeanhbaaRgCoreIn
namespace Go.Proofs.Ytknjkkdoeanhbaa
open Go.RowKit

def bkBack3_R (g : Nat) (gx : Nat) (b : Nat) (N : Nat) (c : Nat) (x : WrP) : Nat → Value → World → Prop
  | 0, v, _ => v = .pointer (some ⟨g, 0, none⟩)
  | 1, v, _ => v = .pointer (some ⟨g, 0, none⟩)
  | 2, v, _ => v = .pointer (some ⟨g, 0 + 0, none⟩)
  | 3, v, _ => v = .slice (some ⟨b, 0, none⟩) N c
  | 4, v, _ => v = .pointer (some ⟨gx, 0, none⟩)
  | 5, v, _ => v = .int .i64 (x.pl : Nat)
  | 6, v, _ => v = .pointer (some ⟨gx, 1, none⟩)
  | 7, v, _ => v = .agg (Lib.byteCells x.was).toArray
  | 8, v, _ => v = .pointer (some ⟨b, x.pl * 64, none⟩)
  | 9, _, _ => True
  | _, _, _ => True
def bkBack3_X (b : Nat) (x : WrP) : Nat → List Value → World → World → Prop
  | 0, _, w1, w => w = w1
  | 1, [_], w1, w => w = w1.setCells b (x.pl * 64) (Lib.byteCells x.was)
  | _, _, _, _ => False
set_option maxRecDepth 100000 in
set_option maxHeartbeats 1600000 in
theorem bkBack3 {ops : Array Oper} (hn : ops.size = 10) (hg : goesBack ops = true) (hdf : noDefer ops = true)
    (o0 : OpIs ops 0 (.load 25 (.tmp 1)) (some 11) [])
    (o1 : OpIs ops 1 (.nilCheck (.tmp 11)) (some 12) [0])
    (o2 : OpIs ops 2 (.fieldAddr 67 (.tmp 12) 0) (some 13) [1])
    (o3 : OpIs ops 3 (.load 64 (.tmp 13)) (some 14) [2])
    (o4 : OpIs ops 4 (.fieldAddr 75 (.tmp 3) 0) (some 15) [])
    (o5 : OpIs ops 5 (.load 3 (.tmp 15)) (some 16) [4])
    (o6 : OpIs ops 6 (.fieldAddr 75 (.tmp 3) 1) (some 17) [])
    (o7 : OpIs ops 7 (.load 73 (.tmp 17)) (some 18) [6])
    (o8 : OpIs ops 8 (.indexAddr 64 (.tmp 14) (.tmp 16)) (some 19) [0, 1, 2, 3, 4, 5, 6, 7])
    (o9 : OpIs ops 9 (.store 73 (.tmp 19) (.tmp 18)) none [0, 1, 2, 3, 4, 5, 6, 7, 8])
    {a1 : Act} (hs : 20 ≤ a1.tmps.size) {wx : World} {g gb gx b N c : Nat} {x : WrP} (e1 : a1.eval (.tmp 1) = .pointer (some ⟨gb, 0, none⟩)) (e3 : a1.eval (.tmp 3) = .pointer (some ⟨gx, 0, none⟩)) (hcb : wx.cell? ⟨gb, 0, none⟩ = some (.pointer (some ⟨g, 0, none⟩))) (hc0 : wx.cell? ⟨g, 0 + 0, none⟩ = some (.slice (some ⟨b, 0, none⟩) N c)) (hbw : CellsAt wx gx (wrL x).toArray 75) (hwl : x.was.length = 64) (hpl : x.pl < N) (hth : ∀ v, Later wx v → v.there b (x.pl * 64) (Lib.byteCells x.was).length)
    {Q : Exit → Act → World → Prop} (hq : ¬ LetsOut Q) {id lp mp : Nat} (hend : ∀ (a : Act) (w1 w : World) (v0 : Value), SameOut a1 a [11, 12, 13, 14, 15, 16, 17, 18, 19] → Later wx w1 → bkBack3_X b x 1 [v0] w1 w → Q .normal a w) :
    (Code.region id ops true).wpIn (Fence.wide.inRound lp) mp Try.prog Q a1 wx := by
  refine region_turnsIn (n := 10) (by kernel_rfl) hg hdf hq hn [11, 12, 13, 14, 15, 16, 17, 18, 19, 1009] (by decide +kernel) rfl [11, 12, 13, 14, 15, 16, 17, 18, 19] (fun i => decide (i = 9)) (fun i => decide (i = 1) || decide (i = 2) || decide (i = 4) || decide (i = 6) || decide (i = 8)) (fun i => !decide (i = 9)) [9] ?_ ?_ (bkBack3_R g gx b N c x) (bkBack3_X b x) ?_ ?_ (by decide) ?_ ?_ ?_ ?_ (fun _ _ _ => Iff.rfl) ?_ ?_ ?_ ?_
  · intro i hi hs'
    have hc : i = 0 ∨ i = 1 ∨ i = 2 ∨ i = 3 ∨ i = 4 ∨ i = 5 ∨ i = 6 ∨ i = 7 ∨ i = 8 ∨ i = 9 := by omega
    rcases hc with rfl | rfl | rfl | rfl | rfl | rfl | rfl | rfl | rfl | rfl
    · decide
    · decide
    · decide
    · decide
    · decide
    · decide
    · decide
    · decide
    · decide
    · cases hs'
  · intro i hi hs'
    have hc : i = 0 ∨ i = 1 ∨ i = 2 ∨ i = 3 ∨ i = 4 ∨ i = 5 ∨ i = 6 ∨ i = 7 ∨ i = 8 ∨ i = 9 := by omega
    rcases hc with rfl | rfl | rfl | rfl | rfl | rfl | rfl | rfl | rfl | rfl
    · show (11 : Nat) < _; omega
    · show (12 : Nat) < _; omega
    · show (13 : Nat) < _; omega
    · show (14 : Nat) < _; omega
    · show (15 : Nat) < _; omega
    · show (16 : Nat) < _; omega
    · show (17 : Nat) < _; omega
    · show (18 : Nat) < _; omega
    · show (19 : Nat) < _; omega
    · cases hs'
  · intro i hi
    simp only [decide_eq_true_eq] at hi
    subst hi
    · decide
  · intro i hi
    simp only [List.mem_cons, List.not_mem_nil, or_false] at hi
    subst hi
    · decide
  · intro i hi hT
    have hc : i = 0 ∨ i = 1 ∨ i = 2 ∨ i = 3 ∨ i = 4 ∨ i = 5 ∨ i = 6 ∨ i = 7 ∨ i = 8 ∨ i = 9 := by omega
    rcases hc with rfl | rfl | rfl | rfl | rfl | rfl | rfl | rfl | rfl | rfl
    · rfl
    · rfl
    · rfl
    · rfl
    · rfl
    · rfl
    · rfl
    · rfl
    · rfl
    · cases hT
  · intro l dn i hi h k hk hp hT
    simp only [List.mem_cons, List.not_mem_nil, or_false] at hi
    subst hi
    · have c0 := o9.back dn h 0 (by simp)
      have c1 := o9.back dn h 1 (by simp)
      have c2 := o9.back dn h 2 (by simp)
      have c3 := o9.back dn h 3 (by simp)
      have c4 := o9.back dn h 4 (by simp)
      have c5 := o9.back dn h 5 (by simp)
      have c6 := o9.back dn h 6 (by simp)
      have c7 := o9.back dn h 7 (by simp)
      have c8 := o9.back dn h 8 (by simp)
      have hc : k = 0 ∨ k = 1 ∨ k = 2 ∨ k = 3 ∨ k = 4 ∨ k = 5 ∨ k = 6 ∨ k = 7 ∨ k = 8 ∨ k = 9 := by omega
      rcases hc with rfl | rfl | rfl | rfl | rfl | rfl | rfl | rfl | rfl | rfl
      · exact c0
      · cases hp
      · cases hp
      · exact c3
      · cases hp
      · exact c5
      · cases hp
      · exact c7
      · cases hp
      · cases hT
  · intro l dn t i i' h1 h2 h
    simp at h2
  · intro i hi v w
    simp only [decide_eq_true_eq] at hi
    subst hi
    · trivial
  · intro l a w i o K ho hi hp hT hwait so hl0 F hK
    have hc : i = 0 ∨ i = 1 ∨ i = 2 ∨ i = 3 ∨ i = 4 ∨ i = 5 ∨ i = 6 ∨ i = 7 ∨ i = 8 ∨ i = 9 := by omega
    rcases hc with rfl | rfl | rfl | rfl | rfl | rfl | rfl | rfl | rfl | rfl
    · refine o0.loadDP ((show _ = a1.eval _ from by simp only [Act.eval, Array.getD_eq_getD_getElem?, so.out 1 (by decide)]).trans e1) (Later.cell hl0 hcb) ?_
      exact hK _ _ (Later.refl w) rfl
    · cases hp
    · cases hp
    · have ws := o3.waits ho hwait
      have f2 : a.eval (.tmp 13) = .pointer (some ⟨g, 0 + 0, none⟩) := by obtain ⟨_, _, _, h⟩ := F 2 (ws 2 (by simp)) (by decide); exact h
      refine o3.loadDC f2 (Later.cell hl0 hc0) ?_
      exact hK _ _ (Later.refl w) rfl
    · cases hp
    · have ws := o5.waits ho hwait
      have f4 : a.eval (.tmp 15) = .pointer (some ⟨gx, 0, none⟩) := by obtain ⟨_, _, _, h⟩ := F 4 (ws 4 (by simp)) (by decide); exact h
      refine o5.loadDI f4 ((hbw.later hl0).cell (by rw [arr_get]; rfl)) ?_
      exact hK _ _ (Later.refl w) rfl
    · cases hp
    · have ws := o7.waits ho hwait
      have f6 : a.eval (.tmp 17) = .pointer (some ⟨gx, 1, none⟩) := by obtain ⟨_, _, _, h⟩ := F 6 (ws 6 (by simp)) (by decide); exact h
      refine o7.loadMid f6 (CellsAt.range (o := 1) (hbw.later hl0) (fun j u hj => by rw [arr_get, wrL_was hwl (by have := (List.getElem?_eq_some_iff.1 hj).1; rw [bc_len, hwl] at this; exact this)]; exact hj)) Try.underlying73 rfl (by rw [bc_len, hwl]; exact Try.cellSize) ?_
      exact hK _ _ (Later.refl w) rfl
    · cases hp
    · cases hT
  · intro l a w w1 i o K ho hi hp hwait so hl0 F hK
    have hc : i = 0 ∨ i = 1 ∨ i = 2 ∨ i = 3 ∨ i = 4 ∨ i = 5 ∨ i = 6 ∨ i = 7 ∨ i = 8 ∨ i = 9 := by omega
    rcases hc with rfl | rfl | rfl | rfl | rfl | rfl | rfl | rfl | rfl | rfl
    · cases hp
    · have ws := o1.waits ho hwait
      have f0 : a.eval (.tmp 11) = .pointer (some ⟨g, 0, none⟩) := by obtain ⟨_, _, _, h⟩ := F 0 (ws 0 (by simp)) (by decide); exact h
      refine o1.nilCk f0 ?_
      exact hK _ rfl
    · have ws := o2.waits ho hwait
      have f1 : a.eval (.tmp 12) = .pointer (some ⟨g, 0, none⟩) := by obtain ⟨_, _, _, h⟩ := F 1 (ws 1 (by simp)) (by decide); exact h
      refine o2.fieldDev (by omega) f1 ?_
      exact hK _ rfl
    · cases hp
    · refine o4.fieldW0 ((show _ = a1.eval _ from by simp only [Act.eval, Array.getD_eq_getD_getElem?, so.out 3 (by decide)]).trans e3) ?_
      exact hK _ rfl
    · cases hp
    · refine o6.fieldW1 ((show _ = a1.eval _ from by simp only [Act.eval, Array.getD_eq_getD_getElem?, so.out 3 (by decide)]).trans e3) ?_
      exact hK _ rfl
    · cases hp
    · have ws := o8.waits ho hwait
      have f3 : a.eval (.tmp 14) = .slice (some ⟨b, 0, none⟩) N c := by obtain ⟨_, _, _, h⟩ := F 3 (ws 3 (by simp)) (by decide); exact h
      have f5 : a.eval (.tmp 16) = .int .i64 (x.pl : Nat) := by obtain ⟨_, _, _, h⟩ := F 5 (ws 5 (by simp)) (by decide); exact h
      refine o8.indexDC f3 f5 hpl ?_
      exact hK _ rfl
    · cases hp
  · intro l a w1 w tq iq o vals K htq ho hwait so hl0 F hvl hvs hx hK
    match tq, htq with
    | 0, htq =>
      cases htq
      have hv0 := List.eq_nil_of_length_eq_zero hvl
      subst hv0
      have hw : w = w1 := hx
      subst hw
      have ws := o9.waits ho hwait
      have f7 : a.eval (.tmp 18) = .agg (Lib.byteCells x.was).toArray := by obtain ⟨_, _, _, h⟩ := F 7 (ws 7 (by simp)) (by decide); exact h
      have f8 : a.eval (.tmp 19) = .pointer (some ⟨b, x.pl * 64, none⟩) := by obtain ⟨_, _, _, h⟩ := F 8 (ws 8 (by simp)) (by decide); exact h
      replace hK : ∀ vv ww, bkBack3_X b x 1 ([] ++ [vv]) w ww → K a ww := hK
      refine o9.storeMid f8 f7 (hth w hl0) (by rw [bc_len, hwl]; exact Try.cellSize) (bc_one _) (fun w' hw => hK undef _ hw)
    | tq + 1, htq => simp at htq
  · intro a w1 w vals so hl F hvl hvs hx
    obtain ⟨v0, rfl⟩ := List.length_eq_one_iff.1 hvl
    exact hend a w1 w v0 so hl   hx

end Go.Proofs.Ytknjkkdoeanhbaa
