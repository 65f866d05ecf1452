/-
  The statement of Write that draws its order and appends.
-/
import Derived.Test.YtknjkkdoeanhbaaBkOps
namespace Go.Proofs.Ytknjkkdoeanhbaa
open Go.RowKit

def bkWr8_p6 (x : WrP) (v : Value) (w : World) : Prop := ∃ b : Nat, v = .slice (some ⟨b, 0, none⟩) 1 1 ∧ CellsAt w b (wrL x).toArray 75
def bkWr8_R (g : Nat) (vs : Value) (x : WrP) : Nat → Value → World → Prop
  | 0, v, _ => v = .pointer (some ⟨g, 0, none⟩)
  | 1, v, _ => v = .pointer (some ⟨g, 0, none⟩)
  | 2, v, _ => v = .pointer (some ⟨g, 0, none⟩)
  | 3, v, _ => v = .pointer (some ⟨g, 0 + 1, none⟩)
  | 4, v, _ => v = vs
  | 5, v, _ => v = .agg (wrL x).toArray
  | 6, v, w => bkWr8_p6 x v w
  | 7, _, _ => True
  | 8, v, _ => v = .pointer (some ⟨g, 0, none⟩)
  | 9, v, _ => v = .pointer (some ⟨g, 0 + 1, none⟩)
  | 10, _, _ => True
  | _, _, _ => True
def bkWr8_X (w0 : World) (g : Nat) (vs : Value) (v0' : Value) (o' : Int) (l' : Int) (a' : Bool) (d' : Bool) (xs : List (List Value)) (x : WrP) : Nat → List Value → World → World → Prop
  | 0, _, w1, w => w = w1
  | 1, [v0], w1, w => OwnK 75 129 w0 w v0 (xs ++ [wrL x]) ∧ w1.grownBy w vs.ownBlock ∧ (v0.ownBlock = vs.ownBlock ∨ v0.ownBlock = some w1.heap.size)
  | 2, [v0, _], w1, w => ∃ wm : World, OwnK 75 129 w0 wm v0 (xs ++ [wrL x]) ∧ w1.grownBy wm vs.ownBlock ∧ (v0.ownBlock = vs.ownBlock ∨ v0.ownBlock = some w1.heap.size) ∧ CellsAt w g #[v0', v0, .int .i64 o', .bool a', .int .i64 l', .bool d'] 67 ∧ Chg (fun q => q = g) wm w
  | _, _, _, _ => False
set_option maxRecDepth 100000 in
set_option maxHeartbeats 1600000 in
theorem bkWr8 {ops : Array Oper} (hn : ops.size = 11) (hg : goesBack ops = true)
    (o0 : OpIs ops 0 (.move (.tmp 0)) (some 42) [])
    (o1 : OpIs ops 1 (.move (.tmp 0)) (some 43) [])
    (o2 : OpIs ops 2 (.nilCheck (.tmp 43)) (some 44) [1])
    (o3 : OpIs ops 3 (.fieldAddr 67 (.tmp 44) 1) (some 45) [2])
    (o4 : OpIs ops 4 (.load 65 (.tmp 45)) (some 46) [3])
    (o5 : OpIs ops 5 (.load 75 (.tmp 7)) (some 47) [])
    (o6 : OpIs ops 6 (.buildSlice 65 1 #[(0, .tmp 47)]) (some 48) [5])
    (o7 : OpIs ops 7 (.call { callee := .builtin .append, args := #[.tmp 46, .tmp 48], argTypes := #[65, 65] }) (some 49) [4, 6])
    (o8 : OpIs ops 8 (.nilCheck (.tmp 42)) (some 50) [0, 1, 2, 3, 4, 5, 6, 7])
    (o9 : OpIs ops 9 (.fieldAddr 67 (.tmp 50) 1) (some 51) [0, 1, 2, 3, 4, 5, 6, 7, 8])
    (o10 : OpIs ops 10 (.store 65 (.tmp 51) (.tmp 49)) none [0, 1, 2, 3, 4, 5, 6, 7, 9])
    {a1 : Act} (hs : 54 ≤ a1.tmps.size) {wx : World} {w0 : World} {g gw : Nat} {vs v0' : Value} {o' l' : Int} {a' d' : Bool} {xs : List (List Value)} {x : WrP} (e0 : a1.eval (.tmp 0) = .pointer (some ⟨g, 0, none⟩)) (e7 : a1.eval (.tmp 7) = .pointer (some ⟨gw, 0, none⟩)) (hc1 : wx.cell? ⟨g, 0 + 1, none⟩ = some vs) (hbw : CellsAt wx gw (wrL x).toArray 75) (hlen : (wrL x).length = 129) (how : OwnK 75 129 w0 wx vs xs) (hxl : xs.length ≤ 900000) (hbg : CellsAt wx g #[v0', vs, .int .i64 o', .bool a', .int .i64 l', .bool d'] 67) (hvg : vs.ownBlock ≠ some g)
    {Q : Exit → Act → World → Prop} {id : Nat} (hend : ∀ (a : Act) (w1 w : World) (v0 v1 : Value), SameOut a1 a [42, 43, 44, 45, 46, 47, 48, 49, 50, 51] → Later wx w1 → a.eval (.tmp 49) = v0 → bkWr8_X w0 g vs v0' o' l' a' d' xs x 2 [v0, v1] w1 w → Q .normal a w) :
    (Code.region id ops true).wp Try.prog Q a1 wx := by
  refine region_turns (n := 11) (by kernel_rfl) hg hn [42, 43, 44, 45, 46, 47, 48, 49, 50, 51, 1010] (by decide +kernel) rfl [42, 43, 44, 45, 46, 47, 48, 49, 50, 51] (fun i => decide (i = 7) || decide (i = 10)) (fun i => decide (i = 0) || decide (i = 1) || decide (i = 2) || decide (i = 3) || decide (i = 8) || decide (i = 9)) (fun i => !decide (i = 10)) [7, 10] ?_ ?_ (bkWr8_R g vs x) (bkWr8_X w0 g vs v0' o' l' a' d' xs x) ?_ ?_ (by decide) ?_ ?_ ?_ ?_ (fun _ _ _ => Iff.rfl) ?_ ?_ ?_ ?_
  · intro i hi hs'
    have hc : i = 0 ∨ i = 1 ∨ i = 2 ∨ i = 3 ∨ i = 4 ∨ i = 5 ∨ i = 6 ∨ i = 7 ∨ i = 8 ∨ i = 9 ∨ i = 10 := by omega
    rcases hc with rfl | rfl | rfl | rfl | rfl | rfl | rfl | rfl | rfl | rfl | rfl
    · decide
    · decide
    · decide
    · decide
    · decide
    · decide
    · decide
    · decide
    · decide
    · decide
    · cases hs'
  · intro i hi hs'
    have hc : i = 0 ∨ i = 1 ∨ i = 2 ∨ i = 3 ∨ i = 4 ∨ i = 5 ∨ i = 6 ∨ i = 7 ∨ i = 8 ∨ i = 9 ∨ i = 10 := by omega
    rcases hc with rfl | rfl | rfl | rfl | rfl | rfl | rfl | rfl | rfl | rfl | rfl
    · show (42 : Nat) < _; omega
    · show (43 : Nat) < _; omega
    · show (44 : Nat) < _; omega
    · show (45 : Nat) < _; omega
    · show (46 : Nat) < _; omega
    · show (47 : Nat) < _; omega
    · show (48 : Nat) < _; omega
    · show (49 : Nat) < _; omega
    · show (50 : Nat) < _; omega
    · show (51 : Nat) < _; omega
    · cases hs'
  · intro i hi
    simp only [Bool.or_eq_true, decide_eq_true_eq] at hi
    rcases hi with rfl | rfl
    · decide
    · decide
  · intro i hi
    simp only [List.mem_cons, List.not_mem_nil, or_false] at hi
    rcases hi with rfl | rfl
    · decide
    · decide
  · intro i hi hT
    have hc : i = 0 ∨ i = 1 ∨ i = 2 ∨ i = 3 ∨ i = 4 ∨ i = 5 ∨ i = 6 ∨ i = 7 ∨ i = 8 ∨ i = 9 ∨ i = 10 := by omega
    rcases hc with rfl | rfl | rfl | rfl | rfl | rfl | rfl | rfl | rfl | rfl | rfl
    · rfl
    · rfl
    · rfl
    · rfl
    · rfl
    · rfl
    · rfl
    · rfl
    · rfl
    · rfl
    · cases hT
  · intro l dn i hi h k hk hp hT
    simp only [List.mem_cons, List.not_mem_nil, or_false] at hi
    rcases hi with rfl | rfl
    · have c4 := o7.back dn h 4 (by simp)
      have c6 := o7.back dn h 6 (by simp)
      have c3 := o4.back dn c4 3 (by simp)
      have c5 := o6.back dn c6 5 (by simp)
      have c2 := o3.back dn c3 2 (by simp)
      have c1 := o2.back dn c2 1 (by simp)
      have hc : k = 0 ∨ k = 1 ∨ k = 2 ∨ k = 3 ∨ k = 4 ∨ k = 5 ∨ k = 6 ∨ k = 7 ∨ k = 8 ∨ k = 9 ∨ k = 10 := by omega
      rcases hc with rfl | rfl | rfl | rfl | rfl | rfl | rfl | rfl | rfl | rfl | rfl
      · cases hp
      · cases hp
      · cases hp
      · cases hp
      · exact c4
      · exact c5
      · exact c6
      · cases hT
      · cases hp
      · cases hp
      · cases hT
    · have c0 := o10.back dn h 0 (by simp)
      have c1 := o10.back dn h 1 (by simp)
      have c2 := o10.back dn h 2 (by simp)
      have c3 := o10.back dn h 3 (by simp)
      have c4 := o10.back dn h 4 (by simp)
      have c5 := o10.back dn h 5 (by simp)
      have c6 := o10.back dn h 6 (by simp)
      have c7 := o10.back dn h 7 (by simp)
      have c9 := o10.back dn h 9 (by simp)
      have c8 := o9.back dn c9 8 (by simp)
      have hc : k = 0 ∨ k = 1 ∨ k = 2 ∨ k = 3 ∨ k = 4 ∨ k = 5 ∨ k = 6 ∨ k = 7 ∨ k = 8 ∨ k = 9 ∨ k = 10 := by omega
      rcases hc with rfl | rfl | rfl | rfl | rfl | rfl | rfl | rfl | rfl | rfl | rfl
      · cases hp
      · cases hp
      · cases hp
      · cases hp
      · exact c4
      · exact c5
      · exact c6
      · cases hT
      · cases hp
      · cases hp
      · cases hT
  · intro l dn t i i' h1 h2 h
    match t, h1, h2 with
    | 0, h1, h2 => cases h1; cases h2; have c0 := o10.back dn h 0 (by simp); have c1 := o10.back dn h 1 (by simp); have c2 := o10.back dn h 2 (by simp); have c3 := o10.back dn h 3 (by simp); have c4 := o10.back dn h 4 (by simp); have c5 := o10.back dn h 5 (by simp); have c6 := o10.back dn h 6 (by simp); have c7 := o10.back dn h 7 (by simp); have c9 := o10.back dn h 9 (by simp); have c8 := o9.back dn c9 8 (by simp); exact c7
    | t + 1, h1, h2 => simp at h2
  · intro i hi v w
    simp only [Bool.or_eq_true, decide_eq_true_eq] at hi
    rcases hi with rfl | rfl
    · trivial
    · trivial
  · intro l a w i o K ho hi hp hT hwait so hl0 F hK
    have hc : i = 0 ∨ i = 1 ∨ i = 2 ∨ i = 3 ∨ i = 4 ∨ i = 5 ∨ i = 6 ∨ i = 7 ∨ i = 8 ∨ i = 9 ∨ i = 10 := by omega
    rcases hc with rfl | rfl | rfl | rfl | rfl | rfl | rfl | rfl | rfl | rfl | rfl
    · cases hp
    · cases hp
    · cases hp
    · cases hp
    · have ws := o4.waits ho hwait
      have f3 : a.eval (.tmp 45) = .pointer (some ⟨g, 0 + 1, none⟩) := by obtain ⟨_, _, _, h⟩ := F 3 (ws 3 (by simp)) (by decide); exact h
      refine o4.loadDW f3 (Later.cell hl0 hc1) ?_
      exact hK _ _ (Later.refl w) rfl
    · refine o5.loadMid ((show _ = a1.eval _ from by simp only [Act.eval, Array.getD_eq_getD_getElem?, so.out 7 (by decide)]).trans e7) (CellsAt.range (o := 0) (hbw.later hl0) (fun j u hj => by rw [Nat.zero_add, arr_get]; exact hj)) Try.underlying75 rfl (by rw [hlen]; exact Try.writeSize) ?_
      exact hK _ _ (Later.refl w) rfl
    · have ws := o6.waits ho hwait
      have f5 : a.eval (.tmp 47) = .agg (wrL x).toArray := by obtain ⟨_, _, _, h⟩ := F 5 (ws 5 (by simp)) (by decide); exact h
      obtain ⟨i0, hi0, hz0, hz1, hz2⟩ := info_parts Try.writeInfo
      refine o6.buildOne i0 _ f5 Try.underlying65 hi0 hz0 (hz1.trans hlen.symm) ((wrL_len ⟨zeros_length 64, zeros_length 64⟩).trans hlen.symm) (by omega) (by omega) ?_
      exact hK _ _ ((Later.refl w).alloc _) ⟨_, rfl, CellsAt.made w _ _⟩
    · cases hT
    · cases hp
    · cases hp
    · cases hT
  · intro l a w w1 i o K ho hi hp hwait so hl0 F hK
    have hc : i = 0 ∨ i = 1 ∨ i = 2 ∨ i = 3 ∨ i = 4 ∨ i = 5 ∨ i = 6 ∨ i = 7 ∨ i = 8 ∨ i = 9 ∨ i = 10 := by omega
    rcases hc with rfl | rfl | rfl | rfl | rfl | rfl | rfl | rfl | rfl | rfl | rfl
    · refine o0.move ?_
      rw [show a.eval (.tmp 0) = .pointer (some ⟨g, 0, none⟩) from ((show _ = a1.eval _ from by simp only [Act.eval, Array.getD_eq_getD_getElem?, so.out 0 (by decide)]).trans e0)]
      exact hK _ rfl
    · refine o1.move ?_
      rw [show a.eval (.tmp 0) = .pointer (some ⟨g, 0, none⟩) from ((show _ = a1.eval _ from by simp only [Act.eval, Array.getD_eq_getD_getElem?, so.out 0 (by decide)]).trans e0)]
      exact hK _ rfl
    · have ws := o2.waits ho hwait
      have f1 : a.eval (.tmp 43) = .pointer (some ⟨g, 0, none⟩) := by obtain ⟨_, _, _, h⟩ := F 1 (ws 1 (by simp)) (by decide); exact h
      refine o2.nilCk f1 ?_
      exact hK _ rfl
    · have ws := o3.waits ho hwait
      have f2 : a.eval (.tmp 44) = .pointer (some ⟨g, 0, none⟩) := by obtain ⟨_, _, _, h⟩ := F 2 (ws 2 (by simp)) (by decide); exact h
      refine o3.fieldDev (by omega) f2 ?_
      exact hK _ rfl
    · cases hp
    · cases hp
    · cases hp
    · cases hp
    · have ws := o8.waits ho hwait
      have f0 : a.eval (.tmp 42) = .pointer (some ⟨g, 0, none⟩) := by obtain ⟨_, _, _, h⟩ := F 0 (ws 0 (by simp)) (by decide); exact h
      refine o8.nilCk f0 ?_
      exact hK _ rfl
    · have ws := o9.waits ho hwait
      have f8 : a.eval (.tmp 50) = .pointer (some ⟨g, 0, none⟩) := by obtain ⟨_, _, _, h⟩ := F 8 (ws 8 (by simp)) (by decide); exact h
      refine o9.fieldDev (by omega) f8 ?_
      exact hK _ rfl
    · cases hp
  · intro l a w1 w tq iq o vals K htq ho hwait so hl0 F hvl hvs hx hK
    match tq, htq with
    | 0, htq =>
      cases htq
      have hv0 := List.eq_nil_of_length_eq_zero hvl
      subst hv0
      have hw : w = w1 := hx
      subst hw
      have ws := o7.waits ho hwait
      have f4 : a.eval (.tmp 46) = vs := by obtain ⟨_, _, _, h⟩ := F 4 (ws 4 (by simp)) (by decide); exact h
      obtain ⟨x6, y6, z6, f6⟩ := F 6 (ws 6 (by simp)) (by decide)
      replace hK : ∀ vv ww, bkWr8_X w0 g vs v0' o' l' a' d' xs x 1 ([] ++ [vv]) w ww → K (a.put (some 49) vv) ww := hK
      obtain ⟨b, fe, hr⟩ := f6
      obtain ⟨i0, hi0, hz0, hz1, hz2⟩ := info_parts Try.writeInfo
      refine o7.appendD f4 fe fun ty => ?_
      obtain ⟨v', w', hrun, h1, h2, h3⟩ := run_append_one (P := Try.prog) (c := 1) 65 ty i0 _ 136 Try.underlying65 hi0 hz0 hz1 hz2 (wrL_len ⟨zeros_length 64, zeros_length 64⟩) (by decide) (how.on hl0) ((hr.later z6).range (o := 0) (fun j u hj => by rw [Nat.zero_add, arr_get]; exact hj)) hlen (wrL_one x) (by omega) (by decide)
      exact ⟨v', w', hrun, hK _ _ ⟨h1, h2, h3⟩⟩
    | 1, htq =>
      cases htq
      obtain ⟨v0, rfl⟩ := List.length_eq_one_iff.1 hvl
      have g7 : a.eval (.tmp 49) = v0 := hvs 0 7 v0 rfl rfl rfl
      have ws := o10.waits ho hwait
      have f9 : a.eval (.tmp 51) = .pointer (some ⟨g, 0 + 1, none⟩) := by obtain ⟨_, _, _, h⟩ := F 9 (ws 9 (by simp)) (by decide); exact h
      replace hK : ∀ vv ww, bkWr8_X w0 g vs v0' o' l' a' d' xs x 2 ([v0] ++ [vv]) w1 ww → K a ww := hK
      obtain ⟨h1, h2, h3⟩ := hx
      obtain ⟨A', c', e', -, -⟩ := h1.row
      have hch : Chg (fun q => vs.ownBlock = some q) w1 w := Chg.grown h2 fun q hq => .inl hq
      have hbw : CellsAt w g #[v0', vs, .int .i64 o', .bool a', .int .i64 l', .bool d'] 67 := (hbg.later hl0).chg hch (fun e => hvg e)
      refine o10.storeDW f9 (g7.trans e') hbw (by show 0 + 1 < 6; omega) (fun w' k1 k2 => hK undef _ ⟨w, h1, h2, h3, ?_, k2⟩)
      rw [e']
      exact k1
    | tq + 2, htq => simp at htq
  · intro a w1 w vals so hl F hvl hvs hx
    obtain ⟨v0, v1, rfl⟩ := len_two hvl
    exact hend a w1 w v0 v1 so hl  (hvs 0 7 v0 rfl rfl rfl) hx

end Go.Proofs.Ytknjkkdoeanhbaa
