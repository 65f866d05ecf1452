import Derived.Test.YtnhhdjcbifmfgaaPk12
import Derived.Test.YtnhhdjcbifmfgaaPk3
import Derived.Deep.LoopGhost
import Derived.Deep.QuietTactic
import Derived.BigQuiet
import Derived.Lib.Hide
import Derived.Test.YtnhhdjcbifmfgaaPk8
import Derived.Test.YtnhhdjcbifmfgaaPk13

/-
  A statement that compares two places of two arrays of three prims: in whatever order its operations come.
-/
namespace Go.Proofs.Ytnhhdjcbifmfgaa
open Go.RowKit Go.Maps

def Lt3 (wx : World) : Nat → Unit → World → Prop := fun _ _ w => Later wx w
section
variable {ops : Array Oper} {Q : Exit → Act → World → Prop} {K : Act → World → Prop} {i : Nat} {dst : Option Tmp} {js : List Nat} {a : Act} {w : World}
theorem OpIs.not3 {k : Tmp} {b : Bool} (h : OpIs ops i (.unOp .not 4 (.tmp k)) dst js) (he : a.eval (.tmp k) = .bool b) (hk : K (a.put dst (.bool (!b))) w) : wpOp Try.prog ops Q i K a w :=
  h.go fun op h1 h2 => by
    have hr : (execOp a.eval op).run Try.prog w = .ok (.value (.bool (!b))) w := by
      unfold execOp
      rw [h1]
      dsimp only
      rw [he]
      go_simp
    unfold Oper.wp
    rw [hr]
    show K _ _
    rw [h2]
    exact hk
theorem OpIs.pick3 {j k : Tmp} {v : Value} (h : OpIs ops i (.pick (.tmp j) (.tmp k) (.const (.bool false))) dst js) (hj : a.eval (.tmp j) = .bool true) (hv : a.eval (.tmp k) = v) (hk : K (a.put dst v) w) : wpOp Try.prog ops Q i K a w :=
  h.go fun op h1 h2 => by
    have hr : (execOp a.eval op).run Try.prog w = .ok (.value v) w := by
      unfold execOp
      rw [h1]
      dsimp only
      rw [hj, hv]
      go_simp
    unfold Oper.wp
    rw [hr]
    show K _ _
    rw [h2]
    exact hk
end
def OpG (ops : Array Oper) (i : Nat) (op : Op) (dst : Option Tmp) (js : List Nat) (g : Nat) (d : Tmp) : Prop := ∃ o, ops[i]? = some o ∧ o.op = op ∧ o.dst = dst ∧ o.guard = some (g, true) ∧ needs o js = true ∧ (ops[g]?).bind (·.dst) = some d
def unguard (ops : Array Oper) (i : Nat) : Array Oper := ops.modify i fun o => { o with guard := none }
theorem OpG.waits {ops : Array Oper} {i g : Nat} {d : Tmp} {op : Op} {dst : Option Tmp} {js : List Nat} (h : OpG ops i op dst js g d) {o : Oper} (ho : ops[i]? = some o) {l : Nat → Bool} (hl : ∀ e ∈ o.after, Region.binds .any e = true → l e.on = true) : ∀ j ∈ js, l j = true := by
  obtain ⟨o', h1, -, -, -, h5, -⟩ := h
  rw [ho] at h1
  cases h1
  intro j hj
  have := List.all_eq_true.1 h5 j hj
  simp only [Array.any_eq_true, Bool.and_eq_true, decide_eq_true_eq] at this
  obtain ⟨k, hk, e1, e2⟩ := this
  rw [← e1]
  exact hl _ (Array.getElem_mem hk) e2
theorem OpG.un {ops : Array Oper} {i g : Nat} {d : Tmp} {op : Op} {dst : Option Tmp} {js : List Nat} (h : OpG ops i op dst js g d) : OpIs (unguard ops i) i op dst [] := by
  obtain ⟨o, h1, h2, h3, -, -, -⟩ := h
  exact ⟨{ o with guard := none }, by simp [unguard, Array.getElem?_modify, h1], h2, h3, rfl, rfl⟩
theorem OpG.via {P : Program} {ops : Array Oper} {Q : Exit → Act → World → Prop} {K : Act → World → Prop} {i g : Nat} {d : Tmp} {op : Op} {dst : Option Tmp} {js : List Nat} {a : Act} {w : World} (h : OpG ops i op dst js g d) (hv : a.eval (.tmp d) = .bool true) (hd : d < a.tmps.size)
    (hk : wpOp P (unguard ops i) Q i K a w) : wpOp P ops Q i K a w := by
  obtain ⟨o, h1, -, -, h4, -, h6⟩ := h
  unfold wpOp at hk ⊢
  rw [h1]
  have e1 : (unguard ops i)[i]? = some { o with guard := none } := by simp [unguard, Array.getElem?_modify, h1]
  rw [e1] at hk
  have e2 : Region.wanted o (yielded ops a.tmps) = true := by
    have ht : a.tmps[d]? = some (.bool true) := by
      rw [Array.getElem?_eq_getElem hd]
      have := hv
      simp only [Act.eval, Array.getD, hd, dif_pos] at this
      exact congrArg some this
    simp only [Region.wanted, h4, yielded]
    rw [h6]
    simp [ht]
  dsimp only at hk ⊢
  rw [if_pos e2]
  rw [if_pos (by rfl)] at hk
  exact hk


set_option maxHeartbeats 1600000 in
theorem sw3_same {ops : Array Oper} (hn : ops.size = 11) (hg : goesBack ops = true)
    (o0 : OpIs ops 0 (.move (.tmp 5)) (some 60) [])
    (o1 : OpIs ops 1 (.move (.tmp 60)) (some 61) [0])
    (o2 : OpG ops 2 (.move (.tmp 8)) (some 62) [1] 1 61)
    (o3 : OpG ops 3 (.indexAddr 29 (.tmp 4) (.tmp 62)) (some 63) [1, 2] 1 61)
    (o4 : OpG ops 4 (.load 28 (.tmp 63)) (some 64) [1, 3] 1 61)
    (o5 : OpG ops 5 (.move (.tmp 8)) (some 65) [1] 1 61)
    (o6 : OpG ops 6 (.indexAddr 29 (.tmp 6) (.tmp 65)) (some 66) [1, 5] 1 61)
    (o7 : OpG ops 7 (.load 28 (.tmp 66)) (some 67) [1, 6] 1 61)
    (o8 : OpG ops 8 (.call { callee := .value (.func 7), args := #[.tmp 64, .tmp 67], argTypes := #[28, 28] }) (some 68) [1, 4, 7] 1 61)
    (o9 : OpG ops 9 (.unOp .not 4 (.tmp 68)) (some 69) [1, 8] 1 61)
    (o10 : OpIs ops 10 (.pick (.tmp 61) (.tmp 69) (.const (.bool false))) (some 70) [1, 9])
    {a1 : Act} (hs : 73 ≤ a1.tmps.size) {wx : World} {g4 g6 m : Nat} {x y : PrC} {cs ds : Array Value} (hm : m < 3) (e5 : a1.eval (.tmp 5) = .bool true) (e8 : a1.eval (.tmp 8) = .int .i64 (m : Nat)) (e4 : a1.eval (.tmp 4) = .pointer (some ⟨g4, 0, none⟩)) (e6 : a1.eval (.tmp 6) = .pointer (some ⟨g6, 0, none⟩)) (hb4 : BoxAt wx g4 cs 29) (hb6 : BoxAt wx g6 ds 29) (hx : ∀ j u, (prL x)[j]? = some u → cs[m * 6 + j]? = some u) (hy : ∀ j u, (prL y)[j]? = some u → ds[m * 6 + j]? = some u) (ox : PrOk wx x) (oy : PrOk wx y) (hxy : x.v = y.v)
    {Q : Exit → Act → World → Prop} {id : Nat} (hend : ∀ (D : Unit) (a : Act) (w : World), SameOut a1 a [60, 61, 62, 63, 64, 65, 66, 67, 68, 69, 70] → a.eval (.tmp 70) = .bool false → Lt3 wx (1) D w → Q .normal a w) :
    (Code.region id ops true).wp Try.prog Q a1 wx := by
  refine region_inv (by kernel_rfl) hg (fun l a w => ∃ D : Unit, SameOut a1 a [60, 61, 62, 63, 64, 65, 66, 67, 68, 69, 70] ∧ Lt3 wx (if l 8 = true then 1 else 0) D w ∧ (l 0 = true → a.eval (.tmp 60) = .bool true) ∧ (l 1 = true → a.eval (.tmp 61) = .bool true) ∧ (l 2 = true → a.eval (.tmp 62) = .int .i64 (m : Nat)) ∧ (l 3 = true → a.eval (.tmp 63) = .pointer (some ⟨g4, m * 6, none⟩)) ∧ (l 4 = true → a.eval (.tmp 64) = prV x) ∧ (l 5 = true → a.eval (.tmp 65) = .int .i64 (m : Nat)) ∧ (l 6 = true → a.eval (.tmp 66) = .pointer (some ⟨g6, m * 6, none⟩)) ∧ (l 7 = true → a.eval (.tmp 67) = prV y) ∧ (l 8 = true → a.eval (.tmp 68) = .bool true) ∧ (l 9 = true → a.eval (.tmp 69) = .bool false) ∧ (l 10 = true → a.eval (.tmp 70) = .bool false)) ?_ ?_ ?_
  · intro l a w i o ho hl hwait ⟨D, so, st, f0, f1, f2, f3, f4, f5, f6, f7, f8, f9, f10⟩
    have hi : i < 11 := by rw [← hn]; exact (Array.getElem?_eq_some_iff.1 ho).1
    have hc : i = 0 ∨ i = 1 ∨ i = 2 ∨ i = 3 ∨ i = 4 ∨ i = 5 ∨ i = 6 ∨ i = 7 ∨ i = 8 ∨ i = 9 ∨ i = 10 := by omega
    rcases hc with rfl | rfl | rfl | rfl | rfl | rfl | rfl | rfl | rfl | rfl | rfl
    · have st0 := st
      have ev : a.eval (.tmp 5) = .bool true := ((show _ = a1.eval _ from by simp only [Act.eval, Array.getD_eq_getD_getElem?, so.out 5 (by decide)]).trans e5)
      refine o0.move ?_
      rw [ev]
      exact ⟨D, (so.put (by decide) _), st, (fun _ => eval_put_same' _ _ _ (by rw [so.size]; show (60 : Nat) < _; omega)), (fun e => (eval_put_other' _ _ (by decide)).trans (f1 e)), (fun e => (eval_put_other' _ _ (by decide)).trans (f2 e)), (fun e => (eval_put_other' _ _ (by decide)).trans (f3 e)), (fun e => (eval_put_other' _ _ (by decide)).trans (f4 e)), (fun e => (eval_put_other' _ _ (by decide)).trans (f5 e)), (fun e => (eval_put_other' _ _ (by decide)).trans (f6 e)), (fun e => (eval_put_other' _ _ (by decide)).trans (f7 e)), (fun e => (eval_put_other' _ _ (by decide)).trans (f8 e)), (fun e => (eval_put_other' _ _ (by decide)).trans (f9 e)), (fun e => (eval_put_other' _ _ (by decide)).trans (f10 e))⟩
    · have ws := o1.waits ho hwait
      have w0 := ws 0 (by simp)
      have st0 := st
      refine o1.move ?_
      rw [f0 w0]
      exact ⟨D, (so.put (by decide) _), st, (fun e => (eval_put_other' _ _ (by decide)).trans (f0 e)), (fun _ => eval_put_same' _ _ _ (by rw [so.size]; show (61 : Nat) < _; omega)), (fun e => (eval_put_other' _ _ (by decide)).trans (f2 e)), (fun e => (eval_put_other' _ _ (by decide)).trans (f3 e)), (fun e => (eval_put_other' _ _ (by decide)).trans (f4 e)), (fun e => (eval_put_other' _ _ (by decide)).trans (f5 e)), (fun e => (eval_put_other' _ _ (by decide)).trans (f6 e)), (fun e => (eval_put_other' _ _ (by decide)).trans (f7 e)), (fun e => (eval_put_other' _ _ (by decide)).trans (f8 e)), (fun e => (eval_put_other' _ _ (by decide)).trans (f9 e)), (fun e => (eval_put_other' _ _ (by decide)).trans (f10 e))⟩
    · have ws := o2.waits ho hwait
      have w1 := ws 1 (by simp)
      have st0 := st
      refine o2.via (f1 w1) (by rw [so.size]; show (61 : Nat) < _; omega) ?_
      have ev : a.eval (.tmp 8) = .int .i64 (m : Nat) := ((show _ = a1.eval _ from by simp only [Act.eval, Array.getD_eq_getD_getElem?, so.out 8 (by decide)]).trans e8)
      refine o2.un.move ?_
      rw [ev]
      exact ⟨D, (so.put (by decide) _), st, (fun e => (eval_put_other' _ _ (by decide)).trans (f0 e)), (fun e => (eval_put_other' _ _ (by decide)).trans (f1 e)), (fun _ => eval_put_same' _ _ _ (by rw [so.size]; show (62 : Nat) < _; omega)), (fun e => (eval_put_other' _ _ (by decide)).trans (f3 e)), (fun e => (eval_put_other' _ _ (by decide)).trans (f4 e)), (fun e => (eval_put_other' _ _ (by decide)).trans (f5 e)), (fun e => (eval_put_other' _ _ (by decide)).trans (f6 e)), (fun e => (eval_put_other' _ _ (by decide)).trans (f7 e)), (fun e => (eval_put_other' _ _ (by decide)).trans (f8 e)), (fun e => (eval_put_other' _ _ (by decide)).trans (f9 e)), (fun e => (eval_put_other' _ _ (by decide)).trans (f10 e))⟩
    · have ws := o3.waits ho hwait
      have w1 := ws 1 (by simp)
      have w2 := ws 2 (by simp)
      have st0 := st
      refine o3.via (f1 w1) (by rw [so.size]; show (61 : Nat) < _; omega) ?_
      refine o3.un.index3 ((show _ = a1.eval _ from by simp only [Act.eval, Array.getD_eq_getD_getElem?, so.out 4 (by decide)]).trans e4) (f2 w2) hm ?_
      exact ⟨D, (so.put (by decide) _), st, (fun e => (eval_put_other' _ _ (by decide)).trans (f0 e)), (fun e => (eval_put_other' _ _ (by decide)).trans (f1 e)), (fun e => (eval_put_other' _ _ (by decide)).trans (f2 e)), (fun _ => eval_put_same' _ _ _ (by rw [so.size]; show (63 : Nat) < _; omega)), (fun e => (eval_put_other' _ _ (by decide)).trans (f4 e)), (fun e => (eval_put_other' _ _ (by decide)).trans (f5 e)), (fun e => (eval_put_other' _ _ (by decide)).trans (f6 e)), (fun e => (eval_put_other' _ _ (by decide)).trans (f7 e)), (fun e => (eval_put_other' _ _ (by decide)).trans (f8 e)), (fun e => (eval_put_other' _ _ (by decide)).trans (f9 e)), (fun e => (eval_put_other' _ _ (by decide)).trans (f10 e))⟩
    · have ws := o4.waits ho hwait
      have w1 := ws 1 (by simp)
      have w3 := ws 3 (by simp)
      have st0 := st
      refine o4.via (f1 w1) (by rw [so.size]; show (61 : Nat) < _; omega) ?_
      refine o4.un.load3 (f3 w3) (hb4.later st) hx ?_
      exact ⟨D, (so.put (by decide) _), st, (fun e => (eval_put_other' _ _ (by decide)).trans (f0 e)), (fun e => (eval_put_other' _ _ (by decide)).trans (f1 e)), (fun e => (eval_put_other' _ _ (by decide)).trans (f2 e)), (fun e => (eval_put_other' _ _ (by decide)).trans (f3 e)), (fun _ => eval_put_same' _ _ _ (by rw [so.size]; show (64 : Nat) < _; omega)), (fun e => (eval_put_other' _ _ (by decide)).trans (f5 e)), (fun e => (eval_put_other' _ _ (by decide)).trans (f6 e)), (fun e => (eval_put_other' _ _ (by decide)).trans (f7 e)), (fun e => (eval_put_other' _ _ (by decide)).trans (f8 e)), (fun e => (eval_put_other' _ _ (by decide)).trans (f9 e)), (fun e => (eval_put_other' _ _ (by decide)).trans (f10 e))⟩
    · have ws := o5.waits ho hwait
      have w1 := ws 1 (by simp)
      have st0 := st
      refine o5.via (f1 w1) (by rw [so.size]; show (61 : Nat) < _; omega) ?_
      have ev : a.eval (.tmp 8) = .int .i64 (m : Nat) := ((show _ = a1.eval _ from by simp only [Act.eval, Array.getD_eq_getD_getElem?, so.out 8 (by decide)]).trans e8)
      refine o5.un.move ?_
      rw [ev]
      exact ⟨D, (so.put (by decide) _), st, (fun e => (eval_put_other' _ _ (by decide)).trans (f0 e)), (fun e => (eval_put_other' _ _ (by decide)).trans (f1 e)), (fun e => (eval_put_other' _ _ (by decide)).trans (f2 e)), (fun e => (eval_put_other' _ _ (by decide)).trans (f3 e)), (fun e => (eval_put_other' _ _ (by decide)).trans (f4 e)), (fun _ => eval_put_same' _ _ _ (by rw [so.size]; show (65 : Nat) < _; omega)), (fun e => (eval_put_other' _ _ (by decide)).trans (f6 e)), (fun e => (eval_put_other' _ _ (by decide)).trans (f7 e)), (fun e => (eval_put_other' _ _ (by decide)).trans (f8 e)), (fun e => (eval_put_other' _ _ (by decide)).trans (f9 e)), (fun e => (eval_put_other' _ _ (by decide)).trans (f10 e))⟩
    · have ws := o6.waits ho hwait
      have w1 := ws 1 (by simp)
      have w5 := ws 5 (by simp)
      have st0 := st
      refine o6.via (f1 w1) (by rw [so.size]; show (61 : Nat) < _; omega) ?_
      refine o6.un.index3 ((show _ = a1.eval _ from by simp only [Act.eval, Array.getD_eq_getD_getElem?, so.out 6 (by decide)]).trans e6) (f5 w5) hm ?_
      exact ⟨D, (so.put (by decide) _), st, (fun e => (eval_put_other' _ _ (by decide)).trans (f0 e)), (fun e => (eval_put_other' _ _ (by decide)).trans (f1 e)), (fun e => (eval_put_other' _ _ (by decide)).trans (f2 e)), (fun e => (eval_put_other' _ _ (by decide)).trans (f3 e)), (fun e => (eval_put_other' _ _ (by decide)).trans (f4 e)), (fun e => (eval_put_other' _ _ (by decide)).trans (f5 e)), (fun _ => eval_put_same' _ _ _ (by rw [so.size]; show (66 : Nat) < _; omega)), (fun e => (eval_put_other' _ _ (by decide)).trans (f7 e)), (fun e => (eval_put_other' _ _ (by decide)).trans (f8 e)), (fun e => (eval_put_other' _ _ (by decide)).trans (f9 e)), (fun e => (eval_put_other' _ _ (by decide)).trans (f10 e))⟩
    · have ws := o7.waits ho hwait
      have w1 := ws 1 (by simp)
      have w6 := ws 6 (by simp)
      have st0 := st
      refine o7.via (f1 w1) (by rw [so.size]; show (61 : Nat) < _; omega) ?_
      refine o7.un.load3 (f6 w6) (hb6.later st) hy ?_
      exact ⟨D, (so.put (by decide) _), st, (fun e => (eval_put_other' _ _ (by decide)).trans (f0 e)), (fun e => (eval_put_other' _ _ (by decide)).trans (f1 e)), (fun e => (eval_put_other' _ _ (by decide)).trans (f2 e)), (fun e => (eval_put_other' _ _ (by decide)).trans (f3 e)), (fun e => (eval_put_other' _ _ (by decide)).trans (f4 e)), (fun e => (eval_put_other' _ _ (by decide)).trans (f5 e)), (fun e => (eval_put_other' _ _ (by decide)).trans (f6 e)), (fun _ => eval_put_same' _ _ _ (by rw [so.size]; show (67 : Nat) < _; omega)), (fun e => (eval_put_other' _ _ (by decide)).trans (f8 e)), (fun e => (eval_put_other' _ _ (by decide)).trans (f9 e)), (fun e => (eval_put_other' _ _ (by decide)).trans (f10 e))⟩
    · have ws := o8.waits ho hwait
      have w1 := ws 1 (by simp)
      have w4 := ws 4 (by simp)
      have w7 := ws 7 (by simp)
      have st0 : Lt3 wx 0 D w := by
        have hst := st
        simp only [hl, Bool.false_eq_true, if_false] at hst
        exact hst
      refine o8.via (f1 w1) (by rw [so.size]; show (61 : Nat) < _; omega) ?_
      have hl : Later wx w := st0
      have hc := same_v (ox.later hl).at (oy.later hl).at
      rw [hxy, sameP_self] at hc
      refine o8.un.call2 (enters_of Try.func7 (by kernel_rfl) rfl) (f4 w4) (f7 w7) hc ?_
      rintro e w' ⟨rfl, hl'⟩
      have st1 : Lt3 wx 1 D w' := hl.trans hl'
      have st2 : Lt3 wx (if (more l 8) 8 = true then 1 else 0) (D) w' := by
        rw [if_pos (show more l 8 8 = true from rfl)]
        exact st1
      exact ⟨_, rfl, ⟨D, (so.put (by decide) _), st2, (fun e => (eval_put_other' _ _ (by decide)).trans (f0 e)), (fun e => (eval_put_other' _ _ (by decide)).trans (f1 e)), (fun e => (eval_put_other' _ _ (by decide)).trans (f2 e)), (fun e => (eval_put_other' _ _ (by decide)).trans (f3 e)), (fun e => (eval_put_other' _ _ (by decide)).trans (f4 e)), (fun e => (eval_put_other' _ _ (by decide)).trans (f5 e)), (fun e => (eval_put_other' _ _ (by decide)).trans (f6 e)), (fun e => (eval_put_other' _ _ (by decide)).trans (f7 e)), (fun _ => eval_put_same' _ _ _ (by rw [so.size]; show (68 : Nat) < _; omega)), (fun e => (eval_put_other' _ _ (by decide)).trans (f9 e)), (fun e => (eval_put_other' _ _ (by decide)).trans (f10 e))⟩⟩
    · have ws := o9.waits ho hwait
      have w1 := ws 1 (by simp)
      have w8 := ws 8 (by simp)
      have st0 := st
      refine o9.via (f1 w1) (by rw [so.size]; show (61 : Nat) < _; omega) ?_
      refine o9.un.not3 (f8 w8) ?_
      exact ⟨D, (so.put (by decide) _), st, (fun e => (eval_put_other' _ _ (by decide)).trans (f0 e)), (fun e => (eval_put_other' _ _ (by decide)).trans (f1 e)), (fun e => (eval_put_other' _ _ (by decide)).trans (f2 e)), (fun e => (eval_put_other' _ _ (by decide)).trans (f3 e)), (fun e => (eval_put_other' _ _ (by decide)).trans (f4 e)), (fun e => (eval_put_other' _ _ (by decide)).trans (f5 e)), (fun e => (eval_put_other' _ _ (by decide)).trans (f6 e)), (fun e => (eval_put_other' _ _ (by decide)).trans (f7 e)), (fun e => (eval_put_other' _ _ (by decide)).trans (f8 e)), (fun _ => eval_put_same' _ _ _ (by rw [so.size]; show (69 : Nat) < _; omega)), (fun e => (eval_put_other' _ _ (by decide)).trans (f10 e))⟩
    · have ws := o10.waits ho hwait
      have w1 := ws 1 (by simp)
      have w9 := ws 9 (by simp)
      have st0 := st
      refine o10.pick3 (f1 w1) (f9 w9) ?_
      exact ⟨D, (so.put (by decide) _), st, (fun e => (eval_put_other' _ _ (by decide)).trans (f0 e)), (fun e => (eval_put_other' _ _ (by decide)).trans (f1 e)), (fun e => (eval_put_other' _ _ (by decide)).trans (f2 e)), (fun e => (eval_put_other' _ _ (by decide)).trans (f3 e)), (fun e => (eval_put_other' _ _ (by decide)).trans (f4 e)), (fun e => (eval_put_other' _ _ (by decide)).trans (f5 e)), (fun e => (eval_put_other' _ _ (by decide)).trans (f6 e)), (fun e => (eval_put_other' _ _ (by decide)).trans (f7 e)), (fun e => (eval_put_other' _ _ (by decide)).trans (f8 e)), (fun e => (eval_put_other' _ _ (by decide)).trans (f9 e)), (fun _ => eval_put_same' _ _ _ (by rw [so.size]; show (70 : Nat) < _; omega))⟩
  · intro l a w hall ⟨D, so, st, f0, f1, f2, f3, f4, f5, f6, f7, f8, f9, f10⟩
    rw [hn] at hall
    have hst : Lt3 wx 1 D w := by
      have hst := st
      simp only [hall 8 (by decide), if_true] at hst
      exact hst
    exact hend D a w so (f10 (hall 10 (by decide))) hst
  · exact ⟨(), SameOut.refl _ _, (show Lt3 wx 0 () _ from (Later.refl wx).drew), (fun e => by cases e), (fun e => by cases e), (fun e => by cases e), (fun e => by cases e), (fun e => by cases e), (fun e => by cases e), (fun e => by cases e), (fun e => by cases e), (fun e => by cases e), (fun e => by cases e), (fun e => by cases e)⟩

end Go.Proofs.Ytnhhdjcbifmfgaa

/-
  What the statements' own Many comes to, as a call: what prims weigh.
-/
namespace Go.Proofs.Ytnhhdjcbifmfgaa
open Go.RowKit

theorem sizesP_take {l : List ByteArray} {k : Nat} (h : k < l.length) : ((l.take (k + 1)).map ByteArray.size).sum = ((l.take k).map ByteArray.size).sum + (l.getD k ByteArray.empty).size := by
  rw [List.take_succ_eq_append_getElem h, List.map_append, List.sum_append]
  simp [List.getD, List.getElem?_eq_getElem h]
theorem sizesP_take_le (l : List ByteArray) (k : Nat) : ((l.take k).map ByteArray.size).sum ≤ (l.map ByteArray.size).sum := by
  have : (l.map ByteArray.size).sum = ((l.take k).map ByteArray.size).sum + ((l.drop k).map ByteArray.size).sum := by
    rw [← List.sum_append, ← List.map_append, List.take_append_drop]
  omega

set_option maxRecDepth 100000 in
set_option maxHeartbeats 1000000 in
theorem manyP_any (A : Option Addr) (n c : Nat) (xs : List PrC) (w : World) (hx : Prims w A n xs) (hn : n ≤ 1048576) (hW : weightPs xs ≤ 4194304) :
    Calls Try.prog 8 #[.slice A n c] w fun e w' => e = .returned (.int .i64 (n + weightPs xs : Nat)) ∧ Later w w' := by
  have HX := Lib.hid hx; clear hx
  go_enter Try.func8, Try.ntmps8
  go_wp2
  go_loopg [3, 14] (n + 1) (fun g s3 s14 wr => ∃ k : Nat, k ≤ n ∧ n - k ≤ g ∧ s14 = .int .i64 k ∧ s3 = .int .i64 (n + weightPs (xs.take k) : Nat) ∧ Later w wr)
  case atStart => exact ⟨0, Nat.zero_le _, by omega, rfl, rfl, Later.refl w⟩
  case round =>
    obtain ⟨k, hk, hg, rfl, rfl, hwr⟩ := hrel
    by_cases hlt : k < n
    · obtain ⟨b, o, x, rfl, hz, g0, g1, g2, g3, g4, g5⟩ := (HX.out.later hwr).get hlt
      have hstep := weightPs_take hz
      have hle := weightPs_take_le xs (k + 1)
      rw [hstep] at hle
      have hcm := (HX.out.later hwr).each x (List.mem_of_getElem? hz)
      have hlen := hcm.old.len
      have hlen2 := hcm.new.len
      have HW := Lib.hid hwr; have HROW := Lib.hid hcm.old; have HROW2 := Lib.hid hcm.new
      have hwt : weightP x.v = x.v.name.size + x.v.to.size + x.n + x.m + (x.v.old.map ByteArray.size).sum + (x.v.new.map ByteArray.size).sum := by unfold weightP; rw [hlen, hlen2]
      rw [hwt] at hle hstep
      have hle2 : n + weightPs (xs.take k) + x.v.name.size + x.v.to.size + x.n + x.m + (x.v.old.map ByteArray.size).sum + (x.v.new.map ByteArray.size).sum ≤ 6000000 := by omega
      have HST := Lib.hid hstep
      clear hle hstep hwt hcm hwr hz
      generalize weightPs (xs.take k) = W0 at HST hle2 ⊢
      generalize x.v.name = nm at *
      generalize x.v.to = to at *
      generalize x.v.old = l at *
      generalize x.v.new = r at *
      generalize x.v.kind = kd at *
      generalize x.v.place = pl at *
      generalize x.n = nl at *
      generalize x.A = Al at *
      generalize x.c = cl at *
      generalize x.m = nr at *
      generalize x.B = Ar at *
      generalize x.d = cr at *
      have hlb : Later wr (wr.alloc (.cells #[.int .i64 kd, .string nm, .string to, .int .i64 pl, .slice Al nl cl, .slice Ar nr cr] 24)) := (Later.refl wr).alloc _
      have HLB := Lib.hid hlb; clear hlb
      have HLEN := Lib.hid hlen; have HLEN2 := Lib.hid hlen2; clear hlen hlen2
      go_wp2
      go_loopg [3, 38] (nl + 1) (fun g s3 s38 wx => ∃ j : Nat, j ≤ nl ∧ nl - j ≤ g ∧ s38 = .int .i64 j ∧ s3 = .int .i64 (n + W0 + nm.size + to.size + nl + nr + ((l.take j).map ByteArray.size).sum : Nat) ∧ wx = wr.alloc (.cells #[.int .i64 kd, .string nm, .string to, .int .i64 pl, .slice Al nl cl, .slice Ar nr cr] 24))
      case atStart => exact ⟨0, Nat.zero_le _, by omega, rfl, by simp; go_num, rfl⟩
      case round =>
        obtain ⟨j, hj, hgj, rfl, rfl, rfl⟩ := hrel
        by_cases hjl : j < nl
        · obtain ⟨b1, o1, rfl, h4⟩ := (HROW.out.later HLB.out).get hjl
          have h1 := sizesP_take (l := l) (k := j) (by rw [HLEN.out]; exact hjl)
          have h2 := sizesP_take_le l (j + 1)
          rw [h1] at h2
          have H1 := Lib.hid h1; clear h1
          generalize l.getD j ByteArray.empty = sx at *
          generalize ((l.take j).map ByteArray.size).sum = S at *
          go_wp2
          go_roundg (nl - (j + 1))
          case measure => omega
          case rel => exact ⟨j + 1, by omega, Nat.le_refl _, by go_num, by rw [H1.out]; go_num, rfl⟩
        · have e : l.take j = l := List.take_of_length_le (by rw [HLEN.out]; omega)
          rw [e]
          clear e
          generalize (l.map ByteArray.size).sum = S1 at *
          go_wp2
          go_loopg [3, 50] (nr + 1) (fun g s3 s50 wx => ∃ j : Nat, j ≤ nr ∧ nr - j ≤ g ∧ s50 = .int .i64 j ∧ s3 = .int .i64 (n + W0 + nm.size + to.size + nl + nr + S1 + ((r.take j).map ByteArray.size).sum : Nat) ∧ wx = wr.alloc (.cells #[.int .i64 kd, .string nm, .string to, .int .i64 pl, .slice Al nl cl, .slice Ar nr cr] 24))
          case atStart => exact ⟨0, Nat.zero_le _, by omega, rfl, by simp, rfl⟩
          case round =>
            obtain ⟨i, hi, hgi, rfl, rfl, rfl⟩ := hrel
            by_cases hil : i < nr
            · obtain ⟨b1, o1, rfl, h4⟩ := (HROW2.out.later HLB.out).get hil
              have h1 := sizesP_take (l := r) (k := i) (by rw [HLEN2.out]; exact hil)
              have h2 := sizesP_take_le r (i + 1)
              rw [h1] at h2
              have H1 := Lib.hid h1; clear h1
              generalize r.getD i ByteArray.empty = sx at *
              generalize ((r.take i).map ByteArray.size).sum = S at *
              go_wp2
              go_roundg (nr - (i + 1))
              case measure => omega
              case rel => exact ⟨i + 1, by omega, Nat.le_refl _, by go_num, by rw [H1.out]; go_num, rfl⟩
            · have e : r.take i = r := List.take_of_length_le (by rw [HLEN2.out]; omega)
              rw [e]
              clear e
              go_wp2
              go_roundg (n - (k + 1))
              case measure => omega
              case rel => exact ⟨k + 1, by omega, Nat.le_refl _, by go_num, by rw [HST.out]; go_num, HW.out.trans HLB.out⟩
    · have e : xs.take k = xs := List.take_of_length_le (by rw [HX.out.len]; omega)
      rw [e]
      have HW := Lib.hid hwr
      clear e hwr
      go_wp2
      go_ret
      exact ⟨rfl, HW.out⟩

end Go.Proofs.Ytnhhdjcbifmfgaa

/-
  What swap's Needs and Apart come to, as calls.
-/
namespace Go.Proofs.Ytnhhdjcbifmfgaa
open Go.RowKit Go.Maps

def apartP (p q : Pr) : Bool := (swapR (swapP p q)).2.2 && sameP (swapR (swapP p q)).1 q && sameP (swapR (swapP p q)).2.1 p

set_option maxRecDepth 100000 in
set_option maxHeartbeats 800000 in
theorem needs_any (x y : PrC) (w : World) (hx : PrOk w x) (hy : PrOk w y) :
    Calls Try.prog 10 #[prV x, prV y] w (Says (!(swapR (swapP x.v y.v)).2.2) w) := by
  obtain ⟨b0, b1, hl⟩ := two_boxes w (prL x).toArray (prL y).toArray 28
  have HS := Lib.hid (fun (w' : World) (h : Later w w') => swap_any x y w' (hx.later h) (hy.later h))
  have HL := Lib.hid hl
  clear b0 b1 hx hy
  generalize swapR (swapP x.v y.v) = rr at HS ⊢
  obtain ⟨r1, r2, t⟩ := rr
  dsimp only at HS ⊢
  unfold prV at HS ⊢
  go_enter Try.func10, Try.ntmps10
  go_wp2_with fail
  refine (HS.out _ hl).mono ?_
  rintro e w1 ⟨a, b, rfl, -, -, -, -, hl1⟩
  have HL1 := Lib.hid (HL.out.trans hl1)
  clear hl hl1
  unfold prV
  dsimp only
  go_wp2
  go_ret
  exact ⟨rfl, (HL1.out.alloc _).alloc _⟩

set_option maxRecDepth 100000 in
set_option maxHeartbeats 800000 in
theorem apart_any (x y : PrC) (w : World) (hx : PrOk w x) (hy : PrOk w y) :
    Calls Try.prog 11 #[prV x, prV y] w (Says (apartP x.v y.v) w) := by
  obtain ⟨b0, b1, hl⟩ := two_boxes w (prL x).toArray (prL y).toArray 28
  have HS := Lib.hid (fun (w' : World) (h : Later w w') => swap_any x y w' (hx.later h) (hy.later h))
  have HX := Lib.hid hx; have HY := Lib.hid hy
  have HB0 := Lib.hid b0; have HB1 := Lib.hid b1
  clear b0 b1 hx hy
  generalize hr : apartP x.v y.v = R
  have HR := Lib.hid hr
  unfold apartP at HR
  generalize swapR (swapP x.v y.v) = rr at HS HR
  obtain ⟨r1, r2, t⟩ := rr
  dsimp only at HR
  clear hr
  have HL := Lib.hid hl
  unfold prV at HS ⊢
  go_enter Try.func11, Try.ntmps11
  go_wp2_with fail
  refine (HS.out _ hl).mono ?_
  rintro e w1 ⟨a, b, rfl, ha, hb, hao, hbo, hl1⟩
  dsimp only at ha hb ⊢
  subst ha hb
  obtain ⟨d0, d1, hl2⟩ := two_boxes w1 #[.int .i64 a.v.kind, .string a.v.name, .string a.v.to, .int .i64 a.v.place, .slice a.A a.n a.c, .slice a.B a.m a.d] #[.int .i64 b.v.kind, .string b.v.name, .string b.v.to, .int .i64 b.v.place, .slice b.A b.n b.c, .slice b.B b.m b.d] 28
  unfold prV
  go_upto_region 2 with fail
  generalize (w1.alloc (.cells #[.int .i64 a.v.kind, .string a.v.name, .string a.v.to, .int .i64 a.v.place, .slice a.A a.n a.c, .slice a.B a.m a.d] 28)).alloc (.cells #[.int .i64 b.v.kind, .string b.v.name, .string b.v.to, .int .i64 b.v.place, .slice b.A b.n b.c, .slice b.B b.m b.d] 28) = w2 at d0 d1 hl2 ⊢
  have l2 := hl1.trans hl2
  obtain ⟨p0, p1, p2, p3, p4, p5⟩ := BoxAt.all (x := a) d0
  obtain ⟨q0, q1, q2, q3, q4, q5⟩ := BoxAt.all (x := y) (HB1.out.later l2)
  have HB2 := Lib.hid (HB0.out.later l2); have HD1 := Lib.hid d1
  have HL2 := Lib.hid (HL.out.trans l2)
  have HS1 := Lib.hid (primSame_any a y w2 (hao.later hl2) (HY.out.later HL2.out))
  have HS2 := Lib.hid (fun (w' : World) (h : Later w2 w') => primSame_any b x w' ((hbo.later hl2).later h) ((HX.out.later HL2.out).later h))
  clear hl1 hl2 l2 hao hbo d0 d1 hl
  unfold prV at HS1 HS2
  cases t
  · obtain rfl : false = R := by rw [← HR.out]; rfl
    go_wp2
    go_ret
    exact ⟨rfl, HL2.out⟩
  · have hR : R = (sameP a.v y.v && sameP b.v x.v) := by rw [← HR.out]; rfl
    clear HR
    cases h1 : sameP a.v y.v
    · rw [h1] at HS1 hR
      obtain rfl : R = false := hR
      clear h1
      go_wp2_with fail
      refine HS1.out.mono ?_
      rintro e w3 ⟨rfl, hl3⟩
      have HL3 := Lib.hid (HL2.out.trans hl3)
      clear hl3
      go_wp2
      go_ret
      exact ⟨rfl, HL3.out⟩
    · rw [h1] at HS1 hR
      rw [Bool.true_and] at hR
      have HRf := Lib.hid hR
      clear h1 hR
      go_wp2_with fail
      refine HS1.out.mono ?_
      rintro e w3 ⟨rfl, hl3⟩
      have HL3 := Lib.hid (HL2.out.trans hl3)
      have HSB := Lib.hid (HS2.out w3 hl3)
      obtain ⟨u0, u1, u2, u3, u4, u5⟩ := BoxAt.all (x := x) (HB2.out.later hl3)
      obtain ⟨v0, v1, v2, v3, v4, v5⟩ := BoxAt.all (x := b) (HD1.out.later hl3)
      generalize sameP b.v x.v = t at HSB HRf
      clear hl3 p0 p1 p2 p3 p4 p5 q0 q1 q2 q3 q4 q5
      go_wp2_with fail
      refine HSB.out.mono ?_
      rintro e w4 ⟨rfl, hl4⟩
      have HL4 := Lib.hid (HL3.out.trans hl4)
      clear hl4
      go_wp2
      go_ret
      exact ⟨ret_bool HRf.out.symm, HL4.out⟩

theorem small_any (A : Option Addr) (n c : Nat) (xs : List PrC) (w : World) (hx : Prims w A n xs) (hn : n ≤ 1048576) (hW : weightPs xs ≤ 4194304) :
    Calls Try.prog 4 #[.slice A n c] w (Says (decide (n + weightPs xs ≤ 5000)) w) := by
  have HM := Lib.hid (manyP_any A n c xs w hx hn hW)
  clear hx
  generalize weightPs xs = k at *
  go_enter Try.func4, Try.ntmps4
  go_wp2_with fail
  refine HM.out.mono ?_
  rintro e w1 ⟨rfl, hl1⟩
  have HL1 := Lib.hid hl1
  clear hl1
  have hd : decide ((n : Int) + (k : Int) ≤ 5000) = decide (n + k ≤ 5000) := decide_eq_decide.2 (by omega)
  have HD := Lib.hid hd
  clear hd
  go_wp2
  go_ret
  exact ⟨ret_bool HD.out, HL1.out⟩

end Go.Proofs.Ytnhhdjcbifmfgaa
