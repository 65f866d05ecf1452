import Derived.Test.YtlnjhimbgckdcaaGreatPk16
import Derived.Test.YtlnjhimbgckdcaaGreatPk12
import Derived.Test.YtlnjhimbgckdcaaGreatPk37
import Derived.Deep.LoopGhost
import Derived.Deep.QuietTactic
import Derived.BigQuiet
import Derived.Lib.Hide
import Derived.Test.YtlnjhimbgckdcaaGreatPk38

/-
  What the statements' own Many and few of patches come to, as calls.
-/
namespace Go.Proofs.YtlnjhimbgckdcaaGreat
open Go.RowKit Go.Maps

section
variable {ops : Array Oper} {Q : Exit -> Act -> World -> Prop} {K : Act -> World -> Prop} {i : Nat} {dst : Option Tmp} {js : List Nat} {a : Act} {w w0 : World}
theorem OpIs.lenS9 {k : Tmp} {s : ByteArray} (h : OpIs ops i (.call { callee := .builtin .len, args := #[.tmp k], argTypes := #[9] }) dst js) (he : a.eval (.tmp k) = .string s) (hk : K (a.put dst (.int .i64 (s.size : Nat))) w) : wpOp Tryz.prog ops Q i K a w :=
  h.go fun o h1 h2 => by
    have hr : (execOp a.eval o).run Tryz.prog w = .ok (.value (.int .i64 (s.size : Nat))) w := by
      unfold execOp
      rw [h1]
      simp only [resolve, invoke, builtin, Sem.run_bind, List.map_toArray, List.map_cons, List.map_nil, he]
      go_simp
    unfold Oper.wp
    rw [hr]
    show K _ _
    rw [h2]
    exact hk
theorem OpIs.addTT {j k : Tmp} {m n : Nat} (h : OpIs ops i (.binOp .add 3 (.tmp j) (.tmp k) 3) dst js) (hj : a.eval (.tmp j) = .int .i64 (m : Nat)) (hk' : a.eval (.tmp k) = .int .i64 (n : Nat)) (hb : m + n <= 1000000000000) (hk : K (a.put dst (.int .i64 (m + n : Nat))) w) : wpOp Tryz.prog ops Q i K a w :=
  h.go fun op h1 h2 => by
    have hr : (execOp a.eval op).run Tryz.prog w = .ok (.value (.int .i64 (m + n : Nat))) w := by
      unfold execOp
      rw [h1]
      dsimp only
      rw [hj, hk']
      go_simp
      rw [IntKind.wrap_i64]
      omega
    unfold Oper.wp
    rw [hr]
    show K _ _
    rw [h2]
    exact hk
theorem OpIs.addCT {k : Tmp} {n : Nat} (h : OpIs ops i (.binOp .add 3 (.const (.int .i64 1)) (.tmp k) 3) dst js) (hk' : a.eval (.tmp k) = .int .i64 (n : Nat)) (hb : 1 + n <= 1000000000000) (hk : K (a.put dst (.int .i64 (1 + n : Nat))) w) : wpOp Tryz.prog ops Q i K a w :=
  h.go fun op h1 h2 => by
    have hr : (execOp a.eval op).run Tryz.prog w = .ok (.value (.int .i64 (1 + n : Nat))) w := by
      unfold execOp
      rw [h1]
      dsimp only [Act.eval]
      have : a.tmps.getD k undef = .int .i64 (n : Nat) := hk'
      rw [this]
      go_simp
      rw [IntKind.wrap_i64]
      omega
    unfold Oper.wp
    rw [hr]
    show K _ _
    rw [h2]
    exact hk
end
def MnS (wx : World) : Nat -> Unit -> World -> Prop := fun _ _ V => Later wx V
set_option maxHeartbeats 1600000 in
theorem many7_region {ops : Array Oper} (hn : ops.size = 15) (hg : goesBack ops = true)
    (o0 : OpIs ops 0 (.move (.tmp 3)) (some 12) [])
    (o1 : OpIs ops 1 (.fieldAddr 25 (.tmp 5) 1) (some 13) [])
    (o2 : OpIs ops 2 (.load 9 (.tmp 13)) (some 14) [1])
    (o3 : OpIs ops 3 (.call { callee := .builtin .len, args := #[.tmp 14], argTypes := #[9] }) (some 15) [2])
    (o4 : OpIs ops 4 (.binOp .add 3 (.const (.int .i64 1)) (.tmp 15) 3) (some 16) [3])
    (o5 : OpIs ops 5 (.fieldAddr 25 (.tmp 5) 2) (some 17) [])
    (o6 : OpIs ops 6 (.load 22 (.tmp 17)) (some 18) [5])
    (o7 : OpIs ops 7 (.call { callee := .builtin .len, args := #[.tmp 18], argTypes := #[22] }) (some 19) [6])
    (o8 : OpIs ops 8 (.binOp .add 3 (.tmp 16) (.tmp 19) 3) (some 20) [4, 7])
    (o9 : OpIs ops 9 (.fieldAddr 25 (.tmp 5) 3) (some 21) [])
    (o10 : OpIs ops 10 (.load 23 (.tmp 21)) (some 22) [9])
    (o11 : OpIs ops 11 (.call { callee := .value (.func 39), args := #[.tmp 22], argTypes := #[23] }) (some 23) [10])
    (o12 : OpIs ops 12 (.binOp .add 3 (.tmp 20) (.tmp 23) 3) (some 24) [8, 11])
    (o13 : OpIs ops 13 (.binOp .add 3 (.tmp 12) (.tmp 24) 3) (some 25) [0, 12])
    (o14 : OpIs ops 14 (.assign (.tmp 25)) (some 3) [13, 0])
    {a1 : Act} (hs : 28 <= a1.tmps.size) {wx : World} {x : PaC} {S gx : Nat} (e3 : a1.eval (.tmp 3) = .int .i64 (S : Nat)) (e5 : a1.eval (.tmp 5) = .pointer (some ⟨gx, 0, none⟩)) (hb : BoxAt wx gx (paL x).toArray 25) (hx : Prims wx x.L x.nl x.xs) (hnote : x.v.note.size + x.nd + x.nl + weightPs x.xs <= 1048576) (hS : S <= 100000000)
    {Q : Exit -> Act -> World -> Prop} {id : Nat} (hend : ∀ (D : Unit) (a : Act) (w : World), SameOut a1 a [12, 13, 14, 15, 16, 17, 18, 19, 20, 21, 22, 23, 24, 25, 3] -> a.eval (.tmp 3) = .int .i64 (S + (1 + x.v.note.size + x.nd + (x.nl + weightPs x.xs)) : Nat) -> MnS wx (1) D w -> Q .normal a w) :
    (Code.region id ops true).wp Tryz.prog Q a1 wx := by
  refine region_inv (by kernel_rfl) hg (fun l a w => ∃ D : Unit, SameOut a1 a [12, 13, 14, 15, 16, 17, 18, 19, 20, 21, 22, 23, 24, 25, 3] /\ MnS wx (if l 11 = true then 1 else 0) D w /\ (l 0 = true -> a.eval (.tmp 12) = .int .i64 (S : Nat)) /\ (l 1 = true -> a.eval (.tmp 13) = .pointer (some ⟨gx, 0 + 1, none⟩)) /\ (l 2 = true -> a.eval (.tmp 14) = .string x.v.note) /\ (l 3 = true -> a.eval (.tmp 15) = .int .i64 (x.v.note.size : Nat)) /\ (l 4 = true -> a.eval (.tmp 16) = .int .i64 (1 + x.v.note.size : Nat)) /\ (l 5 = true -> a.eval (.tmp 17) = .pointer (some ⟨gx, 0 + 2, none⟩)) /\ (l 6 = true -> a.eval (.tmp 18) = .slice x.D x.nd x.cd) /\ (l 7 = true -> a.eval (.tmp 19) = .int .i64 (x.nd : Nat)) /\ (l 8 = true -> a.eval (.tmp 20) = .int .i64 (1 + x.v.note.size + x.nd : Nat)) /\ (l 9 = true -> a.eval (.tmp 21) = .pointer (some ⟨gx, 0 + 3, none⟩)) /\ (l 10 = true -> a.eval (.tmp 22) = .slice x.L x.nl x.cl) /\ (l 11 = true -> a.eval (.tmp 23) = .int .i64 (x.nl + weightPs x.xs : Nat)) /\ (l 12 = true -> a.eval (.tmp 24) = .int .i64 (1 + x.v.note.size + x.nd + (x.nl + weightPs x.xs) : Nat)) /\ (l 13 = true -> a.eval (.tmp 25) = .int .i64 (S + (1 + x.v.note.size + x.nd + (x.nl + weightPs x.xs)) : Nat)) /\ (l 14 = true -> a.eval (.tmp 3) = .int .i64 (S + (1 + x.v.note.size + x.nd + (x.nl + weightPs x.xs)) : Nat)) /\ (l 14 = true -> l 0 = true) /\ (l 14 = false -> a.eval (.tmp 3) = .int .i64 (S : Nat))) ?_ ?_ ?_
  · intro l a w i o ho hl hwait ⟨D, so, st, f0, f1, f2, f3, f4, f5, f6, f7, f8, f9, f10, f11, f12, f13, f14, d14_0, g3⟩
    have hi : i < 15 := by rw [← hn]; exact (Array.getElem?_eq_some_iff.1 ho).1
    have hc : i = 0 ∨ i = 1 ∨ i = 2 ∨ i = 3 ∨ i = 4 ∨ i = 5 ∨ i = 6 ∨ i = 7 ∨ i = 8 ∨ i = 9 ∨ i = 10 ∨ i = 11 ∨ i = 12 ∨ i = 13 ∨ i = 14 := by omega
    rcases hc with rfl | rfl | rfl | rfl | rfl | rfl | rfl | rfl | rfl | rfl | rfl | rfl | rfl | rfl | rfl
    · have n14 : l 14 = false := by cases hx : l 14 with | false => rfl | true => have := d14_0 hx; rw [hl] at this; cases this
      have st0 := st
      have ev : a.eval (.tmp 3) = .int .i64 (S : Nat) := g3 n14
      refine o0.move ?_
      rw [ev]
      exact ⟨D, (so.put (by decide) _), st, (fun _ => eval_put_same' _ _ _ (by rw [so.size]; show (12 : Nat) < _; omega)), (fun e => (eval_put_other' _ _ (by decide)).trans (f1 e)), (fun e => (eval_put_other' _ _ (by decide)).trans (f2 e)), (fun e => (eval_put_other' _ _ (by decide)).trans (f3 e)), (fun e => (eval_put_other' _ _ (by decide)).trans (f4 e)), (fun e => (eval_put_other' _ _ (by decide)).trans (f5 e)), (fun e => (eval_put_other' _ _ (by decide)).trans (f6 e)), (fun e => (eval_put_other' _ _ (by decide)).trans (f7 e)), (fun e => (eval_put_other' _ _ (by decide)).trans (f8 e)), (fun e => (eval_put_other' _ _ (by decide)).trans (f9 e)), (fun e => (eval_put_other' _ _ (by decide)).trans (f10 e)), (fun e => (eval_put_other' _ _ (by decide)).trans (f11 e)), (fun e => (eval_put_other' _ _ (by decide)).trans (f12 e)), (fun e => (eval_put_other' _ _ (by decide)).trans (f13 e)), (fun e => by rw [show more l 0 14 = l 14 from rfl, n14] at e; cases e), (fun _ => rfl), (fun e => (eval_put_other' _ _ (by decide)).trans (g3 e))⟩
    · have st0 := st
      refine o1.fieldRN (by omega) ((show _ = a1.eval _ from by simp only [Act.eval, Array.getD_eq_getD_getElem?, so.out 5 (by decide)]).trans e5) ?_
      exact ⟨D, (so.put (by decide) _), st, (fun e => (eval_put_other' _ _ (by decide)).trans (f0 e)), (fun _ => eval_put_same' _ _ _ (by rw [so.size]; show (13 : Nat) < _; omega)), (fun e => (eval_put_other' _ _ (by decide)).trans (f2 e)), (fun e => (eval_put_other' _ _ (by decide)).trans (f3 e)), (fun e => (eval_put_other' _ _ (by decide)).trans (f4 e)), (fun e => (eval_put_other' _ _ (by decide)).trans (f5 e)), (fun e => (eval_put_other' _ _ (by decide)).trans (f6 e)), (fun e => (eval_put_other' _ _ (by decide)).trans (f7 e)), (fun e => (eval_put_other' _ _ (by decide)).trans (f8 e)), (fun e => (eval_put_other' _ _ (by decide)).trans (f9 e)), (fun e => (eval_put_other' _ _ (by decide)).trans (f10 e)), (fun e => (eval_put_other' _ _ (by decide)).trans (f11 e)), (fun e => (eval_put_other' _ _ (by decide)).trans (f12 e)), (fun e => (eval_put_other' _ _ (by decide)).trans (f13 e)), (fun e => (eval_put_other' _ _ (by decide)).trans (f14 e)), d14_0, (fun e => (eval_put_other' _ _ (by decide)).trans (g3 e))⟩
    · have ws := o2.waits ho hwait
      have w1 := ws 1 (by simp)
      have st0 := st
      have hl0 : Later wx w := st
      refine o2.loadS7 (f1 w1) ((hb.later hl0).cell rfl) ?_
      exact ⟨D, (so.put (by decide) _), st, (fun e => (eval_put_other' _ _ (by decide)).trans (f0 e)), (fun e => (eval_put_other' _ _ (by decide)).trans (f1 e)), (fun _ => eval_put_same' _ _ _ (by rw [so.size]; show (14 : Nat) < _; omega)), (fun e => (eval_put_other' _ _ (by decide)).trans (f3 e)), (fun e => (eval_put_other' _ _ (by decide)).trans (f4 e)), (fun e => (eval_put_other' _ _ (by decide)).trans (f5 e)), (fun e => (eval_put_other' _ _ (by decide)).trans (f6 e)), (fun e => (eval_put_other' _ _ (by decide)).trans (f7 e)), (fun e => (eval_put_other' _ _ (by decide)).trans (f8 e)), (fun e => (eval_put_other' _ _ (by decide)).trans (f9 e)), (fun e => (eval_put_other' _ _ (by decide)).trans (f10 e)), (fun e => (eval_put_other' _ _ (by decide)).trans (f11 e)), (fun e => (eval_put_other' _ _ (by decide)).trans (f12 e)), (fun e => (eval_put_other' _ _ (by decide)).trans (f13 e)), (fun e => (eval_put_other' _ _ (by decide)).trans (f14 e)), d14_0, (fun e => (eval_put_other' _ _ (by decide)).trans (g3 e))⟩
    · have ws := o3.waits ho hwait
      have w2 := ws 2 (by simp)
      have st0 := st
      refine o3.lenS9 (f2 w2) ?_
      exact ⟨D, (so.put (by decide) _), st, (fun e => (eval_put_other' _ _ (by decide)).trans (f0 e)), (fun e => (eval_put_other' _ _ (by decide)).trans (f1 e)), (fun e => (eval_put_other' _ _ (by decide)).trans (f2 e)), (fun _ => eval_put_same' _ _ _ (by rw [so.size]; show (15 : Nat) < _; omega)), (fun e => (eval_put_other' _ _ (by decide)).trans (f4 e)), (fun e => (eval_put_other' _ _ (by decide)).trans (f5 e)), (fun e => (eval_put_other' _ _ (by decide)).trans (f6 e)), (fun e => (eval_put_other' _ _ (by decide)).trans (f7 e)), (fun e => (eval_put_other' _ _ (by decide)).trans (f8 e)), (fun e => (eval_put_other' _ _ (by decide)).trans (f9 e)), (fun e => (eval_put_other' _ _ (by decide)).trans (f10 e)), (fun e => (eval_put_other' _ _ (by decide)).trans (f11 e)), (fun e => (eval_put_other' _ _ (by decide)).trans (f12 e)), (fun e => (eval_put_other' _ _ (by decide)).trans (f13 e)), (fun e => (eval_put_other' _ _ (by decide)).trans (f14 e)), d14_0, (fun e => (eval_put_other' _ _ (by decide)).trans (g3 e))⟩
    · have ws := o4.waits ho hwait
      have w3 := ws 3 (by simp)
      have st0 := st
      refine o4.addCT (f3 w3) (by omega) ?_
      exact ⟨D, (so.put (by decide) _), st, (fun e => (eval_put_other' _ _ (by decide)).trans (f0 e)), (fun e => (eval_put_other' _ _ (by decide)).trans (f1 e)), (fun e => (eval_put_other' _ _ (by decide)).trans (f2 e)), (fun e => (eval_put_other' _ _ (by decide)).trans (f3 e)), (fun _ => eval_put_same' _ _ _ (by rw [so.size]; show (16 : Nat) < _; omega)), (fun e => (eval_put_other' _ _ (by decide)).trans (f5 e)), (fun e => (eval_put_other' _ _ (by decide)).trans (f6 e)), (fun e => (eval_put_other' _ _ (by decide)).trans (f7 e)), (fun e => (eval_put_other' _ _ (by decide)).trans (f8 e)), (fun e => (eval_put_other' _ _ (by decide)).trans (f9 e)), (fun e => (eval_put_other' _ _ (by decide)).trans (f10 e)), (fun e => (eval_put_other' _ _ (by decide)).trans (f11 e)), (fun e => (eval_put_other' _ _ (by decide)).trans (f12 e)), (fun e => (eval_put_other' _ _ (by decide)).trans (f13 e)), (fun e => (eval_put_other' _ _ (by decide)).trans (f14 e)), d14_0, (fun e => (eval_put_other' _ _ (by decide)).trans (g3 e))⟩
    · have st0 := st
      refine o5.fieldRN (by omega) ((show _ = a1.eval _ from by simp only [Act.eval, Array.getD_eq_getD_getElem?, so.out 5 (by decide)]).trans e5) ?_
      exact ⟨D, (so.put (by decide) _), st, (fun e => (eval_put_other' _ _ (by decide)).trans (f0 e)), (fun e => (eval_put_other' _ _ (by decide)).trans (f1 e)), (fun e => (eval_put_other' _ _ (by decide)).trans (f2 e)), (fun e => (eval_put_other' _ _ (by decide)).trans (f3 e)), (fun e => (eval_put_other' _ _ (by decide)).trans (f4 e)), (fun _ => eval_put_same' _ _ _ (by rw [so.size]; show (17 : Nat) < _; omega)), (fun e => (eval_put_other' _ _ (by decide)).trans (f6 e)), (fun e => (eval_put_other' _ _ (by decide)).trans (f7 e)), (fun e => (eval_put_other' _ _ (by decide)).trans (f8 e)), (fun e => (eval_put_other' _ _ (by decide)).trans (f9 e)), (fun e => (eval_put_other' _ _ (by decide)).trans (f10 e)), (fun e => (eval_put_other' _ _ (by decide)).trans (f11 e)), (fun e => (eval_put_other' _ _ (by decide)).trans (f12 e)), (fun e => (eval_put_other' _ _ (by decide)).trans (f13 e)), (fun e => (eval_put_other' _ _ (by decide)).trans (f14 e)), d14_0, (fun e => (eval_put_other' _ _ (by decide)).trans (g3 e))⟩
    · have ws := o6.waits ho hwait
      have w5 := ws 5 (by simp)
      have st0 := st
      have hl0 : Later wx w := st
      refine o6.loadD7 (f5 w5) ((hb.later hl0).cell rfl) ?_
      exact ⟨D, (so.put (by decide) _), st, (fun e => (eval_put_other' _ _ (by decide)).trans (f0 e)), (fun e => (eval_put_other' _ _ (by decide)).trans (f1 e)), (fun e => (eval_put_other' _ _ (by decide)).trans (f2 e)), (fun e => (eval_put_other' _ _ (by decide)).trans (f3 e)), (fun e => (eval_put_other' _ _ (by decide)).trans (f4 e)), (fun e => (eval_put_other' _ _ (by decide)).trans (f5 e)), (fun _ => eval_put_same' _ _ _ (by rw [so.size]; show (18 : Nat) < _; omega)), (fun e => (eval_put_other' _ _ (by decide)).trans (f7 e)), (fun e => (eval_put_other' _ _ (by decide)).trans (f8 e)), (fun e => (eval_put_other' _ _ (by decide)).trans (f9 e)), (fun e => (eval_put_other' _ _ (by decide)).trans (f10 e)), (fun e => (eval_put_other' _ _ (by decide)).trans (f11 e)), (fun e => (eval_put_other' _ _ (by decide)).trans (f12 e)), (fun e => (eval_put_other' _ _ (by decide)).trans (f13 e)), (fun e => (eval_put_other' _ _ (by decide)).trans (f14 e)), d14_0, (fun e => (eval_put_other' _ _ (by decide)).trans (g3 e))⟩
    · have ws := o7.waits ho hwait
      have w6 := ws 6 (by simp)
      have st0 := st
      refine o7.lenI7 (f6 w6) ?_
      exact ⟨D, (so.put (by decide) _), st, (fun e => (eval_put_other' _ _ (by decide)).trans (f0 e)), (fun e => (eval_put_other' _ _ (by decide)).trans (f1 e)), (fun e => (eval_put_other' _ _ (by decide)).trans (f2 e)), (fun e => (eval_put_other' _ _ (by decide)).trans (f3 e)), (fun e => (eval_put_other' _ _ (by decide)).trans (f4 e)), (fun e => (eval_put_other' _ _ (by decide)).trans (f5 e)), (fun e => (eval_put_other' _ _ (by decide)).trans (f6 e)), (fun _ => eval_put_same' _ _ _ (by rw [so.size]; show (19 : Nat) < _; omega)), (fun e => (eval_put_other' _ _ (by decide)).trans (f8 e)), (fun e => (eval_put_other' _ _ (by decide)).trans (f9 e)), (fun e => (eval_put_other' _ _ (by decide)).trans (f10 e)), (fun e => (eval_put_other' _ _ (by decide)).trans (f11 e)), (fun e => (eval_put_other' _ _ (by decide)).trans (f12 e)), (fun e => (eval_put_other' _ _ (by decide)).trans (f13 e)), (fun e => (eval_put_other' _ _ (by decide)).trans (f14 e)), d14_0, (fun e => (eval_put_other' _ _ (by decide)).trans (g3 e))⟩
    · have ws := o8.waits ho hwait
      have w4 := ws 4 (by simp)
      have w7 := ws 7 (by simp)
      have st0 := st
      refine o8.addTT (f4 w4) (f7 w7) (by omega) ?_
      exact ⟨D, (so.put (by decide) _), st, (fun e => (eval_put_other' _ _ (by decide)).trans (f0 e)), (fun e => (eval_put_other' _ _ (by decide)).trans (f1 e)), (fun e => (eval_put_other' _ _ (by decide)).trans (f2 e)), (fun e => (eval_put_other' _ _ (by decide)).trans (f3 e)), (fun e => (eval_put_other' _ _ (by decide)).trans (f4 e)), (fun e => (eval_put_other' _ _ (by decide)).trans (f5 e)), (fun e => (eval_put_other' _ _ (by decide)).trans (f6 e)), (fun e => (eval_put_other' _ _ (by decide)).trans (f7 e)), (fun _ => eval_put_same' _ _ _ (by rw [so.size]; show (20 : Nat) < _; omega)), (fun e => (eval_put_other' _ _ (by decide)).trans (f9 e)), (fun e => (eval_put_other' _ _ (by decide)).trans (f10 e)), (fun e => (eval_put_other' _ _ (by decide)).trans (f11 e)), (fun e => (eval_put_other' _ _ (by decide)).trans (f12 e)), (fun e => (eval_put_other' _ _ (by decide)).trans (f13 e)), (fun e => (eval_put_other' _ _ (by decide)).trans (f14 e)), d14_0, (fun e => (eval_put_other' _ _ (by decide)).trans (g3 e))⟩
    · have st0 := st
      refine o9.fieldRN (by omega) ((show _ = a1.eval _ from by simp only [Act.eval, Array.getD_eq_getD_getElem?, so.out 5 (by decide)]).trans e5) ?_
      exact ⟨D, (so.put (by decide) _), st, (fun e => (eval_put_other' _ _ (by decide)).trans (f0 e)), (fun e => (eval_put_other' _ _ (by decide)).trans (f1 e)), (fun e => (eval_put_other' _ _ (by decide)).trans (f2 e)), (fun e => (eval_put_other' _ _ (by decide)).trans (f3 e)), (fun e => (eval_put_other' _ _ (by decide)).trans (f4 e)), (fun e => (eval_put_other' _ _ (by decide)).trans (f5 e)), (fun e => (eval_put_other' _ _ (by decide)).trans (f6 e)), (fun e => (eval_put_other' _ _ (by decide)).trans (f7 e)), (fun e => (eval_put_other' _ _ (by decide)).trans (f8 e)), (fun _ => eval_put_same' _ _ _ (by rw [so.size]; show (21 : Nat) < _; omega)), (fun e => (eval_put_other' _ _ (by decide)).trans (f10 e)), (fun e => (eval_put_other' _ _ (by decide)).trans (f11 e)), (fun e => (eval_put_other' _ _ (by decide)).trans (f12 e)), (fun e => (eval_put_other' _ _ (by decide)).trans (f13 e)), (fun e => (eval_put_other' _ _ (by decide)).trans (f14 e)), d14_0, (fun e => (eval_put_other' _ _ (by decide)).trans (g3 e))⟩
    · have ws := o10.waits ho hwait
      have w9 := ws 9 (by simp)
      have st0 := st
      have hl0 : Later wx w := st
      refine o10.loadR7 (f9 w9) ((hb.later hl0).cell rfl) ?_
      exact ⟨D, (so.put (by decide) _), st, (fun e => (eval_put_other' _ _ (by decide)).trans (f0 e)), (fun e => (eval_put_other' _ _ (by decide)).trans (f1 e)), (fun e => (eval_put_other' _ _ (by decide)).trans (f2 e)), (fun e => (eval_put_other' _ _ (by decide)).trans (f3 e)), (fun e => (eval_put_other' _ _ (by decide)).trans (f4 e)), (fun e => (eval_put_other' _ _ (by decide)).trans (f5 e)), (fun e => (eval_put_other' _ _ (by decide)).trans (f6 e)), (fun e => (eval_put_other' _ _ (by decide)).trans (f7 e)), (fun e => (eval_put_other' _ _ (by decide)).trans (f8 e)), (fun e => (eval_put_other' _ _ (by decide)).trans (f9 e)), (fun _ => eval_put_same' _ _ _ (by rw [so.size]; show (22 : Nat) < _; omega)), (fun e => (eval_put_other' _ _ (by decide)).trans (f11 e)), (fun e => (eval_put_other' _ _ (by decide)).trans (f12 e)), (fun e => (eval_put_other' _ _ (by decide)).trans (f13 e)), (fun e => (eval_put_other' _ _ (by decide)).trans (f14 e)), d14_0, (fun e => (eval_put_other' _ _ (by decide)).trans (g3 e))⟩
    · have ws := o11.waits ho hwait
      have w10 := ws 10 (by simp)
      have st0 : MnS wx 0 D w := by
        have hst := st
        simp only [hl, Bool.false_eq_true, if_false] at hst
        exact hst
      have hl0 : Later wx w := st
      refine o11.call1 (enters_of Tryz.func39 (by kernel_rfl) rfl) (f10 w10) (manyP_any x.L x.nl x.cl x.xs w (hx.later hl0) (by omega) (by omega)) ?_
      rintro e w' ⟨rfl, hl'⟩
      have st1 : MnS wx 1 D w' := hl0.trans hl'
      have st2 : MnS wx (if (more l 11) 11 = true then 1 else 0) (D) w' := by
        rw [if_pos (show more l 11 11 = true from rfl)]
        exact st1
      exact ⟨_, rfl, ⟨D, (so.put (by decide) _), st2, (fun e => (eval_put_other' _ _ (by decide)).trans (f0 e)), (fun e => (eval_put_other' _ _ (by decide)).trans (f1 e)), (fun e => (eval_put_other' _ _ (by decide)).trans (f2 e)), (fun e => (eval_put_other' _ _ (by decide)).trans (f3 e)), (fun e => (eval_put_other' _ _ (by decide)).trans (f4 e)), (fun e => (eval_put_other' _ _ (by decide)).trans (f5 e)), (fun e => (eval_put_other' _ _ (by decide)).trans (f6 e)), (fun e => (eval_put_other' _ _ (by decide)).trans (f7 e)), (fun e => (eval_put_other' _ _ (by decide)).trans (f8 e)), (fun e => (eval_put_other' _ _ (by decide)).trans (f9 e)), (fun e => (eval_put_other' _ _ (by decide)).trans (f10 e)), (fun _ => eval_put_same' _ _ _ (by rw [so.size]; show (23 : Nat) < _; omega)), (fun e => (eval_put_other' _ _ (by decide)).trans (f12 e)), (fun e => (eval_put_other' _ _ (by decide)).trans (f13 e)), (fun e => (eval_put_other' _ _ (by decide)).trans (f14 e)), d14_0, (fun e => (eval_put_other' _ _ (by decide)).trans (g3 e))⟩⟩
    · have ws := o12.waits ho hwait
      have w8 := ws 8 (by simp)
      have w11 := ws 11 (by simp)
      have st0 := st
      refine o12.addTT (f8 w8) (f11 w11) (by omega) ?_
      exact ⟨D, (so.put (by decide) _), st, (fun e => (eval_put_other' _ _ (by decide)).trans (f0 e)), (fun e => (eval_put_other' _ _ (by decide)).trans (f1 e)), (fun e => (eval_put_other' _ _ (by decide)).trans (f2 e)), (fun e => (eval_put_other' _ _ (by decide)).trans (f3 e)), (fun e => (eval_put_other' _ _ (by decide)).trans (f4 e)), (fun e => (eval_put_other' _ _ (by decide)).trans (f5 e)), (fun e => (eval_put_other' _ _ (by decide)).trans (f6 e)), (fun e => (eval_put_other' _ _ (by decide)).trans (f7 e)), (fun e => (eval_put_other' _ _ (by decide)).trans (f8 e)), (fun e => (eval_put_other' _ _ (by decide)).trans (f9 e)), (fun e => (eval_put_other' _ _ (by decide)).trans (f10 e)), (fun e => (eval_put_other' _ _ (by decide)).trans (f11 e)), (fun _ => eval_put_same' _ _ _ (by rw [so.size]; show (24 : Nat) < _; omega)), (fun e => (eval_put_other' _ _ (by decide)).trans (f13 e)), (fun e => (eval_put_other' _ _ (by decide)).trans (f14 e)), d14_0, (fun e => (eval_put_other' _ _ (by decide)).trans (g3 e))⟩
    · have ws := o13.waits ho hwait
      have w0 := ws 0 (by simp)
      have w12 := ws 12 (by simp)
      have st0 := st
      refine o13.addTT (f0 w0) (f12 w12) (by omega) ?_
      exact ⟨D, (so.put (by decide) _), st, (fun e => (eval_put_other' _ _ (by decide)).trans (f0 e)), (fun e => (eval_put_other' _ _ (by decide)).trans (f1 e)), (fun e => (eval_put_other' _ _ (by decide)).trans (f2 e)), (fun e => (eval_put_other' _ _ (by decide)).trans (f3 e)), (fun e => (eval_put_other' _ _ (by decide)).trans (f4 e)), (fun e => (eval_put_other' _ _ (by decide)).trans (f5 e)), (fun e => (eval_put_other' _ _ (by decide)).trans (f6 e)), (fun e => (eval_put_other' _ _ (by decide)).trans (f7 e)), (fun e => (eval_put_other' _ _ (by decide)).trans (f8 e)), (fun e => (eval_put_other' _ _ (by decide)).trans (f9 e)), (fun e => (eval_put_other' _ _ (by decide)).trans (f10 e)), (fun e => (eval_put_other' _ _ (by decide)).trans (f11 e)), (fun e => (eval_put_other' _ _ (by decide)).trans (f12 e)), (fun _ => eval_put_same' _ _ _ (by rw [so.size]; show (25 : Nat) < _; omega)), (fun e => (eval_put_other' _ _ (by decide)).trans (f14 e)), d14_0, (fun e => (eval_put_other' _ _ (by decide)).trans (g3 e))⟩
    · have ws := o14.waits ho hwait
      have w13 := ws 13 (by simp)
      have w0 := ws 0 (by simp)
      have st0 := st
      refine o14.assign ?_
      rw [f13 w13]
      exact ⟨D, (so.put (by decide) _), st, (fun e => (eval_put_other' _ _ (by decide)).trans (f0 e)), (fun e => (eval_put_other' _ _ (by decide)).trans (f1 e)), (fun e => (eval_put_other' _ _ (by decide)).trans (f2 e)), (fun e => (eval_put_other' _ _ (by decide)).trans (f3 e)), (fun e => (eval_put_other' _ _ (by decide)).trans (f4 e)), (fun e => (eval_put_other' _ _ (by decide)).trans (f5 e)), (fun e => (eval_put_other' _ _ (by decide)).trans (f6 e)), (fun e => (eval_put_other' _ _ (by decide)).trans (f7 e)), (fun e => (eval_put_other' _ _ (by decide)).trans (f8 e)), (fun e => (eval_put_other' _ _ (by decide)).trans (f9 e)), (fun e => (eval_put_other' _ _ (by decide)).trans (f10 e)), (fun e => (eval_put_other' _ _ (by decide)).trans (f11 e)), (fun e => (eval_put_other' _ _ (by decide)).trans (f12 e)), (fun e => (eval_put_other' _ _ (by decide)).trans (f13 e)), (fun _ => eval_put_same' _ _ _ (by rw [so.size]; show (3 : Nat) < _; omega)), (fun _ => w0), (fun e => by have e2 : true = false := e; cases e2)⟩
  · intro l a w hall ⟨D, so, st, f0, f1, f2, f3, f4, f5, f6, f7, f8, f9, f10, f11, f12, f13, f14, d14_0, g3⟩
    rw [hn] at hall
    have hst : MnS wx 1 D w := by
      have hst := st
      simp only [hall 11 (by decide), if_true] at hst
      exact hst
    exact hend D a w so (f14 (hall 14 (by decide))) hst
  · have h0 : MnS wx 0 () { wx with drawn := wx.drawn + 1 } := (Later.refl wx).drew
    exact ⟨(), SameOut.refl _ _, h0, (fun e => by cases e), (fun e => by cases e), (fun e => by cases e), (fun e => by cases e), (fun e => by cases e), (fun e => by cases e), (fun e => by cases e), (fun e => by cases e), (fun e => by cases e), (fun e => by cases e), (fun e => by cases e), (fun e => by cases e), (fun e => by cases e), (fun e => by cases e), (fun e => by cases e), (fun e => by cases e), (fun _ => e3)⟩

def sumNl (xs : List PaC) : Nat := (xs.map (·.nl)).sum
theorem sumNl_take {xs : List PaC} {k : Nat} {x : PaC} (h : xs[k]? = some x) : sumNl (xs.take (k + 1)) = sumNl (xs.take k) + x.nl := by
  obtain ⟨hk, rfl⟩ := List.getElem?_eq_some_iff.1 h
  unfold sumNl
  rw [List.take_succ_eq_append_getElem hk, List.map_append, List.sum_append]
  simp
theorem weightNs_take_le (xs : List PaC) (k : Nat) : weightNs (xs.take k) <= weightNs xs := by
  have : weightNs xs = weightNs (xs.take k) + weightNs (xs.drop k) := by
    unfold weightNs
    rw [← List.sum_append, ← List.map_append, List.take_append_drop]
  omega
theorem sumNl_le (xs : List PaC) : sumNl xs <= weightNs xs := by
  induction xs with
  | nil => exact Nat.le_refl _
  | cons x xs ih =>
    simp only [sumNl, weightNs, List.map_cons, List.sum_cons] at ih ⊢
    simp only [weightN] at ih ⊢
    omega
def fewNs (n : Nat) (xs : List PaC) : Bool := decide (n <= 12) && (decide (sumNl xs <= 40) && decide (n + weightNs xs <= 6000))
theorem fewNs_parts {n : Nat} {xs : List PaC} (h : fewNs n xs = true) : n <= 12 /\ sumNl xs <= 40 /\ weightNs xs <= 6000 := by
  simp only [fewNs, Bool.and_eq_true, decide_eq_true_eq] at h
  omega

set_option maxRecDepth 100000 in
set_option maxHeartbeats 1600000 in
theorem many7_any (A : Option Addr) (n c : Nat) (xs : List PaC) (w : World) (hx : CameNs w A n c xs) :
    Calls Tryz.prog 24 #[.slice A n c] w fun e w' => e = .returned (.int .i64 (n + weightNs xs : Nat)) /\ Later w w' := by
  have hlen := hx.len
  have hwg := hx.weigh
  have HX := Lib.hid hx; clear hx
  go_enter Tryz.func24, Tryz.ntmps24
  go_wp2
  go_loopg [3, 8] (n + 1) (fun g s3 s8 wr => ∃ k : Nat, k <= n /\ n - k <= g /\ s8 = .int .i64 k /\ s3 = .int .i64 (k + weightNs (xs.take k) : Nat) /\ Hid (Later w wr))
  case atStart => exact ⟨0, Nat.zero_le _, by omega, rfl, by simp [weightNs], Later.refl w⟩
  case round =>
    obtain ⟨k, hk, hg, rfl, rfl, hwr⟩ := hrel
    by_cases hlt : k < n
    · obtain ⟨b, o, x, rfl, hz, g0, g1, g2, g3⟩ := (HX.out.row.later hwr.out).getN hlt
      have hcm := HX.out.each x (List.mem_of_getElem? hz)
      have hst := weightNs_take hz
      have hle := weightNs_take_le xs (k + 1)
      have hlb : Later wr (wr.alloc (.cells #[.int .i64 x.v.id, .string x.v.note, .slice x.D x.nd x.cd, .slice x.L x.nl x.cl] 25)) := (Later.refl wr).alloc _
      have HB : Hid (BoxAt (wr.alloc (.cells #[.int .i64 x.v.id, .string x.v.note, .slice x.D x.nd x.cd, .slice x.L x.nl x.cl] 25)) wr.heap.size (paL x).toArray 25) := BoxAt.made wr (paL x).toArray 25
      have HPR := Lib.hid ((hcm.prims.later hwr.out).later hlb)
      have HLB := Lib.hid (hwr.out.trans hlb)
      have HW : Hid (x.v.note.size + x.nd + x.nl + weightPs x.xs <= 1048576) := hcm.weigh
      have HST : Hid (k + weightNs (xs.take k) + (1 + x.v.note.size + x.nd + (x.nl + weightPs x.xs)) = (k + 1) + weightNs (xs.take (k + 1))) := by
        show _ = _
        rw [hst]
        unfold weightN
        omega
      have hS : k + weightNs (xs.take k) <= 100000000 := by omega
      clear hcm hst hle hlb hz hwr
      generalize k + weightNs (xs.take k) = S at HST hS ⊢
      go_upto_region 5 with fail
      refine many7_region rfl (by kernel_rfl) ⟨_, rfl, rfl, rfl, rfl, by kernel_rfl⟩ ⟨_, rfl, rfl, rfl, rfl, by kernel_rfl⟩ ⟨_, rfl, rfl, rfl, rfl, by kernel_rfl⟩ ⟨_, rfl, rfl, rfl, rfl, by kernel_rfl⟩ ⟨_, rfl, rfl, rfl, rfl, by kernel_rfl⟩ ⟨_, rfl, rfl, rfl, rfl, by kernel_rfl⟩ ⟨_, rfl, rfl, rfl, rfl, by kernel_rfl⟩ ⟨_, rfl, rfl, rfl, rfl, by kernel_rfl⟩ ⟨_, rfl, rfl, rfl, rfl, by kernel_rfl⟩ ⟨_, rfl, rfl, rfl, rfl, by kernel_rfl⟩ ⟨_, rfl, rfl, rfl, rfl, by kernel_rfl⟩ ⟨_, rfl, rfl, rfl, rfl, by kernel_rfl⟩ ⟨_, rfl, rfl, rfl, rfl, by kernel_rfl⟩ ⟨_, rfl, rfl, rfl, rfl, by kernel_rfl⟩ ⟨_, rfl, rfl, rfl, rfl, by kernel_rfl⟩ (of_decide_eq_true rfl) (x := x) rfl rfl HB.out HPR.out HW.out hS (fun D a V so e3 st => ?_)
      have HLV := Lib.hid (HLB.out.trans st)
      have ha := so.is
      simp only [List.foldl_cons, List.foldl_nil] at ha
      generalize a.eval (.tmp 12) = v12 at ha
      generalize a.eval (.tmp 13) = v13 at ha
      generalize a.eval (.tmp 14) = v14 at ha
      generalize a.eval (.tmp 15) = v15 at ha
      generalize a.eval (.tmp 16) = v16 at ha
      generalize a.eval (.tmp 17) = v17 at ha
      generalize a.eval (.tmp 18) = v18 at ha
      generalize a.eval (.tmp 19) = v19 at ha
      generalize a.eval (.tmp 20) = v20 at ha
      generalize a.eval (.tmp 21) = v21 at ha
      generalize a.eval (.tmp 22) = v22 at ha
      generalize a.eval (.tmp 23) = v23 at ha
      generalize a.eval (.tmp 24) = v24 at ha
      generalize a.eval (.tmp 25) = v25 at ha
      generalize a.eval (.tmp 3) = v3 at ha e3
      clear so st D
      subst ha
      subst e3
      simp only [Act.put, List.setIfInBounds_toArray, List.set_cons_zero, List.set_cons_succ]
      rw [HST.out]
      clear g0 g1 g2 g3 HB HPR HLB HW HST
      go_wp2
      go_roundg (n - (k + 1))
      case measure => omega
      case rel => exact ⟨k + 1, by omega, Nat.le_refl _, by go_num, rfl, HLV⟩
    · have HE : Hid (xs.take k = xs) := List.take_of_length_le (by omega)
      rw [HE.out]
      have hkn : k = n := by omega
      subst hkn
      go_wp2
      go_ret
      exact ⟨rfl, hwr.out⟩

set_option maxRecDepth 100000 in
set_option maxHeartbeats 1600000 in
theorem few7_any (A : Option Addr) (n c : Nat) (xs : List PaC) (w : World) (hx : CameNs w A n c xs) :
    Calls Tryz.prog 7 #[.slice A n c] w (Says (fewNs n xs) w) := by
  have hlen := hx.len
  have hwg := hx.weigh
  have HX := Lib.hid hx; clear hx
  go_enter Tryz.func7, Tryz.ntmps7
  go_wp2
  go_loopg [3, 8] (n + 1) (fun g s3 s8 wr => ∃ k : Nat, k <= n /\ n - k <= g /\ s8 = .int .i64 k /\ s3 = .int .i64 (sumNl (xs.take k) : Nat) /\ Hid (Later w wr))
  case atStart => exact ⟨0, Nat.zero_le _, by omega, rfl, by simp [sumNl], Later.refl w⟩
  case round =>
    obtain ⟨k, hk, hg, rfl, rfl, hwr⟩ := hrel
    by_cases hlt : k < n
    · obtain ⟨b, o, x, rfl, hz, g0, g1, g2, g3⟩ := (HX.out.row.later hwr.out).getN hlt
      have HST := Lib.hid (sumNl_take hz)
      have h1 := sumNl_le (xs.take k)
      have h2 := weightNs_take_le xs k
      have h3 := weightNs_mem (List.mem_of_getElem? hz)
      have h4 : x.nl <= 1048576 := by unfold weightN at h3; omega
      have hS : sumNl (xs.take k) <= 1048576 := by omega
      have HL := Lib.hid (hwr.out.trans ((Later.refl wr).alloc (.cells #[.int .i64 x.v.id, .string x.v.note, .slice x.D x.nd x.cd, .slice x.L x.nl x.cl] 25)))
      clear hz h1 h2 h3 hwr
      generalize sumNl (xs.take k) = S at HST hS ⊢
      go_wp2
      go_roundg (n - (k + 1))
      case measure => omega
      case rel => exact ⟨k + 1, by omega, Nat.le_refl _, by go_num, by rw [HST.out]; go_num, HL⟩
    · have HE : Hid (xs.take k = xs) := List.take_of_length_le (by omega)
      rw [HE.out]
      have h1 := sumNl_le xs
      have hS : sumNl xs <= 1048576 := by omega
      have HM := Lib.hid (many7_any A n c xs wr (HX.out.later hwr.out))
      have hW : n + weightNs xs <= 1048576 := by omega
      have HR : Hid (fewNs n xs = (decide (n <= 12) && (decide (sumNl xs <= 40) && decide (n + weightNs xs <= 6000)))) := Lib.hid rfl
      clear h1 HE
      generalize n + weightNs xs = W at HM HR hW
      generalize sumNl xs = S at HR hS ⊢
      by_cases b1 : n <= 12
      · by_cases b2 : S <= 40
        · go_wp2_with fail
          refine HM.out.mono ?_
          rintro e w2 ⟨rfl, hl2⟩
          have HL2 := Lib.hid (hwr.out.trans hl2)
          clear hl2 HM
          by_cases b3 : W <= 6000
          · have b3' : (W : Int) <= 6000 := by omega
            go_wp2
            go_ret
            exact ⟨by rw [HR.out, decide_eq_true b1, decide_eq_true b2, decide_eq_true b3]; rfl, HL2.out⟩
          · have b3' : ¬ (W : Int) <= 6000 := by omega
            go_wp2
            go_ret
            exact ⟨by rw [HR.out, decide_eq_true b1, decide_eq_true b2, decide_eq_false b3]; simp [b3'], HL2.out⟩
        · have b2' : ¬ (S : Int) <= 40 := by omega
          go_wp2
          go_ret
          exact ⟨by rw [HR.out, decide_eq_true b1, decide_eq_false b2]; rfl, hwr.out⟩
      · have b1' : ¬ (n : Int) <= 12 := by omega
        go_wp2
        go_ret
        exact ⟨by rw [HR.out, decide_eq_false b1]; rfl, hwr.out⟩

end Go.Proofs.YtlnjhimbgckdcaaGreat

/-
  A new row of one patch; append onto a row of patches that has no room (its capacity is its length).
-/
namespace Go.Proofs.YtlnjhimbgckdcaaGreat
open Go.RowKit Go.Maps

theorem OwnNs.one {e : TypeId} {w0 w : World} {x : PaC} (hl : Later w0 w) (hx : PaOk w x) : OwnNs e w0 (w.alloc (.cells (paL x).toArray e)) (.slice (some ⟨w.heap.size, 0, none⟩) 1 1) [x] := by
  refine ⟨⟨?_, fun cs hcs => ?_, hl.alloc _⟩, fun y hy => ?_, fun y hy g hg => ?_⟩
  · exact ⟨by simp [paL], .inr ⟨w.heap.size, 1, (paL x).toArray, rfl, hl.size, heap_alloc_new w _, Nat.le_refl _, by decide, rfl, by simp [paL]⟩⟩
  · simp at hcs; subst hcs; rfl
  · simp at hy; subst hy; exact hx.later4 _
  · simp at hy; subst hy
    simp only [Value.ownBlock, Option.some.injEq] at hg
    subst hg
    exact hx.away (Nat.le_refl _)
section
variable {P : Program} {e : TypeId} {w : World} {xs : List PaC}
theorem paL_cells {A : Option Addr} {b o m : Nat} {ys : List PaC} (hr : RowK 4 w A m (ys.map paL)) (hc : ∀ (j i : Nat) cs v, (ys.map paL)[j]? = some cs -> cs[i]? = some v -> w.cell? ⟨b, o + j * 4 + i, none⟩ = some v) : ∀ j u, (ys.map paL).flatten[j]? = some u -> w.cell? ((⟨b, o, none⟩ : Addr).add j) = some u := fun j u hu => by
  have hjl := (List.getElem?_eq_some_iff.1 hu).1
  rw [flat_length hr.2.1] at hjl
  have hq : j / 4 < (ys.map paL).length := (Nat.div_lt_iff_lt_mul (by decide)).2 hjl
  have hjk : j / 4 * 4 + j % 4 = j := by omega
  have hat := flat_at (i := j % 4) hr.2.1 (List.getElem?_eq_getElem hq) (Nat.mod_lt _ (by decide))
  rw [hjk, hu] at hat
  have := hc (j / 4) (j % 4) _ u (List.getElem?_eq_getElem hq) hat.symm
  rw [plain_add, ← hjk, ← Nat.add_assoc]
  exact this
end

end Go.Proofs.YtlnjhimbgckdcaaGreat
