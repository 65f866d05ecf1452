import Derived.Test.YtlnjhimbgckdcaaGreatPk29
import Derived.Test.YtlnjhimbgckdcaaGreatPk9
import Derived.Test.YtlnjhimbgckdcaaGreatPk15
import Derived.Test.YtlnjhimbgckdcaaGreatPk3
import Derived.Test.YtlnjhimbgckdcaaGreatPk4
import Derived.Test.YtlnjhimbgckdcaaGreatPk6
import Derived.Test.YtlnjhimbgckdcaaGreatPk30

/-
  The last statement of the document's own Swap of patches: in whatever order its operations come.
-/
namespace Go.Proofs.YtlnjhimbgckdcaaGreat
open Go.RowKit Go.Maps

structure RwS (wE : World) (g2 g3 g4 g5 : Nat) (p q y z : PaC) (s : Nat) (_ : Unit) (V : World) : Prop where
  later : Later wE V
  x2 : BoxAt V g2 (paL p).toArray 25
  x3 : BoxAt V g3 (paL q).toArray 25
  x4 : BoxAt V g4 (if 1 <= s then (paL y).toArray else #[.int .i64 0, .string ⟨#[]⟩, .slice none 0 0, .slice none 0 0]) 25
  x5 : BoxAt V g5 (if 2 <= s then (paL z).toArray else #[.int .i64 0, .string ⟨#[]⟩, .slice none 0 0, .slice none 0 0]) 25
  oy : PaOk V y
  oz : PaOk V z
structure RwG (wE : World) (g2 g3 g4 g5 : Nat) (y z : PaC) : Prop where
  l4 : wE.heap.size <= g4
  l5 : wE.heap.size <= g5
  n24 : g2 ≠ g4
  n25 : g2 ≠ g5
  n34 : g3 ≠ g4
  n35 : g3 ≠ g5
  n45 : g4 ≠ g5
  y4 : AwayN g4 y
  y5 : AwayN g5 y
  z4 : AwayN g4 z
  z5 : AwayN g5 z
section
variable {wE V V' : World} {g2 g3 g4 g5 : Nat} {p q y z : PaC} {D : Unit}
theorem RwS.st4 (h : RwS wE g2 g3 g4 g5 p q y z 0 D V) (hg : RwG wE g2 g3 g4 g5 y z) (hb : BoxAt V' g4 (paL y).toArray 25) (ht : Turned g4 V V') : RwS wE g2 g3 g4 g5 p q y z 1 D V' :=
  ⟨h.later.turn ht hg.l4, h.x2.other ht hg.n24, h.x3.other ht hg.n34, hb, h.x5.other ht (Ne.symm hg.n45), h.oy.off ht hg.y4, h.oz.off ht hg.z4⟩
theorem RwS.st5 (h : RwS wE g2 g3 g4 g5 p q y z 1 D V) (hg : RwG wE g2 g3 g4 g5 y z) (hb : BoxAt V' g5 (paL z).toArray 25) (ht : Turned g5 V V') : RwS wE g2 g3 g4 g5 p q y z 2 D V' :=
  ⟨h.later.turn ht hg.l5, h.x2.other ht hg.n25, h.x3.other ht hg.n35, h.x4.other ht hg.n45, hb, h.oy.off ht hg.y5, h.oz.off ht hg.z5⟩
end

set_option maxHeartbeats 1600000 in
theorem rwn_region {ops : Array Oper} (hn : ops.size = 19) (hg : goesBack ops = true)
    (o0 : OpIs ops 0 (.fieldAddr 25 (.tmp 3) 0) (some 52) [])
    (o1 : OpIs ops 1 (.load 3 (.tmp 52)) (some 53) [0])
    (o2 : OpIs ops 2 (.fieldAddr 25 (.tmp 3) 1) (some 54) [])
    (o3 : OpIs ops 3 (.load 9 (.tmp 54)) (some 55) [2])
    (o4 : OpIs ops 4 (.fieldAddr 25 (.tmp 3) 2) (some 56) [])
    (o5 : OpIs ops 5 (.load 22 (.tmp 56)) (some 57) [4])
    (o6 : OpIs ops 6 (.move (.tmp 7)) (some 58) [])
    (o7 : OpIs ops 7 (.build 25 #[(0, .tmp 53), (1, .tmp 55), (2, .tmp 57), (3, .tmp 58)]) (some 59) [1, 3, 5, 6])
    (o8 : OpIs ops 8 (.fieldAddr 25 (.tmp 2) 0) (some 60) [])
    (o9 : OpIs ops 9 (.load 3 (.tmp 60)) (some 61) [8])
    (o10 : OpIs ops 10 (.fieldAddr 25 (.tmp 2) 1) (some 62) [])
    (o11 : OpIs ops 11 (.load 9 (.tmp 62)) (some 63) [10])
    (o12 : OpIs ops 12 (.fieldAddr 25 (.tmp 2) 2) (some 64) [])
    (o13 : OpIs ops 13 (.load 22 (.tmp 64)) (some 65) [12])
    (o14 : OpIs ops 14 (.move (.tmp 8)) (some 66) [])
    (o15 : OpIs ops 15 (.build 25 #[(0, .tmp 61), (1, .tmp 63), (2, .tmp 65), (3, .tmp 66)]) (some 67) [9, 11, 13, 14])
    (o16 : OpIs ops 16 (.store 25 (.tmp 4) (.tmp 59)) none [7])
    (o17 : OpIs ops 17 (.store 25 (.tmp 5) (.tmp 67)) none [15, 16])
    (o18 : OpIs ops 18 (.assign (.const (.bool true))) (some 6) [17])
    {a1 : Act} (hs : 68 <= a1.tmps.size) {wx : World} {wE : World} {p q y z : PaC} {A B : Option Addr} {n c m d g2 g3 g4 g5 : Nat} (e2 : a1.eval (.tmp 2) = .pointer (some ⟨g2, 0, none⟩)) (e3 : a1.eval (.tmp 3) = .pointer (some ⟨g3, 0, none⟩)) (e4 : a1.eval (.tmp 4) = .pointer (some ⟨g4, 0, none⟩)) (e5 : a1.eval (.tmp 5) = .pointer (some ⟨g5, 0, none⟩)) (e7 : a1.eval (.tmp 7) = .slice A n c) (e8 : a1.eval (.tmp 8) = .slice B m d) (hG : RwG wE g2 g3 g4 g5 y z) (h00 : RwS wE g2 g3 g4 g5 p q y z 0 () wx) (hyv : (Value.agg #[.int .i64 q.v.id, .string q.v.note, .slice q.D q.nd q.cd, .slice A n c]) = paV y) (hzv : (Value.agg #[.int .i64 p.v.id, .string p.v.note, .slice p.D p.nd p.cd, .slice B m d]) = paV z)
    {Q : Exit -> Act -> World -> Prop} {id : Nat} (hend : ∀ (D : Unit) (a : Act) (w : World), SameOut a1 a [52, 53, 54, 55, 56, 57, 58, 59, 60, 61, 62, 63, 64, 65, 66, 67, 6] -> a.eval (.tmp 6) = .bool true -> RwS wE g2 g3 g4 g5 p q y z (2) D w -> Q .normal a w) :
    (Code.region id ops true).wp Tryz.prog Q a1 wx := by
  refine region_inv (by kernel_rfl) hg (fun l a w => ∃ D : Unit, SameOut a1 a [52, 53, 54, 55, 56, 57, 58, 59, 60, 61, 62, 63, 64, 65, 66, 67, 6] /\ RwS wE g2 g3 g4 g5 p q y z (if l 17 = true then 2 else (if l 16 = true then 1 else 0)) D w /\ (l 0 = true -> a.eval (.tmp 52) = .pointer (some ⟨g3, 0 + 0, none⟩)) /\ (l 1 = true -> a.eval (.tmp 53) = .int .i64 q.v.id) /\ (l 2 = true -> a.eval (.tmp 54) = .pointer (some ⟨g3, 0 + 1, none⟩)) /\ (l 3 = true -> a.eval (.tmp 55) = .string q.v.note) /\ (l 4 = true -> a.eval (.tmp 56) = .pointer (some ⟨g3, 0 + 2, none⟩)) /\ (l 5 = true -> a.eval (.tmp 57) = .slice q.D q.nd q.cd) /\ (l 6 = true -> a.eval (.tmp 58) = .slice A n c) /\ (l 7 = true -> a.eval (.tmp 59) = paV y) /\ (l 8 = true -> a.eval (.tmp 60) = .pointer (some ⟨g2, 0 + 0, none⟩)) /\ (l 9 = true -> a.eval (.tmp 61) = .int .i64 p.v.id) /\ (l 10 = true -> a.eval (.tmp 62) = .pointer (some ⟨g2, 0 + 1, none⟩)) /\ (l 11 = true -> a.eval (.tmp 63) = .string p.v.note) /\ (l 12 = true -> a.eval (.tmp 64) = .pointer (some ⟨g2, 0 + 2, none⟩)) /\ (l 13 = true -> a.eval (.tmp 65) = .slice p.D p.nd p.cd) /\ (l 14 = true -> a.eval (.tmp 66) = .slice B m d) /\ (l 15 = true -> a.eval (.tmp 67) = paV z) /\ (l 18 = true -> a.eval (.tmp 6) = .bool true) /\ (l 17 = true -> l 16 = true)) ?_ ?_ ?_
  · intro l a w i o ho hl hwait ⟨D, so, st, f0, f1, f2, f3, f4, f5, f6, f7, f8, f9, f10, f11, f12, f13, f14, f15, f18, d17_16⟩
    have hi : i < 19 := by rw [← hn]; exact (Array.getElem?_eq_some_iff.1 ho).1
    have hc : i = 0 ∨ i = 1 ∨ i = 2 ∨ i = 3 ∨ i = 4 ∨ i = 5 ∨ i = 6 ∨ i = 7 ∨ i = 8 ∨ i = 9 ∨ i = 10 ∨ i = 11 ∨ i = 12 ∨ i = 13 ∨ i = 14 ∨ i = 15 ∨ i = 16 ∨ i = 17 ∨ i = 18 := by omega
    rcases hc with rfl | rfl | rfl | rfl | rfl | rfl | rfl | rfl | rfl | rfl | rfl | rfl | rfl | rfl | rfl | rfl | rfl | rfl | rfl
    · have st0 := st
      refine o0.fieldRN (by omega) ((show _ = a1.eval _ from by simp only [Act.eval, Array.getD_eq_getD_getElem?, so.out 3 (by decide)]).trans e3) ?_
      exact ⟨D, (so.put (by decide) _), st, (fun _ => eval_put_same' _ _ _ (by rw [so.size]; show (52 : Nat) < _; omega)), (fun e => (eval_put_other' _ _ (by decide)).trans (f1 e)), (fun e => (eval_put_other' _ _ (by decide)).trans (f2 e)), (fun e => (eval_put_other' _ _ (by decide)).trans (f3 e)), (fun e => (eval_put_other' _ _ (by decide)).trans (f4 e)), (fun e => (eval_put_other' _ _ (by decide)).trans (f5 e)), (fun e => (eval_put_other' _ _ (by decide)).trans (f6 e)), (fun e => (eval_put_other' _ _ (by decide)).trans (f7 e)), (fun e => (eval_put_other' _ _ (by decide)).trans (f8 e)), (fun e => (eval_put_other' _ _ (by decide)).trans (f9 e)), (fun e => (eval_put_other' _ _ (by decide)).trans (f10 e)), (fun e => (eval_put_other' _ _ (by decide)).trans (f11 e)), (fun e => (eval_put_other' _ _ (by decide)).trans (f12 e)), (fun e => (eval_put_other' _ _ (by decide)).trans (f13 e)), (fun e => (eval_put_other' _ _ (by decide)).trans (f14 e)), (fun e => (eval_put_other' _ _ (by decide)).trans (f15 e)), (fun e => (eval_put_other' _ _ (by decide)).trans (f18 e)), d17_16⟩
    · have ws := o1.waits ho hwait
      have w0 := ws 0 (by simp)
      have st0 := st
      refine o1.loadI7 (f0 w0) (st.x3.cell rfl) ?_
      exact ⟨D, (so.put (by decide) _), st, (fun e => (eval_put_other' _ _ (by decide)).trans (f0 e)), (fun _ => eval_put_same' _ _ _ (by rw [so.size]; show (53 : Nat) < _; omega)), (fun e => (eval_put_other' _ _ (by decide)).trans (f2 e)), (fun e => (eval_put_other' _ _ (by decide)).trans (f3 e)), (fun e => (eval_put_other' _ _ (by decide)).trans (f4 e)), (fun e => (eval_put_other' _ _ (by decide)).trans (f5 e)), (fun e => (eval_put_other' _ _ (by decide)).trans (f6 e)), (fun e => (eval_put_other' _ _ (by decide)).trans (f7 e)), (fun e => (eval_put_other' _ _ (by decide)).trans (f8 e)), (fun e => (eval_put_other' _ _ (by decide)).trans (f9 e)), (fun e => (eval_put_other' _ _ (by decide)).trans (f10 e)), (fun e => (eval_put_other' _ _ (by decide)).trans (f11 e)), (fun e => (eval_put_other' _ _ (by decide)).trans (f12 e)), (fun e => (eval_put_other' _ _ (by decide)).trans (f13 e)), (fun e => (eval_put_other' _ _ (by decide)).trans (f14 e)), (fun e => (eval_put_other' _ _ (by decide)).trans (f15 e)), (fun e => (eval_put_other' _ _ (by decide)).trans (f18 e)), d17_16⟩
    · have st0 := st
      refine o2.fieldRN (by omega) ((show _ = a1.eval _ from by simp only [Act.eval, Array.getD_eq_getD_getElem?, so.out 3 (by decide)]).trans e3) ?_
      exact ⟨D, (so.put (by decide) _), st, (fun e => (eval_put_other' _ _ (by decide)).trans (f0 e)), (fun e => (eval_put_other' _ _ (by decide)).trans (f1 e)), (fun _ => eval_put_same' _ _ _ (by rw [so.size]; show (54 : Nat) < _; omega)), (fun e => (eval_put_other' _ _ (by decide)).trans (f3 e)), (fun e => (eval_put_other' _ _ (by decide)).trans (f4 e)), (fun e => (eval_put_other' _ _ (by decide)).trans (f5 e)), (fun e => (eval_put_other' _ _ (by decide)).trans (f6 e)), (fun e => (eval_put_other' _ _ (by decide)).trans (f7 e)), (fun e => (eval_put_other' _ _ (by decide)).trans (f8 e)), (fun e => (eval_put_other' _ _ (by decide)).trans (f9 e)), (fun e => (eval_put_other' _ _ (by decide)).trans (f10 e)), (fun e => (eval_put_other' _ _ (by decide)).trans (f11 e)), (fun e => (eval_put_other' _ _ (by decide)).trans (f12 e)), (fun e => (eval_put_other' _ _ (by decide)).trans (f13 e)), (fun e => (eval_put_other' _ _ (by decide)).trans (f14 e)), (fun e => (eval_put_other' _ _ (by decide)).trans (f15 e)), (fun e => (eval_put_other' _ _ (by decide)).trans (f18 e)), d17_16⟩
    · have ws := o3.waits ho hwait
      have w2 := ws 2 (by simp)
      have st0 := st
      refine o3.loadS7 (f2 w2) (st.x3.cell rfl) ?_
      exact ⟨D, (so.put (by decide) _), st, (fun e => (eval_put_other' _ _ (by decide)).trans (f0 e)), (fun e => (eval_put_other' _ _ (by decide)).trans (f1 e)), (fun e => (eval_put_other' _ _ (by decide)).trans (f2 e)), (fun _ => eval_put_same' _ _ _ (by rw [so.size]; show (55 : Nat) < _; omega)), (fun e => (eval_put_other' _ _ (by decide)).trans (f4 e)), (fun e => (eval_put_other' _ _ (by decide)).trans (f5 e)), (fun e => (eval_put_other' _ _ (by decide)).trans (f6 e)), (fun e => (eval_put_other' _ _ (by decide)).trans (f7 e)), (fun e => (eval_put_other' _ _ (by decide)).trans (f8 e)), (fun e => (eval_put_other' _ _ (by decide)).trans (f9 e)), (fun e => (eval_put_other' _ _ (by decide)).trans (f10 e)), (fun e => (eval_put_other' _ _ (by decide)).trans (f11 e)), (fun e => (eval_put_other' _ _ (by decide)).trans (f12 e)), (fun e => (eval_put_other' _ _ (by decide)).trans (f13 e)), (fun e => (eval_put_other' _ _ (by decide)).trans (f14 e)), (fun e => (eval_put_other' _ _ (by decide)).trans (f15 e)), (fun e => (eval_put_other' _ _ (by decide)).trans (f18 e)), d17_16⟩
    · have st0 := st
      refine o4.fieldRN (by omega) ((show _ = a1.eval _ from by simp only [Act.eval, Array.getD_eq_getD_getElem?, so.out 3 (by decide)]).trans e3) ?_
      exact ⟨D, (so.put (by decide) _), st, (fun e => (eval_put_other' _ _ (by decide)).trans (f0 e)), (fun e => (eval_put_other' _ _ (by decide)).trans (f1 e)), (fun e => (eval_put_other' _ _ (by decide)).trans (f2 e)), (fun e => (eval_put_other' _ _ (by decide)).trans (f3 e)), (fun _ => eval_put_same' _ _ _ (by rw [so.size]; show (56 : Nat) < _; omega)), (fun e => (eval_put_other' _ _ (by decide)).trans (f5 e)), (fun e => (eval_put_other' _ _ (by decide)).trans (f6 e)), (fun e => (eval_put_other' _ _ (by decide)).trans (f7 e)), (fun e => (eval_put_other' _ _ (by decide)).trans (f8 e)), (fun e => (eval_put_other' _ _ (by decide)).trans (f9 e)), (fun e => (eval_put_other' _ _ (by decide)).trans (f10 e)), (fun e => (eval_put_other' _ _ (by decide)).trans (f11 e)), (fun e => (eval_put_other' _ _ (by decide)).trans (f12 e)), (fun e => (eval_put_other' _ _ (by decide)).trans (f13 e)), (fun e => (eval_put_other' _ _ (by decide)).trans (f14 e)), (fun e => (eval_put_other' _ _ (by decide)).trans (f15 e)), (fun e => (eval_put_other' _ _ (by decide)).trans (f18 e)), d17_16⟩
    · have ws := o5.waits ho hwait
      have w4 := ws 4 (by simp)
      have st0 := st
      refine o5.loadD7 (f4 w4) (st.x3.cell rfl) ?_
      exact ⟨D, (so.put (by decide) _), st, (fun e => (eval_put_other' _ _ (by decide)).trans (f0 e)), (fun e => (eval_put_other' _ _ (by decide)).trans (f1 e)), (fun e => (eval_put_other' _ _ (by decide)).trans (f2 e)), (fun e => (eval_put_other' _ _ (by decide)).trans (f3 e)), (fun e => (eval_put_other' _ _ (by decide)).trans (f4 e)), (fun _ => eval_put_same' _ _ _ (by rw [so.size]; show (57 : Nat) < _; omega)), (fun e => (eval_put_other' _ _ (by decide)).trans (f6 e)), (fun e => (eval_put_other' _ _ (by decide)).trans (f7 e)), (fun e => (eval_put_other' _ _ (by decide)).trans (f8 e)), (fun e => (eval_put_other' _ _ (by decide)).trans (f9 e)), (fun e => (eval_put_other' _ _ (by decide)).trans (f10 e)), (fun e => (eval_put_other' _ _ (by decide)).trans (f11 e)), (fun e => (eval_put_other' _ _ (by decide)).trans (f12 e)), (fun e => (eval_put_other' _ _ (by decide)).trans (f13 e)), (fun e => (eval_put_other' _ _ (by decide)).trans (f14 e)), (fun e => (eval_put_other' _ _ (by decide)).trans (f15 e)), (fun e => (eval_put_other' _ _ (by decide)).trans (f18 e)), d17_16⟩
    · have st0 := st
      have ev : a.eval (.tmp 7) = .slice A n c := ((show _ = a1.eval _ from by simp only [Act.eval, Array.getD_eq_getD_getElem?, so.out 7 (by decide)]).trans e7)
      refine o6.move ?_
      rw [ev]
      exact ⟨D, (so.put (by decide) _), st, (fun e => (eval_put_other' _ _ (by decide)).trans (f0 e)), (fun e => (eval_put_other' _ _ (by decide)).trans (f1 e)), (fun e => (eval_put_other' _ _ (by decide)).trans (f2 e)), (fun e => (eval_put_other' _ _ (by decide)).trans (f3 e)), (fun e => (eval_put_other' _ _ (by decide)).trans (f4 e)), (fun e => (eval_put_other' _ _ (by decide)).trans (f5 e)), (fun _ => eval_put_same' _ _ _ (by rw [so.size]; show (58 : Nat) < _; omega)), (fun e => (eval_put_other' _ _ (by decide)).trans (f7 e)), (fun e => (eval_put_other' _ _ (by decide)).trans (f8 e)), (fun e => (eval_put_other' _ _ (by decide)).trans (f9 e)), (fun e => (eval_put_other' _ _ (by decide)).trans (f10 e)), (fun e => (eval_put_other' _ _ (by decide)).trans (f11 e)), (fun e => (eval_put_other' _ _ (by decide)).trans (f12 e)), (fun e => (eval_put_other' _ _ (by decide)).trans (f13 e)), (fun e => (eval_put_other' _ _ (by decide)).trans (f14 e)), (fun e => (eval_put_other' _ _ (by decide)).trans (f15 e)), (fun e => (eval_put_other' _ _ (by decide)).trans (f18 e)), d17_16⟩
    · have ws := o7.waits ho hwait
      have w1 := ws 1 (by simp)
      have w3 := ws 3 (by simp)
      have w5 := ws 5 (by simp)
      have w6 := ws 6 (by simp)
      have st0 := st
      refine o7.buildOld (f1 w1) (f3 w3) (f5 w5) (f6 w6) rfl rfl ?_
      rw [hyv]
      exact ⟨D, (so.put (by decide) _), st, (fun e => (eval_put_other' _ _ (by decide)).trans (f0 e)), (fun e => (eval_put_other' _ _ (by decide)).trans (f1 e)), (fun e => (eval_put_other' _ _ (by decide)).trans (f2 e)), (fun e => (eval_put_other' _ _ (by decide)).trans (f3 e)), (fun e => (eval_put_other' _ _ (by decide)).trans (f4 e)), (fun e => (eval_put_other' _ _ (by decide)).trans (f5 e)), (fun e => (eval_put_other' _ _ (by decide)).trans (f6 e)), (fun _ => eval_put_same' _ _ _ (by rw [so.size]; show (59 : Nat) < _; omega)), (fun e => (eval_put_other' _ _ (by decide)).trans (f8 e)), (fun e => (eval_put_other' _ _ (by decide)).trans (f9 e)), (fun e => (eval_put_other' _ _ (by decide)).trans (f10 e)), (fun e => (eval_put_other' _ _ (by decide)).trans (f11 e)), (fun e => (eval_put_other' _ _ (by decide)).trans (f12 e)), (fun e => (eval_put_other' _ _ (by decide)).trans (f13 e)), (fun e => (eval_put_other' _ _ (by decide)).trans (f14 e)), (fun e => (eval_put_other' _ _ (by decide)).trans (f15 e)), (fun e => (eval_put_other' _ _ (by decide)).trans (f18 e)), d17_16⟩
    · have st0 := st
      refine o8.fieldRN (by omega) ((show _ = a1.eval _ from by simp only [Act.eval, Array.getD_eq_getD_getElem?, so.out 2 (by decide)]).trans e2) ?_
      exact ⟨D, (so.put (by decide) _), st, (fun e => (eval_put_other' _ _ (by decide)).trans (f0 e)), (fun e => (eval_put_other' _ _ (by decide)).trans (f1 e)), (fun e => (eval_put_other' _ _ (by decide)).trans (f2 e)), (fun e => (eval_put_other' _ _ (by decide)).trans (f3 e)), (fun e => (eval_put_other' _ _ (by decide)).trans (f4 e)), (fun e => (eval_put_other' _ _ (by decide)).trans (f5 e)), (fun e => (eval_put_other' _ _ (by decide)).trans (f6 e)), (fun e => (eval_put_other' _ _ (by decide)).trans (f7 e)), (fun _ => eval_put_same' _ _ _ (by rw [so.size]; show (60 : Nat) < _; omega)), (fun e => (eval_put_other' _ _ (by decide)).trans (f9 e)), (fun e => (eval_put_other' _ _ (by decide)).trans (f10 e)), (fun e => (eval_put_other' _ _ (by decide)).trans (f11 e)), (fun e => (eval_put_other' _ _ (by decide)).trans (f12 e)), (fun e => (eval_put_other' _ _ (by decide)).trans (f13 e)), (fun e => (eval_put_other' _ _ (by decide)).trans (f14 e)), (fun e => (eval_put_other' _ _ (by decide)).trans (f15 e)), (fun e => (eval_put_other' _ _ (by decide)).trans (f18 e)), d17_16⟩
    · have ws := o9.waits ho hwait
      have w8 := ws 8 (by simp)
      have st0 := st
      refine o9.loadI7 (f8 w8) (st.x2.cell rfl) ?_
      exact ⟨D, (so.put (by decide) _), st, (fun e => (eval_put_other' _ _ (by decide)).trans (f0 e)), (fun e => (eval_put_other' _ _ (by decide)).trans (f1 e)), (fun e => (eval_put_other' _ _ (by decide)).trans (f2 e)), (fun e => (eval_put_other' _ _ (by decide)).trans (f3 e)), (fun e => (eval_put_other' _ _ (by decide)).trans (f4 e)), (fun e => (eval_put_other' _ _ (by decide)).trans (f5 e)), (fun e => (eval_put_other' _ _ (by decide)).trans (f6 e)), (fun e => (eval_put_other' _ _ (by decide)).trans (f7 e)), (fun e => (eval_put_other' _ _ (by decide)).trans (f8 e)), (fun _ => eval_put_same' _ _ _ (by rw [so.size]; show (61 : Nat) < _; omega)), (fun e => (eval_put_other' _ _ (by decide)).trans (f10 e)), (fun e => (eval_put_other' _ _ (by decide)).trans (f11 e)), (fun e => (eval_put_other' _ _ (by decide)).trans (f12 e)), (fun e => (eval_put_other' _ _ (by decide)).trans (f13 e)), (fun e => (eval_put_other' _ _ (by decide)).trans (f14 e)), (fun e => (eval_put_other' _ _ (by decide)).trans (f15 e)), (fun e => (eval_put_other' _ _ (by decide)).trans (f18 e)), d17_16⟩
    · have st0 := st
      refine o10.fieldRN (by omega) ((show _ = a1.eval _ from by simp only [Act.eval, Array.getD_eq_getD_getElem?, so.out 2 (by decide)]).trans e2) ?_
      exact ⟨D, (so.put (by decide) _), st, (fun e => (eval_put_other' _ _ (by decide)).trans (f0 e)), (fun e => (eval_put_other' _ _ (by decide)).trans (f1 e)), (fun e => (eval_put_other' _ _ (by decide)).trans (f2 e)), (fun e => (eval_put_other' _ _ (by decide)).trans (f3 e)), (fun e => (eval_put_other' _ _ (by decide)).trans (f4 e)), (fun e => (eval_put_other' _ _ (by decide)).trans (f5 e)), (fun e => (eval_put_other' _ _ (by decide)).trans (f6 e)), (fun e => (eval_put_other' _ _ (by decide)).trans (f7 e)), (fun e => (eval_put_other' _ _ (by decide)).trans (f8 e)), (fun e => (eval_put_other' _ _ (by decide)).trans (f9 e)), (fun _ => eval_put_same' _ _ _ (by rw [so.size]; show (62 : Nat) < _; omega)), (fun e => (eval_put_other' _ _ (by decide)).trans (f11 e)), (fun e => (eval_put_other' _ _ (by decide)).trans (f12 e)), (fun e => (eval_put_other' _ _ (by decide)).trans (f13 e)), (fun e => (eval_put_other' _ _ (by decide)).trans (f14 e)), (fun e => (eval_put_other' _ _ (by decide)).trans (f15 e)), (fun e => (eval_put_other' _ _ (by decide)).trans (f18 e)), d17_16⟩
    · have ws := o11.waits ho hwait
      have w10 := ws 10 (by simp)
      have st0 := st
      refine o11.loadS7 (f10 w10) (st.x2.cell rfl) ?_
      exact ⟨D, (so.put (by decide) _), st, (fun e => (eval_put_other' _ _ (by decide)).trans (f0 e)), (fun e => (eval_put_other' _ _ (by decide)).trans (f1 e)), (fun e => (eval_put_other' _ _ (by decide)).trans (f2 e)), (fun e => (eval_put_other' _ _ (by decide)).trans (f3 e)), (fun e => (eval_put_other' _ _ (by decide)).trans (f4 e)), (fun e => (eval_put_other' _ _ (by decide)).trans (f5 e)), (fun e => (eval_put_other' _ _ (by decide)).trans (f6 e)), (fun e => (eval_put_other' _ _ (by decide)).trans (f7 e)), (fun e => (eval_put_other' _ _ (by decide)).trans (f8 e)), (fun e => (eval_put_other' _ _ (by decide)).trans (f9 e)), (fun e => (eval_put_other' _ _ (by decide)).trans (f10 e)), (fun _ => eval_put_same' _ _ _ (by rw [so.size]; show (63 : Nat) < _; omega)), (fun e => (eval_put_other' _ _ (by decide)).trans (f12 e)), (fun e => (eval_put_other' _ _ (by decide)).trans (f13 e)), (fun e => (eval_put_other' _ _ (by decide)).trans (f14 e)), (fun e => (eval_put_other' _ _ (by decide)).trans (f15 e)), (fun e => (eval_put_other' _ _ (by decide)).trans (f18 e)), d17_16⟩
    · have st0 := st
      refine o12.fieldRN (by omega) ((show _ = a1.eval _ from by simp only [Act.eval, Array.getD_eq_getD_getElem?, so.out 2 (by decide)]).trans e2) ?_
      exact ⟨D, (so.put (by decide) _), st, (fun e => (eval_put_other' _ _ (by decide)).trans (f0 e)), (fun e => (eval_put_other' _ _ (by decide)).trans (f1 e)), (fun e => (eval_put_other' _ _ (by decide)).trans (f2 e)), (fun e => (eval_put_other' _ _ (by decide)).trans (f3 e)), (fun e => (eval_put_other' _ _ (by decide)).trans (f4 e)), (fun e => (eval_put_other' _ _ (by decide)).trans (f5 e)), (fun e => (eval_put_other' _ _ (by decide)).trans (f6 e)), (fun e => (eval_put_other' _ _ (by decide)).trans (f7 e)), (fun e => (eval_put_other' _ _ (by decide)).trans (f8 e)), (fun e => (eval_put_other' _ _ (by decide)).trans (f9 e)), (fun e => (eval_put_other' _ _ (by decide)).trans (f10 e)), (fun e => (eval_put_other' _ _ (by decide)).trans (f11 e)), (fun _ => eval_put_same' _ _ _ (by rw [so.size]; show (64 : Nat) < _; omega)), (fun e => (eval_put_other' _ _ (by decide)).trans (f13 e)), (fun e => (eval_put_other' _ _ (by decide)).trans (f14 e)), (fun e => (eval_put_other' _ _ (by decide)).trans (f15 e)), (fun e => (eval_put_other' _ _ (by decide)).trans (f18 e)), d17_16⟩
    · have ws := o13.waits ho hwait
      have w12 := ws 12 (by simp)
      have st0 := st
      refine o13.loadD7 (f12 w12) (st.x2.cell rfl) ?_
      exact ⟨D, (so.put (by decide) _), st, (fun e => (eval_put_other' _ _ (by decide)).trans (f0 e)), (fun e => (eval_put_other' _ _ (by decide)).trans (f1 e)), (fun e => (eval_put_other' _ _ (by decide)).trans (f2 e)), (fun e => (eval_put_other' _ _ (by decide)).trans (f3 e)), (fun e => (eval_put_other' _ _ (by decide)).trans (f4 e)), (fun e => (eval_put_other' _ _ (by decide)).trans (f5 e)), (fun e => (eval_put_other' _ _ (by decide)).trans (f6 e)), (fun e => (eval_put_other' _ _ (by decide)).trans (f7 e)), (fun e => (eval_put_other' _ _ (by decide)).trans (f8 e)), (fun e => (eval_put_other' _ _ (by decide)).trans (f9 e)), (fun e => (eval_put_other' _ _ (by decide)).trans (f10 e)), (fun e => (eval_put_other' _ _ (by decide)).trans (f11 e)), (fun e => (eval_put_other' _ _ (by decide)).trans (f12 e)), (fun _ => eval_put_same' _ _ _ (by rw [so.size]; show (65 : Nat) < _; omega)), (fun e => (eval_put_other' _ _ (by decide)).trans (f14 e)), (fun e => (eval_put_other' _ _ (by decide)).trans (f15 e)), (fun e => (eval_put_other' _ _ (by decide)).trans (f18 e)), d17_16⟩
    · have st0 := st
      have ev : a.eval (.tmp 8) = .slice B m d := ((show _ = a1.eval _ from by simp only [Act.eval, Array.getD_eq_getD_getElem?, so.out 8 (by decide)]).trans e8)
      refine o14.move ?_
      rw [ev]
      exact ⟨D, (so.put (by decide) _), st, (fun e => (eval_put_other' _ _ (by decide)).trans (f0 e)), (fun e => (eval_put_other' _ _ (by decide)).trans (f1 e)), (fun e => (eval_put_other' _ _ (by decide)).trans (f2 e)), (fun e => (eval_put_other' _ _ (by decide)).trans (f3 e)), (fun e => (eval_put_other' _ _ (by decide)).trans (f4 e)), (fun e => (eval_put_other' _ _ (by decide)).trans (f5 e)), (fun e => (eval_put_other' _ _ (by decide)).trans (f6 e)), (fun e => (eval_put_other' _ _ (by decide)).trans (f7 e)), (fun e => (eval_put_other' _ _ (by decide)).trans (f8 e)), (fun e => (eval_put_other' _ _ (by decide)).trans (f9 e)), (fun e => (eval_put_other' _ _ (by decide)).trans (f10 e)), (fun e => (eval_put_other' _ _ (by decide)).trans (f11 e)), (fun e => (eval_put_other' _ _ (by decide)).trans (f12 e)), (fun e => (eval_put_other' _ _ (by decide)).trans (f13 e)), (fun _ => eval_put_same' _ _ _ (by rw [so.size]; show (66 : Nat) < _; omega)), (fun e => (eval_put_other' _ _ (by decide)).trans (f15 e)), (fun e => (eval_put_other' _ _ (by decide)).trans (f18 e)), d17_16⟩
    · have ws := o15.waits ho hwait
      have w9 := ws 9 (by simp)
      have w11 := ws 11 (by simp)
      have w13 := ws 13 (by simp)
      have w14 := ws 14 (by simp)
      have st0 := st
      refine o15.buildOld (f9 w9) (f11 w11) (f13 w13) (f14 w14) rfl rfl ?_
      rw [hzv]
      exact ⟨D, (so.put (by decide) _), st, (fun e => (eval_put_other' _ _ (by decide)).trans (f0 e)), (fun e => (eval_put_other' _ _ (by decide)).trans (f1 e)), (fun e => (eval_put_other' _ _ (by decide)).trans (f2 e)), (fun e => (eval_put_other' _ _ (by decide)).trans (f3 e)), (fun e => (eval_put_other' _ _ (by decide)).trans (f4 e)), (fun e => (eval_put_other' _ _ (by decide)).trans (f5 e)), (fun e => (eval_put_other' _ _ (by decide)).trans (f6 e)), (fun e => (eval_put_other' _ _ (by decide)).trans (f7 e)), (fun e => (eval_put_other' _ _ (by decide)).trans (f8 e)), (fun e => (eval_put_other' _ _ (by decide)).trans (f9 e)), (fun e => (eval_put_other' _ _ (by decide)).trans (f10 e)), (fun e => (eval_put_other' _ _ (by decide)).trans (f11 e)), (fun e => (eval_put_other' _ _ (by decide)).trans (f12 e)), (fun e => (eval_put_other' _ _ (by decide)).trans (f13 e)), (fun e => (eval_put_other' _ _ (by decide)).trans (f14 e)), (fun _ => eval_put_same' _ _ _ (by rw [so.size]; show (67 : Nat) < _; omega)), (fun e => (eval_put_other' _ _ (by decide)).trans (f18 e)), d17_16⟩
    · have ws := o16.waits ho hwait
      have w7 := ws 7 (by simp)
      have n17 : l 17 = false := by cases hx : l 17 with | false => rfl | true => have := d17_16 hx; rw [hl] at this; cases this
      have st0 : RwS wE g2 g3 g4 g5 p q y z 0 D w := by
        have hst := st
        simp only [hl, n17, Bool.false_eq_true, if_false] at hst
        exact hst
      refine o16.storeA Tryz.rpatchSize ((show _ = a1.eval _ from by simp only [Act.eval, Array.getD_eq_getD_getElem?, so.out 4 (by decide)]).trans e4) (f7 w7) st0.x4 rfl ?_
      intro w' hb' ht'
      have st1 := st0.st4 hG hb' ht'
      have st2 : RwS wE g2 g3 g4 g5 p q y z (if (more l 16) 17 = true then 2 else (if (more l 16) 16 = true then 1 else 0)) (D) w' := by
        rw [if_neg (show ¬ (more l 16 17 = true) from by rw [show more l 16 17 = l 17 from rfl, n17]; simp), if_pos (show more l 16 16 = true from rfl)]
        exact st1
      exact ⟨D, so, st2, f0, f1, f2, f3, f4, f5, f6, f7, f8, f9, f10, f11, f12, f13, f14, f15, f18, (fun _ => rfl)⟩
    · have ws := o17.waits ho hwait
      have w15 := ws 15 (by simp)
      have w16 := ws 16 (by simp)
      have st0 : RwS wE g2 g3 g4 g5 p q y z 1 D w := by
        have hst := st
        simp only [hl, Bool.false_eq_true, if_false, if_true, w16] at hst
        exact hst
      refine o17.storeA Tryz.rpatchSize ((show _ = a1.eval _ from by simp only [Act.eval, Array.getD_eq_getD_getElem?, so.out 5 (by decide)]).trans e5) (f15 w15) st0.x5 rfl ?_
      intro w' hb' ht'
      have st1 := st0.st5 hG hb' ht'
      have st2 : RwS wE g2 g3 g4 g5 p q y z (if (more l 17) 17 = true then 2 else (if (more l 17) 16 = true then 1 else 0)) (D) w' := by
        rw [if_pos (show more l 17 17 = true from rfl)]
        exact st1
      exact ⟨D, so, st2, f0, f1, f2, f3, f4, f5, f6, f7, f8, f9, f10, f11, f12, f13, f14, f15, f18, (fun _ => w16)⟩
    · have ws := o18.waits ho hwait
      have w17 := ws 17 (by simp)
      have w16 := d17_16 w17
      have st0 := st
      refine o18.assignB ?_
      exact ⟨D, (so.put (by decide) _), st, (fun e => (eval_put_other' _ _ (by decide)).trans (f0 e)), (fun e => (eval_put_other' _ _ (by decide)).trans (f1 e)), (fun e => (eval_put_other' _ _ (by decide)).trans (f2 e)), (fun e => (eval_put_other' _ _ (by decide)).trans (f3 e)), (fun e => (eval_put_other' _ _ (by decide)).trans (f4 e)), (fun e => (eval_put_other' _ _ (by decide)).trans (f5 e)), (fun e => (eval_put_other' _ _ (by decide)).trans (f6 e)), (fun e => (eval_put_other' _ _ (by decide)).trans (f7 e)), (fun e => (eval_put_other' _ _ (by decide)).trans (f8 e)), (fun e => (eval_put_other' _ _ (by decide)).trans (f9 e)), (fun e => (eval_put_other' _ _ (by decide)).trans (f10 e)), (fun e => (eval_put_other' _ _ (by decide)).trans (f11 e)), (fun e => (eval_put_other' _ _ (by decide)).trans (f12 e)), (fun e => (eval_put_other' _ _ (by decide)).trans (f13 e)), (fun e => (eval_put_other' _ _ (by decide)).trans (f14 e)), (fun e => (eval_put_other' _ _ (by decide)).trans (f15 e)), (fun _ => eval_put_same' _ _ _ (by rw [so.size]; show (6 : Nat) < _; omega)), d17_16⟩
  · intro l a w hall ⟨D, so, st, f0, f1, f2, f3, f4, f5, f6, f7, f8, f9, f10, f11, f12, f13, f14, f15, f18, d17_16⟩
    rw [hn] at hall
    have hst : RwS wE g2 g3 g4 g5 p q y z 2 D w := by
      have hst := st
      simp only [hall 17 (by decide), if_true] at hst
      exact hst
    exact hend D a w so (f18 (hall 18 (by decide))) hst
  · have h0 : RwS wE g2 g3 g4 g5 p q y z 0 () { wx with drawn := wx.drawn + 1 } := ⟨h00.later.drew, h00.x2, h00.x3, h00.x4, h00.x5, h00.oy.later (Later.refl wx).drew, h00.oz.later (Later.refl wx).drew⟩
    exact ⟨(), SameOut.refl _ _, h0, (fun e => by cases e), (fun e => by cases e), (fun e => by cases e), (fun e => by cases e), (fun e => by cases e), (fun e => by cases e), (fun e => by cases e), (fun e => by cases e), (fun e => by cases e), (fun e => by cases e), (fun e => by cases e), (fun e => by cases e), (fun e => by cases e), (fun e => by cases e), (fun e => by cases e), (fun e => by cases e), (fun e => by cases e), (fun e => by cases e)⟩

end Go.Proofs.YtlnjhimbgckdcaaGreat

/-
  Operations over the document's own prims, of a region that draws its order.
-/
namespace Go.Proofs.YtlnjhimbgckdcaaGreat
open Go.RowKit Go.Maps

section
variable {ops : Array Oper} {Q : Exit -> Act -> World -> Prop} {K : Act -> World -> Prop} {i : Nat} {dst : Option Tmp} {js : List Nat} {a : Act} {w w0 : World}
theorem OpIs.indexR {j k : Tmp} {g o n c m : Nat} (h : OpIs ops i (.indexAddr 23 (.tmp j) (.tmp k)) dst js) (hj : a.eval (.tmp j) = .slice (some ⟨g, o, none⟩) n c) (hk' : a.eval (.tmp k) = .int .i64 (m : Nat)) (hm : m < n) (hk : K (a.put dst (.pointer (some ⟨g, o + m * 6, none⟩))) w) : wpOp Tryz.prog ops Q i K a w :=
  h.go fun op h1 h2 => by
    have hr : (execOp a.eval op).run Tryz.prog w = .ok (.value (.pointer (some ⟨g, o + m * 6, none⟩))) w := by
      unfold execOp
      rw [h1]
      dsimp only
      rw [hj, hk']
      go_simp
    unfold Oper.wp
    rw [hr]
    show K _ _
    rw [h2]
    exact hk
theorem OpIs.loadR {k : Tmp} {g o m n : Nat} {x : PrC} {xs : List PrC} (h : OpIs ops i (.load 89 (.tmp k)) dst js) (he : a.eval (.tmp k) = .pointer (some ⟨g, o + m * 6, none⟩)) (hr : RowK 6 w (some ⟨g, o, none⟩) n (xs.map prL)) (hx : xs[m]? = some x) (hk : K (a.put dst (prV x)) w) : wpOp Tryz.prog ops Q i K a w :=
  h.go fun op h1 h2 => by
    have hm : m < n := by
      have := hr.len
      simp only [List.length_map] at this
      have := (List.getElem?_eq_some_iff.1 hx).1
      omega
    obtain ⟨b', o', q, hA, hz, g0, g1, g2, g3, g4, g5⟩ := hr.getP hm
    cases hA
    rw [hx] at hz
    cases hz
    have hrun : (execOp a.eval op).run Tryz.prog w = .ok (.value (prV x)) w := by
      clear hr hk hx
      unfold prV execOp
      rw [h1]
      dsimp only
      rw [he]
      go_simp
    unfold Oper.wp
    rw [hrun]
    show K _ _
    rw [h2]
    exact hk
theorem OpIs.allocR (h : OpIs ops i (.alloc 89) dst js) (hk : K (a.put dst (.pointer (some ⟨w.heap.size, 0, none⟩))) (w.alloc (.cells zeroL 89))) : wpOp Tryz.prog ops Q i K a w :=
  h.go fun o h1 h2 => by
    have hr : (execOp a.eval o).run Tryz.prog w = .ok (.value (.pointer (some ⟨w.heap.size, 0, none⟩))) (w.alloc (.cells zeroL 89)) := by
      unfold execOp
      rw [h1]
      go_simp
      rfl
    unfold Oper.wp
    rw [hr]
    show K _ _
    rw [h2]
    exact hk
theorem OpIs.storeR {j k : Tmp} {g : Nat} {x : PrC} {cs : Array Value} (h : OpIs ops i (.store 89 (.tmp j) (.tmp k)) none js) (hj : a.eval (.tmp j) = .pointer (some ⟨g, 0, none⟩)) (hv : a.eval (.tmp k) = prV x) (hb : BoxAt w g cs 89) (hs : cs.size = 6)
    (hk : ∀ w', BoxAt w' g (prL x).toArray 89 -> Turned g w w' -> K a w') : wpOp Tryz.prog ops Q i K a w :=
  h.go fun o h1 h2 => by
    match cs, hs with
    | ⟨[x0, x1, x2, x3, x4, x5]⟩, _ =>
      have y0 : w.cell? ⟨g, 0, none⟩ = some x0 := hb.cell rfl
      have y1 : w.cell? ⟨g, 1, none⟩ = some x1 := hb.cell rfl
      have y2 : w.cell? ⟨g, 2, none⟩ = some x2 := hb.cell rfl
      have y3 : w.cell? ⟨g, 3, none⟩ = some x3 := hb.cell rfl
      have y4 : w.cell? ⟨g, 4, none⟩ = some x4 := hb.cell rfl
      have y5 : w.cell? ⟨g, 5, none⟩ = some x5 := hb.cell rfl
      have z0 := hb.frozen 0; have z1 := hb.frozen 1; have z2 := hb.frozen 2; have z3 := hb.frozen 3; have z4 := hb.frozen 4; have z5 := hb.frozen 5
      have hb' := hb.set6 (.int .i64 x.v.kind) (.string x.v.name) (.string x.v.to) (.int .i64 x.v.place) (.slice x.A x.n x.c) (.slice x.B x.m x.d)
      have ht := turned_set6 w g (.int .i64 x.v.kind) (.string x.v.name) (.string x.v.to) (.int .i64 x.v.place) (.slice x.A x.n x.c) (.slice x.B x.m x.d)
      have hr : (execOp a.eval o).run Tryz.prog w = .ok .skip ((((((w.setCell ⟨g, 0, none⟩ (.int .i64 x.v.kind)).setCell ⟨g, 1, none⟩ (.string x.v.name)).setCell ⟨g, 2, none⟩ (.string x.v.to)).setCell ⟨g, 3, none⟩ (.int .i64 x.v.place)).setCell ⟨g, 4, none⟩ (.slice x.A x.n x.c)).setCell ⟨g, 5, none⟩ (.slice x.B x.m x.d)) := by
        clear hb hb' ht hk
        unfold prV at hv
        unfold execOp
        rw [h1]
        dsimp only
        rw [hj, hv]
        go_simp
      unfold Oper.wp
      rw [hr]
      show K _ _
      rw [h2]
      exact hk _ hb' ht
theorem OpIs.addI {j k : Tmp} {m n : Nat} (h : OpIs ops i (.binOp .add 3 (.tmp j) (.tmp k) 3) dst js) (hj : a.eval (.tmp j) = .int .i64 (m : Nat)) (hk' : a.eval (.tmp k) = .int .i64 (n : Nat)) (hb : m + n <= 1000000) (hk : K (a.put dst (.int .i64 (m + n : Nat))) w) : wpOp Tryz.prog ops Q i K a w :=
  h.go fun op h1 h2 => by
    have hr : (execOp a.eval op).run Tryz.prog w = .ok (.value (.int .i64 (m + n : Nat))) w := by
      unfold execOp
      rw [h1]
      dsimp only
      rw [hj, hk']
      go_simp
      rw [IntKind.wrap_i64]
      omega
    unfold Oper.wp
    rw [hr]
    show K _ _
    rw [h2]
    exact hk
theorem OpIs.addC {j : Tmp} {m : Nat} (h : OpIs ops i (.binOp .add 3 (.tmp j) (.const (.int .i64 1)) 3) dst js) (hj : a.eval (.tmp j) = .int .i64 (m : Nat)) (hb : m <= 1000000) (hk : K (a.put dst (.int .i64 (m + 1 : Nat))) w) : wpOp Tryz.prog ops Q i K a w :=
  h.go fun op h1 h2 => by
    have hr : (execOp a.eval op).run Tryz.prog w = .ok (.value (.int .i64 (m + 1 : Nat))) w := by
      unfold execOp
      rw [h1]
      dsimp only
      rw [hj]
      go_simp
      rw [IntKind.wrap_i64]
      omega
    unfold Oper.wp
    rw [hr]
    show K _ _
    rw [h2]
    exact hk
end

end Go.Proofs.YtlnjhimbgckdcaaGreat

/-
  How great the document's prim is.
-/
namespace Go.Proofs.YtlnjhimbgckdcaaGreat
open Go.RowKit
theorem Tryz.refPrimSize : (Tryz.prog.info? 89).map (·.size) = some 6 := by kernel_rfl
end Go.Proofs.YtlnjhimbgckdcaaGreat

/-
  What the document's at and in come to, as calls.
-/
namespace Go.Proofs.YtlnjhimbgckdcaaGreat
open Go.RowKit Go.Maps

set_option maxRecDepth 100000 in
theorem refAt_exact (kd : Int) (nm to : ByteArray) (pl : Int) (A B : Option Addr) (n c m d : Nat) (k : Int) (w : World) :
    Calls Tryz.prog 76 #[.agg #[.int .i64 kd, .string nm, .string to, .int .i64 pl, .slice A n c, .slice B m d], .int .i64 k] w fun e w' => e = .returned (.agg #[.int .i64 kd, .string nm, .string to, .int .i64 k, .slice A n c, .slice B m d]) /\ w' = (w.alloc (.cells #[.int .i64 kd, .string nm, .string to, .int .i64 k, .slice A n c, .slice B m d] 89)).alloc (.cells #[.int .i64 kd, .string nm, .string to, .int .i64 k, .slice A n c, .slice B m d] 89) := by
  go_enter Tryz.func76, Tryz.ntmps76
  go_wp2
  exact bodyPost_ret (results_cell_row rfl _ _ (w.heap.size + 1) 89 _ (0, 0) _ rfl (heap_alloc2_new w _ _) Tryz.underlying89 rfl Tryz.refPrimSize) rfl ⟨rfl, rfl⟩

set_option maxRecDepth 100000 in
theorem refIn_exact (kd : Int) (nm to : ByteArray) (pl : Int) (A B : Option Addr) (n c m d : Nat) (k : ByteArray) (w : World) :
    Calls Tryz.prog 77 #[.agg #[.int .i64 kd, .string nm, .string to, .int .i64 pl, .slice A n c, .slice B m d], .string k] w fun e w' => e = .returned (.agg #[.int .i64 kd, .string k, .string to, .int .i64 pl, .slice A n c, .slice B m d]) /\ w' = (w.alloc (.cells #[.int .i64 kd, .string k, .string to, .int .i64 pl, .slice A n c, .slice B m d] 89)).alloc (.cells #[.int .i64 kd, .string k, .string to, .int .i64 pl, .slice A n c, .slice B m d] 89) := by
  go_enter Tryz.func77, Tryz.ntmps77
  go_wp2
  exact bodyPost_ret (results_cell_row rfl _ _ (w.heap.size + 1) 89 _ (0, 0) _ rfl (heap_alloc2_new w _ _) Tryz.underlying89 rfl Tryz.refPrimSize) rfl ⟨rfl, rfl⟩

end Go.Proofs.YtlnjhimbgckdcaaGreat

/-
  What the document's common comes to, as a call.
-/
namespace Go.Proofs.YtlnjhimbgckdcaaGreat
open Go.RowKit Go.Maps

set_option maxRecDepth 100000 in
set_option maxHeartbeats 800000 in
theorem refCommon_any (x y : PrC) (w : World) : Calls Tryz.prog 78 #[prV x, prV y] w (Says (commonP x.v y.v) w) := by
  obtain ⟨b0, b1, hl⟩ := two_boxes w (prL x).toArray (prL y).toArray 89
  have HN := Lib.hid (fun w' => refNamesP_any x w')
  have HM := Lib.hid (fun w' => refNamesP_any y w')
  have hn1 := namesP_length x.v
  have hn2 := namesP_length y.v
  have HE : Hid (commonP x.v y.v = true ↔ ∃ s ∈ namesP x.v, ∃ t ∈ namesP y.v, s = t) := by
    simp only [Hid, commonP, List.any_eq_true, decide_eq_true_eq]
  generalize commonP x.v y.v = cm at HE ⊢
  generalize namesP x.v = l at HN hn1 HE
  generalize namesP y.v = r at HM hn2 HE
  have HB1 := Lib.hid b1; have HL := Lib.hid hl
  clear b0 b1 hl
  unfold prV at HN HM ⊢
  go_enter Tryz.func78, Tryz.ntmps78
  go_wp2_with fail
  refine (HN.out _).mono ?_
  rintro e w1 ⟨A1, c1, rfl, hc1, hr1, hl1⟩
  obtain ⟨q0, q1, q2, q3, q4, q5⟩ := BoxAt.all (x := y) (HB1.out.later hl1)
  have HR1 := Lib.hid hr1
  have HL1 := Lib.hid (HL.out.trans hl1)
  clear hr1 hl1
  go_wp2_with fail
  refine (HM.out _).mono ?_
  rintro e w2 ⟨A2, c2, rfl, hc2, hr2, hl2⟩
  have HX := Lib.hid (HR1.out.later hl2)
  have HY := Lib.hid hr2
  have HL2 := Lib.hid (HL1.out.trans hl2)
  clear hr2 hl2 q0 q1 q2 q3 q4 q5 HR1 HN HM HB1 HL HL1
  generalize hn : l.length = n at hn1 HX hc1 ⊢
  generalize hm : r.length = m at hn2 HY hc2 ⊢
  have HNL := Lib.hid hn; have HML := Lib.hid hm
  clear hn hm
  go_wp2
  go_loopg [7, 8] (n + 1) (fun g s7 _ wr => ∃ k : Nat, k <= n /\ n - k <= g /\ s7 = .int .i64 k /\ Later w2 wr /\ Hid (∀ j : Nat, j < k -> ¬ ∃ t ∈ r, (l.getD j ByteArray.empty) = t))
  case atStart => exact ⟨0, Nat.zero_le _, by omega, rfl, Later.refl w2, fun j hj => absurd hj (Nat.not_lt_zero _)⟩
  case round =>
    obtain ⟨k, hk, hg, rfl, hwr, hall⟩ := hrel
    have HW := Lib.hid hwr
    clear hwr
    by_cases hlt : k < n
    · obtain ⟨b1, o1, rfl, g1⟩ := (HX.out.later HW.out).get hlt
      have hkl : k < l.length := by rw [HNL.out]; exact hlt
      have HMM := Lib.hid (mem_getD hkl)
      generalize hxk : l.getD k ByteArray.empty = x1 at g1 HMM
      have X := Lib.hid hxk
      have HG1 := Lib.hid g1
      clear hkl hxk g1
      go_wp2
      go_loopg [8] (m + 1) (fun g s8 wx => ∃ i : Nat, i <= m /\ m - i <= g /\ s8 = .int .i64 i /\ Later wr wx /\ Hid (∀ j : Nat, j < i -> ¬ x1 = (r.getD j ByteArray.empty)))
      case atStart => exact ⟨0, Nat.zero_le _, by omega, rfl, Later.refl wr, fun j hj => absurd hj (Nat.not_lt_zero _)⟩
      case round =>
        obtain ⟨i, hi, hgi, rfl, hwx, hno⟩ := hrel
        have HWX := Lib.hid hwx
        by_cases hil : i < m
        · obtain ⟨b2, o2, rfl, g2⟩ := (HY.out.later (HW.out.trans HWX.out)).get hil
          have g1 := hwx.cell HG1.out
          have hir : i < r.length := by rw [HML.out]; exact hil
          have HMI := Lib.hid (mem_getD hir)
          generalize hyk : r.getD i ByteArray.empty = y1 at g2 HMI
          have Y := Lib.hid hyk
          clear hir hyk hwx
          by_cases hxy : x1 = y1
          · subst hxy
            clear hno hall
            go_wp2_with fail
            go_quiet (fail)
            go_wp2
            go_ret
            exact ⟨ret_bool (HE.out.2 ⟨x1, HMM.out, x1, HMI.out, rfl⟩).symm, HL2.out.trans (HW.out.trans (HWX.out.drewN _))⟩
          · have hb := text_ne hxy
            have HA : Hid (∀ j : Nat, j < i + 1 -> ¬ x1 = (r.getD j ByteArray.empty)) := fun j hj => by
              by_cases e : j = i
              · rw [e, Y.out]; exact hxy
              · exact hno.out j (by omega)
            clear hno
            go_wp2_with fail
            go_quiet (fail)
            go_wp2
            go_roundg (m - (i + 1))
            case measure => omega
            case rel => exact ⟨i + 1, by omega, by omega, by go_num, HWX.out.drewN _, HA⟩
        · have HA : Hid (∀ j : Nat, j < k + 1 -> ¬ ∃ t ∈ r, (l.getD j ByteArray.empty) = t) := fun j hj => by
            by_cases e : j = k
            · rw [e, X.out]
              exact not_mem_of (p := fun t => x1 = t) fun j hj => hno.out j (by rw [HML.out] at hj; omega)
            · exact hall.out j (by omega)
          clear hno hall hwx
          go_wp2
          go_roundg (n - (k + 1))
          case measure => omega
          case rel => exact ⟨k + 1, by omega, by omega, by go_num, HW.out.trans HWX.out, HA⟩
    · have e : cm = false := by
        rw [← Bool.not_eq_true, HE.out]
        exact not_mem_of (p := fun s => ∃ t ∈ r, s = t) fun j hj => hall.out j (by rw [HNL.out] at hj; omega)
      have E := Lib.hid e; clear e hall
      go_wp2
      go_ret
      exact ⟨ret_bool E.out.symm, HL2.out.trans HW.out⟩

end Go.Proofs.YtlnjhimbgckdcaaGreat
