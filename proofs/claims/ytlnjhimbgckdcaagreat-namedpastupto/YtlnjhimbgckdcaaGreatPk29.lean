import Derived.Test.YtlnjhimbgckdcaaGreatPk16
import Derived.Test.YtlnjhimbgckdcaaGreatPk28
import Derived.Test.YtlnjhimbgckdcaaGreatPk13
import Derived.Deep.LoopGhost
import Derived.Deep.QuietTactic
import Derived.BigQuiet
import Derived.Lib.Hide

/-
  What the statements' own New and Old of patches come to, as calls.
-/
namespace Go.Proofs.YtlnjhimbgckdcaaGreat
open Go.RowKit Go.Maps

def MixN (w : World) (x y : PaC) : Prop := ∀ k, k < w.heap.size -> AwayN k x -> AwayN k y
structure NewD where
  y : PaC
def NwS (T : TypeId) (wx : World) (g : Nat) (x : PaC) : Nat -> NewD -> World -> Prop
  | 0, _, V => Later wx V
  | 1, D, V => Later wx V /\ PaOk V D.y /\ MixN wx x D.y /\ D.y.v = x.v /\ D.y.D = x.D /\ D.y.nd = x.nd /\ D.y.cd = x.cd
  | _, D, V => (∃ V1, Later wx V1 /\ Turned g V1 V) /\ PaOk V D.y /\ MixN wx x D.y /\ D.y.v = x.v /\ BoxAt V g (paL D.y).toArray T
theorem new_ok {e : TypeId} {wx w w' : World} {x : PaC} {v : Value} (hx : PaOk wx x) (hl : Later wx w) (ho : OwnPs e w w' v x.xs) :
    ∃ y : PaC, v = .slice y.L y.nl y.cl /\ PaOk w' y /\ MixN wx x y /\ y.v = x.v /\ y.D = x.D /\ y.nd = x.nd /\ y.cd = x.cd := by
  obtain ⟨A, c, rfl, hc, hp⟩ := ho.row
  have hl2 := ho.later
  have hlen : x.xs.length = x.nl := hx.row.len
  have hxo := hx.later (hl.trans hl2)
  refine ⟨⟨x.v, x.D, x.nd, x.cd, A, x.xs.length, c, x.xs⟩, rfl, ⟨hxo.deps, hp, hx.is, hx.droom, hc, hx.dmost, by show x.xs.length <= 30000; rw [hlen]; exact hx.lmost, hx.note, hx.lo, hx.hi, hx.dlo, hx.dhi⟩, fun k hk ha => ⟨ha.1, fun _ e => ?_, ha.2.2⟩, rfl, rfl, rfl, rfl⟩
  have h1 := ho.block k e
  have h2 := hl.le
  omega
section
variable {ops : Array Oper} {Q : Exit -> Act -> World -> Prop} {K : Act -> World -> Prop} {i : Nat} {dst : Option Tmp} {js : List Nat} {a : Act} {w w0 : World}
theorem OpIs.buildNew {j k l m : Tmp} {z : Int} {t : ByteArray} {u v : Value} (h : OpIs ops i (.build 30 #[(0, .tmp j), (1, .tmp k), (2, .tmp l), (3, .tmp m)]) dst js) (hj : a.eval (.tmp j) = .int .i64 z) (hk' : a.eval (.tmp k) = .string t) (hl : a.eval (.tmp l) = u) (hm : a.eval (.tmp m) = v) {A B : Option Addr} {n c p d : Nat} (hu : u = .slice A n c) (hv : v = .slice B p d) (hk : K (a.put dst (.agg #[.int .i64 z, .string t, u, v])) w) : wpOp Tryz.prog ops Q i K a w :=
  h.go fun op h1 h2 => by
    subst hu hv
    have hr : (execOp a.eval op).run Tryz.prog w = .ok (.value (.agg #[.int .i64 z, .string t, .slice A n c, .slice B p d])) w := by
      clear hk
      unfold execOp
      rw [h1]
      simp only [List.map_toArray, List.map_cons, List.map_nil, hj, hk', hl, hm]
      go_simp
    unfold Oper.wp
    rw [hr]
    show K _ _
    rw [h2]
    exact hk
end
section
variable {ops : Array Oper} {Q : Exit -> Act -> World -> Prop} {K : Act -> World -> Prop} {i : Nat} {dst : Option Tmp} {js : List Nat} {a : Act} {w w0 : World}
theorem OpIs.buildOld {j k l m : Tmp} {z : Int} {t : ByteArray} {u v : Value} (h : OpIs ops i (.build 25 #[(0, .tmp j), (1, .tmp k), (2, .tmp l), (3, .tmp m)]) dst js) (hj : a.eval (.tmp j) = .int .i64 z) (hk' : a.eval (.tmp k) = .string t) (hl : a.eval (.tmp l) = u) (hm : a.eval (.tmp m) = v) {A B : Option Addr} {n c p d : Nat} (hu : u = .slice A n c) (hv : v = .slice B p d) (hk : K (a.put dst (.agg #[.int .i64 z, .string t, u, v])) w) : wpOp Tryz.prog ops Q i K a w :=
  h.go fun op h1 h2 => by
    subst hu hv
    have hr : (execOp a.eval op).run Tryz.prog w = .ok (.value (.agg #[.int .i64 z, .string t, .slice A n c, .slice B p d])) w := by
      clear hk
      unfold execOp
      rw [h1]
      simp only [List.map_toArray, List.map_cons, List.map_nil, hj, hk', hl, hm]
      go_simp
    unfold Oper.wp
    rw [hr]
    show K _ _
    rw [h2]
    exact hk
end
set_option maxHeartbeats 1600000 in
theorem newNew_region {ops : Array Oper} (hn : ops.size = 11) (hg : goesBack ops = true)
    (o0 : OpIs ops 0 (.fieldAddr 25 (.tmp 1) 0) (some 3) [])
    (o1 : OpIs ops 1 (.load 3 (.tmp 3)) (some 4) [0])
    (o2 : OpIs ops 2 (.fieldAddr 25 (.tmp 1) 1) (some 5) [])
    (o3 : OpIs ops 3 (.load 9 (.tmp 5)) (some 6) [2])
    (o4 : OpIs ops 4 (.fieldAddr 25 (.tmp 1) 2) (some 7) [])
    (o5 : OpIs ops 5 (.load 22 (.tmp 7)) (some 8) [4])
    (o6 : OpIs ops 6 (.fieldAddr 25 (.tmp 1) 3) (some 9) [])
    (o7 : OpIs ops 7 (.load 23 (.tmp 9)) (some 10) [6])
    (o8 : OpIs ops 8 (.call { callee := .value (.func 30), args := #[.tmp 10], argTypes := #[23] }) (some 11) [7])
    (o9 : OpIs ops 9 (.build 30 #[(0, .tmp 4), (1, .tmp 6), (2, .tmp 8), (3, .tmp 11)]) (some 12) [1, 3, 5, 8])
    (o10 : OpIs ops 10 (.store 30 (.tmp 2) (.tmp 12)) none [9, 8, 0, 1, 2, 3, 4, 5, 6, 7])
    {a1 : Act} (hs : 13 <= a1.tmps.size) {wx : World} {x : PaC} {gb g : Nat} (e1 : a1.eval (.tmp 1) = .pointer (some ⟨gb, 0, none⟩)) (e2 : a1.eval (.tmp 2) = .pointer (some ⟨g, 0, none⟩)) (hx : PaOk wx x) (hb : BoxAt wx gb (paL x).toArray 25) (hb2 : BoxAt wx g #[.int .i64 0, .string ⟨#[]⟩, .slice none 0 0, .slice none 0 0] 30) (hgl : g < wx.heap.size) (hgx : AwayN g x)
    {Q : Exit -> Act -> World -> Prop} {id : Nat} (hend : ∀ (D : NewD) (a : Act) (w : World), SameOut a1 a [3, 4, 5, 6, 7, 8, 9, 10, 11, 12] -> NwS 30 wx g x (2) D w -> Q .normal a w) :
    (Code.region id ops true).wp Tryz.prog Q a1 wx := by
  refine region_inv (by kernel_rfl) hg (fun l a w => ∃ D : NewD, SameOut a1 a [3, 4, 5, 6, 7, 8, 9, 10, 11, 12] /\ NwS 30 wx g x (if l 10 = true then 2 else (if l 8 = true then 1 else 0)) D w /\ (l 0 = true -> a.eval (.tmp 3) = .pointer (some ⟨gb, 0 + 0, none⟩)) /\ (l 1 = true -> a.eval (.tmp 4) = .int .i64 x.v.id) /\ (l 2 = true -> a.eval (.tmp 5) = .pointer (some ⟨gb, 0 + 1, none⟩)) /\ (l 3 = true -> a.eval (.tmp 6) = .string x.v.note) /\ (l 4 = true -> a.eval (.tmp 7) = .pointer (some ⟨gb, 0 + 2, none⟩)) /\ (l 5 = true -> a.eval (.tmp 8) = .slice x.D x.nd x.cd) /\ (l 6 = true -> a.eval (.tmp 9) = .pointer (some ⟨gb, 0 + 3, none⟩)) /\ (l 7 = true -> a.eval (.tmp 10) = .slice x.L x.nl x.cl) /\ (l 8 = true -> a.eval (.tmp 11) = .slice D.y.L D.y.nl D.y.cl) /\ (l 9 = true -> a.eval (.tmp 12) = paV D.y) /\ (l 10 = true -> l 8 = true) /\ (l 10 = true -> l 0 = true) /\ (l 10 = true -> l 1 = true) /\ (l 10 = true -> l 2 = true) /\ (l 10 = true -> l 3 = true) /\ (l 10 = true -> l 4 = true) /\ (l 10 = true -> l 5 = true) /\ (l 10 = true -> l 6 = true) /\ (l 10 = true -> l 7 = true) /\ (l 10 = true -> l 9 = true) /\ (l 8 = true -> l 7 = true) /\ (l 9 = true -> l 8 = true)) ?_ ?_ ?_
  · intro l a w i o ho hl hwait ⟨D, so, st, f0, f1, f2, f3, f4, f5, f6, f7, f8, f9, d10_8, d10_0, d10_1, d10_2, d10_3, d10_4, d10_5, d10_6, d10_7, d10_9, d8_7, d9_8⟩
    have hi : i < 11 := by rw [← hn]; exact (Array.getElem?_eq_some_iff.1 ho).1
    have hc : i = 0 ∨ i = 1 ∨ i = 2 ∨ i = 3 ∨ i = 4 ∨ i = 5 ∨ i = 6 ∨ i = 7 ∨ i = 8 ∨ i = 9 ∨ i = 10 := by omega
    rcases hc with rfl | rfl | rfl | rfl | rfl | rfl | rfl | rfl | rfl | rfl | rfl
    · have n10 : l 10 = false := by cases hx : l 10 with | false => rfl | true => have := d10_0 hx; rw [hl] at this; cases this
      have st0 := st
      refine o0.fieldRN (by omega) ((show _ = a1.eval _ from by simp only [Act.eval, Array.getD_eq_getD_getElem?, so.out 1 (by decide)]).trans e1) ?_
      exact ⟨D, (so.put (by decide) _), st, (fun _ => eval_put_same' _ _ _ (by rw [so.size]; show (3 : Nat) < _; omega)), (fun e => (eval_put_other' _ _ (by decide)).trans (f1 e)), (fun e => (eval_put_other' _ _ (by decide)).trans (f2 e)), (fun e => (eval_put_other' _ _ (by decide)).trans (f3 e)), (fun e => (eval_put_other' _ _ (by decide)).trans (f4 e)), (fun e => (eval_put_other' _ _ (by decide)).trans (f5 e)), (fun e => (eval_put_other' _ _ (by decide)).trans (f6 e)), (fun e => (eval_put_other' _ _ (by decide)).trans (f7 e)), (fun e => (eval_put_other' _ _ (by decide)).trans (f8 e)), (fun e => (eval_put_other' _ _ (by decide)).trans (f9 e)), d10_8, (fun _ => rfl), d10_1, d10_2, d10_3, d10_4, d10_5, d10_6, d10_7, d10_9, d8_7, d9_8⟩
    · have ws := o1.waits ho hwait
      have w0 := ws 0 (by simp)
      have n10 : l 10 = false := by cases hx : l 10 with | false => rfl | true => have := d10_1 hx; rw [hl] at this; cases this
      have st0 := st
      have hl0 : Later wx w := by
        have hst := st
        simp only [n10, Bool.false_eq_true, if_false] at hst
        split at hst
        · exact hst.1
        · exact hst
      refine o1.loadI7 (f0 w0) ((hb.later hl0).cell rfl) ?_
      exact ⟨D, (so.put (by decide) _), st, (fun e => (eval_put_other' _ _ (by decide)).trans (f0 e)), (fun _ => eval_put_same' _ _ _ (by rw [so.size]; show (4 : Nat) < _; omega)), (fun e => (eval_put_other' _ _ (by decide)).trans (f2 e)), (fun e => (eval_put_other' _ _ (by decide)).trans (f3 e)), (fun e => (eval_put_other' _ _ (by decide)).trans (f4 e)), (fun e => (eval_put_other' _ _ (by decide)).trans (f5 e)), (fun e => (eval_put_other' _ _ (by decide)).trans (f6 e)), (fun e => (eval_put_other' _ _ (by decide)).trans (f7 e)), (fun e => (eval_put_other' _ _ (by decide)).trans (f8 e)), (fun e => (eval_put_other' _ _ (by decide)).trans (f9 e)), d10_8, d10_0, (fun _ => rfl), d10_2, d10_3, d10_4, d10_5, d10_6, d10_7, d10_9, d8_7, d9_8⟩
    · have n10 : l 10 = false := by cases hx : l 10 with | false => rfl | true => have := d10_2 hx; rw [hl] at this; cases this
      have st0 := st
      refine o2.fieldRN (by omega) ((show _ = a1.eval _ from by simp only [Act.eval, Array.getD_eq_getD_getElem?, so.out 1 (by decide)]).trans e1) ?_
      exact ⟨D, (so.put (by decide) _), st, (fun e => (eval_put_other' _ _ (by decide)).trans (f0 e)), (fun e => (eval_put_other' _ _ (by decide)).trans (f1 e)), (fun _ => eval_put_same' _ _ _ (by rw [so.size]; show (5 : Nat) < _; omega)), (fun e => (eval_put_other' _ _ (by decide)).trans (f3 e)), (fun e => (eval_put_other' _ _ (by decide)).trans (f4 e)), (fun e => (eval_put_other' _ _ (by decide)).trans (f5 e)), (fun e => (eval_put_other' _ _ (by decide)).trans (f6 e)), (fun e => (eval_put_other' _ _ (by decide)).trans (f7 e)), (fun e => (eval_put_other' _ _ (by decide)).trans (f8 e)), (fun e => (eval_put_other' _ _ (by decide)).trans (f9 e)), d10_8, d10_0, d10_1, (fun _ => rfl), d10_3, d10_4, d10_5, d10_6, d10_7, d10_9, d8_7, d9_8⟩
    · have ws := o3.waits ho hwait
      have w2 := ws 2 (by simp)
      have n10 : l 10 = false := by cases hx : l 10 with | false => rfl | true => have := d10_3 hx; rw [hl] at this; cases this
      have st0 := st
      have hl0 : Later wx w := by
        have hst := st
        simp only [n10, Bool.false_eq_true, if_false] at hst
        split at hst
        · exact hst.1
        · exact hst
      refine o3.loadS7 (f2 w2) ((hb.later hl0).cell rfl) ?_
      exact ⟨D, (so.put (by decide) _), st, (fun e => (eval_put_other' _ _ (by decide)).trans (f0 e)), (fun e => (eval_put_other' _ _ (by decide)).trans (f1 e)), (fun e => (eval_put_other' _ _ (by decide)).trans (f2 e)), (fun _ => eval_put_same' _ _ _ (by rw [so.size]; show (6 : Nat) < _; omega)), (fun e => (eval_put_other' _ _ (by decide)).trans (f4 e)), (fun e => (eval_put_other' _ _ (by decide)).trans (f5 e)), (fun e => (eval_put_other' _ _ (by decide)).trans (f6 e)), (fun e => (eval_put_other' _ _ (by decide)).trans (f7 e)), (fun e => (eval_put_other' _ _ (by decide)).trans (f8 e)), (fun e => (eval_put_other' _ _ (by decide)).trans (f9 e)), d10_8, d10_0, d10_1, d10_2, (fun _ => rfl), d10_4, d10_5, d10_6, d10_7, d10_9, d8_7, d9_8⟩
    · have n10 : l 10 = false := by cases hx : l 10 with | false => rfl | true => have := d10_4 hx; rw [hl] at this; cases this
      have st0 := st
      refine o4.fieldRN (by omega) ((show _ = a1.eval _ from by simp only [Act.eval, Array.getD_eq_getD_getElem?, so.out 1 (by decide)]).trans e1) ?_
      exact ⟨D, (so.put (by decide) _), st, (fun e => (eval_put_other' _ _ (by decide)).trans (f0 e)), (fun e => (eval_put_other' _ _ (by decide)).trans (f1 e)), (fun e => (eval_put_other' _ _ (by decide)).trans (f2 e)), (fun e => (eval_put_other' _ _ (by decide)).trans (f3 e)), (fun _ => eval_put_same' _ _ _ (by rw [so.size]; show (7 : Nat) < _; omega)), (fun e => (eval_put_other' _ _ (by decide)).trans (f5 e)), (fun e => (eval_put_other' _ _ (by decide)).trans (f6 e)), (fun e => (eval_put_other' _ _ (by decide)).trans (f7 e)), (fun e => (eval_put_other' _ _ (by decide)).trans (f8 e)), (fun e => (eval_put_other' _ _ (by decide)).trans (f9 e)), d10_8, d10_0, d10_1, d10_2, d10_3, (fun _ => rfl), d10_5, d10_6, d10_7, d10_9, d8_7, d9_8⟩
    · have ws := o5.waits ho hwait
      have w4 := ws 4 (by simp)
      have n10 : l 10 = false := by cases hx : l 10 with | false => rfl | true => have := d10_5 hx; rw [hl] at this; cases this
      have st0 := st
      have hl0 : Later wx w := by
        have hst := st
        simp only [n10, Bool.false_eq_true, if_false] at hst
        split at hst
        · exact hst.1
        · exact hst
      refine o5.loadD7 (f4 w4) ((hb.later hl0).cell rfl) ?_
      exact ⟨D, (so.put (by decide) _), st, (fun e => (eval_put_other' _ _ (by decide)).trans (f0 e)), (fun e => (eval_put_other' _ _ (by decide)).trans (f1 e)), (fun e => (eval_put_other' _ _ (by decide)).trans (f2 e)), (fun e => (eval_put_other' _ _ (by decide)).trans (f3 e)), (fun e => (eval_put_other' _ _ (by decide)).trans (f4 e)), (fun _ => eval_put_same' _ _ _ (by rw [so.size]; show (8 : Nat) < _; omega)), (fun e => (eval_put_other' _ _ (by decide)).trans (f6 e)), (fun e => (eval_put_other' _ _ (by decide)).trans (f7 e)), (fun e => (eval_put_other' _ _ (by decide)).trans (f8 e)), (fun e => (eval_put_other' _ _ (by decide)).trans (f9 e)), d10_8, d10_0, d10_1, d10_2, d10_3, d10_4, (fun _ => rfl), d10_6, d10_7, d10_9, d8_7, d9_8⟩
    · have n10 : l 10 = false := by cases hx : l 10 with | false => rfl | true => have := d10_6 hx; rw [hl] at this; cases this
      have st0 := st
      refine o6.fieldRN (by omega) ((show _ = a1.eval _ from by simp only [Act.eval, Array.getD_eq_getD_getElem?, so.out 1 (by decide)]).trans e1) ?_
      exact ⟨D, (so.put (by decide) _), st, (fun e => (eval_put_other' _ _ (by decide)).trans (f0 e)), (fun e => (eval_put_other' _ _ (by decide)).trans (f1 e)), (fun e => (eval_put_other' _ _ (by decide)).trans (f2 e)), (fun e => (eval_put_other' _ _ (by decide)).trans (f3 e)), (fun e => (eval_put_other' _ _ (by decide)).trans (f4 e)), (fun e => (eval_put_other' _ _ (by decide)).trans (f5 e)), (fun _ => eval_put_same' _ _ _ (by rw [so.size]; show (9 : Nat) < _; omega)), (fun e => (eval_put_other' _ _ (by decide)).trans (f7 e)), (fun e => (eval_put_other' _ _ (by decide)).trans (f8 e)), (fun e => (eval_put_other' _ _ (by decide)).trans (f9 e)), d10_8, d10_0, d10_1, d10_2, d10_3, d10_4, d10_5, (fun _ => rfl), d10_7, d10_9, d8_7, d9_8⟩
    · have ws := o7.waits ho hwait
      have w6 := ws 6 (by simp)
      have n10 : l 10 = false := by cases hx : l 10 with | false => rfl | true => have := d10_7 hx; rw [hl] at this; cases this
      have n8 : l 8 = false := by cases hx : l 8 with | false => rfl | true => have := d8_7 hx; rw [hl] at this; cases this
      have n9 : l 9 = false := by cases hx : l 9 with | false => rfl | true => have := d9_8 hx; rw [n8] at this; cases this
      have st0 := st
      have hl0 : Later wx w := by
        have hst := st
        simp only [n8, n10, Bool.false_eq_true, if_false] at hst
        exact hst
      refine o7.loadR7 (f6 w6) ((hb.later hl0).cell rfl) ?_
      exact ⟨D, (so.put (by decide) _), st, (fun e => (eval_put_other' _ _ (by decide)).trans (f0 e)), (fun e => (eval_put_other' _ _ (by decide)).trans (f1 e)), (fun e => (eval_put_other' _ _ (by decide)).trans (f2 e)), (fun e => (eval_put_other' _ _ (by decide)).trans (f3 e)), (fun e => (eval_put_other' _ _ (by decide)).trans (f4 e)), (fun e => (eval_put_other' _ _ (by decide)).trans (f5 e)), (fun e => (eval_put_other' _ _ (by decide)).trans (f6 e)), (fun _ => eval_put_same' _ _ _ (by rw [so.size]; show (10 : Nat) < _; omega)), (fun e => by rw [show more l 7 8 = l 8 from rfl, n8] at e; cases e), (fun e => by rw [show more l 7 9 = l 9 from rfl, n9] at e; cases e), d10_8, d10_0, d10_1, d10_2, d10_3, d10_4, d10_5, d10_6, (fun _ => rfl), d10_9, (fun _ => rfl), d9_8⟩
    · have ws := o8.waits ho hwait
      have w7 := ws 7 (by simp)
      have n10 : l 10 = false := by cases hx : l 10 with | false => rfl | true => have := d10_8 hx; rw [hl] at this; cases this
      have n9 : l 9 = false := by cases hx : l 9 with | false => rfl | true => have := d9_8 hx; rw [hl] at this; cases this
      have st0 : NwS 30 wx g x 0 D w := by
        have hst := st
        simp only [hl, n10, Bool.false_eq_true, if_false] at hst
        exact hst
      refine o8.call1 (enters_of Tryz.func30 (by kernel_rfl) rfl) (f7 w7) (lawNewX_any x.L x.nl x.cl x.xs w (hx.row.later st0) (by have := hx.lmost; omega)) ?_
      rintro e w' ⟨v1, rfl, ho1⟩
      obtain ⟨y, hy1, hy2, hy3, hy4, hy5, hy6, hy7⟩ := new_ok hx st0 ho1
      rw [hy1]
      have st1 : NwS 30 wx g x 1 ⟨y⟩ w' := ⟨Later.trans st0 ho1.later, hy2, hy3, hy4, hy5, hy6, hy7⟩
      have st2 : NwS 30 wx g x (if (more l 8) 10 = true then 2 else (if (more l 8) 8 = true then 1 else 0)) (⟨y⟩) w' := by
        rw [if_neg (show ¬ (more l 8 10 = true) from by rw [show more l 8 10 = l 10 from rfl, n10]; simp), if_pos (show more l 8 8 = true from rfl)]
        exact st1
      exact ⟨_, rfl, ⟨⟨y⟩, (so.put (by decide) _), st2, (fun e => (eval_put_other' _ _ (by decide)).trans (f0 e)), (fun e => (eval_put_other' _ _ (by decide)).trans (f1 e)), (fun e => (eval_put_other' _ _ (by decide)).trans (f2 e)), (fun e => (eval_put_other' _ _ (by decide)).trans (f3 e)), (fun e => (eval_put_other' _ _ (by decide)).trans (f4 e)), (fun e => (eval_put_other' _ _ (by decide)).trans (f5 e)), (fun e => (eval_put_other' _ _ (by decide)).trans (f6 e)), (fun e => (eval_put_other' _ _ (by decide)).trans (f7 e)), (fun _ => eval_put_same' _ _ _ (by rw [so.size]; show (11 : Nat) < _; omega)), (fun e => by rw [show more l 8 9 = l 9 from rfl, n9] at e; cases e), (fun _ => rfl), d10_0, d10_1, d10_2, d10_3, d10_4, d10_5, d10_6, d10_7, d10_9, (fun _ => w7), (fun _ => rfl)⟩⟩
    · have ws := o9.waits ho hwait
      have w1 := ws 1 (by simp)
      have w3 := ws 3 (by simp)
      have w5 := ws 5 (by simp)
      have w8 := ws 8 (by simp)
      have w7 := d8_7 w8
      have n10 : l 10 = false := by cases hx : l 10 with | false => rfl | true => have := d10_9 hx; rw [hl] at this; cases this
      have st0 := st
      have st9 : NwS 30 wx g x 1 D w := by
        have hst := st
        simp only [n10, Bool.false_eq_true, if_false, w8, if_true] at hst
        exact hst
      refine o9.buildNew (f1 w1) (f3 w3) (f5 w5) (f8 w8) rfl rfl ?_
      rw [show (Value.agg #[.int .i64 x.v.id, .string x.v.note, .slice x.D x.nd x.cd, .slice D.y.L D.y.nl D.y.cl]) = paV D.y from by unfold paV; rw [st9.2.2.2.1, st9.2.2.2.2.1, st9.2.2.2.2.2.1, st9.2.2.2.2.2.2]]
      exact ⟨D, (so.put (by decide) _), st, (fun e => (eval_put_other' _ _ (by decide)).trans (f0 e)), (fun e => (eval_put_other' _ _ (by decide)).trans (f1 e)), (fun e => (eval_put_other' _ _ (by decide)).trans (f2 e)), (fun e => (eval_put_other' _ _ (by decide)).trans (f3 e)), (fun e => (eval_put_other' _ _ (by decide)).trans (f4 e)), (fun e => (eval_put_other' _ _ (by decide)).trans (f5 e)), (fun e => (eval_put_other' _ _ (by decide)).trans (f6 e)), (fun e => (eval_put_other' _ _ (by decide)).trans (f7 e)), (fun e => (eval_put_other' _ _ (by decide)).trans (f8 e)), (fun _ => eval_put_same' _ _ _ (by rw [so.size]; show (12 : Nat) < _; omega)), d10_8, d10_0, d10_1, d10_2, d10_3, d10_4, d10_5, d10_6, d10_7, (fun _ => rfl), d8_7, (fun _ => w8)⟩
    · have ws := o10.waits ho hwait
      have w9 := ws 9 (by simp)
      have w8 := ws 8 (by simp)
      have w0 := ws 0 (by simp)
      have w1 := ws 1 (by simp)
      have w2 := ws 2 (by simp)
      have w3 := ws 3 (by simp)
      have w4 := ws 4 (by simp)
      have w5 := ws 5 (by simp)
      have w6 := ws 6 (by simp)
      have w7 := ws 7 (by simp)
      have st0 : NwS 30 wx g x 1 D w := by
        have hst := st
        simp only [hl, Bool.false_eq_true, if_false, if_true, w8] at hst
        exact hst
      refine o10.storeA Tryz.patchSize ((show _ = a1.eval _ from by simp only [Act.eval, Array.getD_eq_getD_getElem?, so.out 2 (by decide)]).trans e2) (f9 w9) (hb2.later st0.1) rfl ?_
      intro w' hb' ht'
      have st1 : NwS 30 wx g x 2 D w' := ⟨⟨w, st0.1, ht'⟩, st0.2.1.off ht' (st0.2.2.1 g hgl hgx), st0.2.2.1, st0.2.2.2.1, hb'⟩
      have st2 : NwS 30 wx g x (if (more l 10) 10 = true then 2 else (if (more l 10) 8 = true then 1 else 0)) (D) w' := by
        rw [if_pos (show more l 10 10 = true from rfl)]
        exact st1
      exact ⟨D, so, st2, f0, f1, f2, f3, f4, f5, f6, f7, f8, f9, (fun _ => w8), (fun _ => w0), (fun _ => w1), (fun _ => w2), (fun _ => w3), (fun _ => w4), (fun _ => w5), (fun _ => w6), (fun _ => w7), (fun _ => w9), d8_7, d9_8⟩
  · intro l a w hall ⟨D, so, st, f0, f1, f2, f3, f4, f5, f6, f7, f8, f9, d10_8, d10_0, d10_1, d10_2, d10_3, d10_4, d10_5, d10_6, d10_7, d10_9, d8_7, d9_8⟩
    rw [hn] at hall
    have hst : NwS 30 wx g x 2 D w := by
      have hst := st
      simp only [hall 10 (by decide), if_true] at hst
      exact hst
    exact hend D a w so hst
  · have h0 : NwS 30 wx g x 0 ⟨zeroN⟩ { wx with drawn := wx.drawn + 1 } := (Later.refl wx).drew
    exact ⟨⟨zeroN⟩, SameOut.refl _ _, h0, (fun e => by cases e), (fun e => by cases e), (fun e => by cases e), (fun e => by cases e), (fun e => by cases e), (fun e => by cases e), (fun e => by cases e), (fun e => by cases e), (fun e => by cases e), (fun e => by cases e), (fun e => by cases e), (fun e => by cases e), (fun e => by cases e), (fun e => by cases e), (fun e => by cases e), (fun e => by cases e), (fun e => by cases e), (fun e => by cases e), (fun e => by cases e), (fun e => by cases e), (fun e => by cases e), (fun e => by cases e)⟩
set_option maxHeartbeats 1600000 in
theorem newOld_region {ops : Array Oper} (hn : ops.size = 11) (hg : goesBack ops = true)
    (o0 : OpIs ops 0 (.fieldAddr 30 (.tmp 1) 0) (some 3) [])
    (o1 : OpIs ops 1 (.load 3 (.tmp 3)) (some 4) [0])
    (o2 : OpIs ops 2 (.fieldAddr 30 (.tmp 1) 1) (some 5) [])
    (o3 : OpIs ops 3 (.load 9 (.tmp 5)) (some 6) [2])
    (o4 : OpIs ops 4 (.fieldAddr 30 (.tmp 1) 2) (some 7) [])
    (o5 : OpIs ops 5 (.load 22 (.tmp 7)) (some 8) [4])
    (o6 : OpIs ops 6 (.fieldAddr 30 (.tmp 1) 3) (some 9) [])
    (o7 : OpIs ops 7 (.load 28 (.tmp 9)) (some 10) [6])
    (o8 : OpIs ops 8 (.call { callee := .value (.func 34), args := #[.tmp 10], argTypes := #[28] }) (some 11) [7])
    (o9 : OpIs ops 9 (.build 25 #[(0, .tmp 4), (1, .tmp 6), (2, .tmp 8), (3, .tmp 11)]) (some 12) [1, 3, 5, 8])
    (o10 : OpIs ops 10 (.store 25 (.tmp 2) (.tmp 12)) none [9, 8, 0, 1, 2, 3, 4, 5, 6, 7])
    {a1 : Act} (hs : 13 <= a1.tmps.size) {wx : World} {x : PaC} {gb g : Nat} (e1 : a1.eval (.tmp 1) = .pointer (some ⟨gb, 0, none⟩)) (e2 : a1.eval (.tmp 2) = .pointer (some ⟨g, 0, none⟩)) (hx : PaOk wx x) (hb : BoxAt wx gb (paL x).toArray 30) (hb2 : BoxAt wx g #[.int .i64 0, .string ⟨#[]⟩, .slice none 0 0, .slice none 0 0] 25) (hgl : g < wx.heap.size) (hgx : AwayN g x)
    {Q : Exit -> Act -> World -> Prop} {id : Nat} (hend : ∀ (D : NewD) (a : Act) (w : World), SameOut a1 a [3, 4, 5, 6, 7, 8, 9, 10, 11, 12] -> NwS 25 wx g x (2) D w -> Q .normal a w) :
    (Code.region id ops true).wp Tryz.prog Q a1 wx := by
  refine region_inv (by kernel_rfl) hg (fun l a w => ∃ D : NewD, SameOut a1 a [3, 4, 5, 6, 7, 8, 9, 10, 11, 12] /\ NwS 25 wx g x (if l 10 = true then 2 else (if l 8 = true then 1 else 0)) D w /\ (l 0 = true -> a.eval (.tmp 3) = .pointer (some ⟨gb, 0 + 0, none⟩)) /\ (l 1 = true -> a.eval (.tmp 4) = .int .i64 x.v.id) /\ (l 2 = true -> a.eval (.tmp 5) = .pointer (some ⟨gb, 0 + 1, none⟩)) /\ (l 3 = true -> a.eval (.tmp 6) = .string x.v.note) /\ (l 4 = true -> a.eval (.tmp 7) = .pointer (some ⟨gb, 0 + 2, none⟩)) /\ (l 5 = true -> a.eval (.tmp 8) = .slice x.D x.nd x.cd) /\ (l 6 = true -> a.eval (.tmp 9) = .pointer (some ⟨gb, 0 + 3, none⟩)) /\ (l 7 = true -> a.eval (.tmp 10) = .slice x.L x.nl x.cl) /\ (l 8 = true -> a.eval (.tmp 11) = .slice D.y.L D.y.nl D.y.cl) /\ (l 9 = true -> a.eval (.tmp 12) = paV D.y) /\ (l 10 = true -> l 8 = true) /\ (l 10 = true -> l 0 = true) /\ (l 10 = true -> l 1 = true) /\ (l 10 = true -> l 2 = true) /\ (l 10 = true -> l 3 = true) /\ (l 10 = true -> l 4 = true) /\ (l 10 = true -> l 5 = true) /\ (l 10 = true -> l 6 = true) /\ (l 10 = true -> l 7 = true) /\ (l 10 = true -> l 9 = true) /\ (l 8 = true -> l 7 = true) /\ (l 9 = true -> l 8 = true)) ?_ ?_ ?_
  · intro l a w i o ho hl hwait ⟨D, so, st, f0, f1, f2, f3, f4, f5, f6, f7, f8, f9, d10_8, d10_0, d10_1, d10_2, d10_3, d10_4, d10_5, d10_6, d10_7, d10_9, d8_7, d9_8⟩
    have hi : i < 11 := by rw [← hn]; exact (Array.getElem?_eq_some_iff.1 ho).1
    have hc : i = 0 ∨ i = 1 ∨ i = 2 ∨ i = 3 ∨ i = 4 ∨ i = 5 ∨ i = 6 ∨ i = 7 ∨ i = 8 ∨ i = 9 ∨ i = 10 := by omega
    rcases hc with rfl | rfl | rfl | rfl | rfl | rfl | rfl | rfl | rfl | rfl | rfl
    · have n10 : l 10 = false := by cases hx : l 10 with | false => rfl | true => have := d10_0 hx; rw [hl] at this; cases this
      have st0 := st
      refine o0.fieldN (by omega) ((show _ = a1.eval _ from by simp only [Act.eval, Array.getD_eq_getD_getElem?, so.out 1 (by decide)]).trans e1) ?_
      exact ⟨D, (so.put (by decide) _), st, (fun _ => eval_put_same' _ _ _ (by rw [so.size]; show (3 : Nat) < _; omega)), (fun e => (eval_put_other' _ _ (by decide)).trans (f1 e)), (fun e => (eval_put_other' _ _ (by decide)).trans (f2 e)), (fun e => (eval_put_other' _ _ (by decide)).trans (f3 e)), (fun e => (eval_put_other' _ _ (by decide)).trans (f4 e)), (fun e => (eval_put_other' _ _ (by decide)).trans (f5 e)), (fun e => (eval_put_other' _ _ (by decide)).trans (f6 e)), (fun e => (eval_put_other' _ _ (by decide)).trans (f7 e)), (fun e => (eval_put_other' _ _ (by decide)).trans (f8 e)), (fun e => (eval_put_other' _ _ (by decide)).trans (f9 e)), d10_8, (fun _ => rfl), d10_1, d10_2, d10_3, d10_4, d10_5, d10_6, d10_7, d10_9, d8_7, d9_8⟩
    · have ws := o1.waits ho hwait
      have w0 := ws 0 (by simp)
      have n10 : l 10 = false := by cases hx : l 10 with | false => rfl | true => have := d10_1 hx; rw [hl] at this; cases this
      have st0 := st
      have hl0 : Later wx w := by
        have hst := st
        simp only [n10, Bool.false_eq_true, if_false] at hst
        split at hst
        · exact hst.1
        · exact hst
      refine o1.loadI7 (f0 w0) ((hb.later hl0).cell rfl) ?_
      exact ⟨D, (so.put (by decide) _), st, (fun e => (eval_put_other' _ _ (by decide)).trans (f0 e)), (fun _ => eval_put_same' _ _ _ (by rw [so.size]; show (4 : Nat) < _; omega)), (fun e => (eval_put_other' _ _ (by decide)).trans (f2 e)), (fun e => (eval_put_other' _ _ (by decide)).trans (f3 e)), (fun e => (eval_put_other' _ _ (by decide)).trans (f4 e)), (fun e => (eval_put_other' _ _ (by decide)).trans (f5 e)), (fun e => (eval_put_other' _ _ (by decide)).trans (f6 e)), (fun e => (eval_put_other' _ _ (by decide)).trans (f7 e)), (fun e => (eval_put_other' _ _ (by decide)).trans (f8 e)), (fun e => (eval_put_other' _ _ (by decide)).trans (f9 e)), d10_8, d10_0, (fun _ => rfl), d10_2, d10_3, d10_4, d10_5, d10_6, d10_7, d10_9, d8_7, d9_8⟩
    · have n10 : l 10 = false := by cases hx : l 10 with | false => rfl | true => have := d10_2 hx; rw [hl] at this; cases this
      have st0 := st
      refine o2.fieldN (by omega) ((show _ = a1.eval _ from by simp only [Act.eval, Array.getD_eq_getD_getElem?, so.out 1 (by decide)]).trans e1) ?_
      exact ⟨D, (so.put (by decide) _), st, (fun e => (eval_put_other' _ _ (by decide)).trans (f0 e)), (fun e => (eval_put_other' _ _ (by decide)).trans (f1 e)), (fun _ => eval_put_same' _ _ _ (by rw [so.size]; show (5 : Nat) < _; omega)), (fun e => (eval_put_other' _ _ (by decide)).trans (f3 e)), (fun e => (eval_put_other' _ _ (by decide)).trans (f4 e)), (fun e => (eval_put_other' _ _ (by decide)).trans (f5 e)), (fun e => (eval_put_other' _ _ (by decide)).trans (f6 e)), (fun e => (eval_put_other' _ _ (by decide)).trans (f7 e)), (fun e => (eval_put_other' _ _ (by decide)).trans (f8 e)), (fun e => (eval_put_other' _ _ (by decide)).trans (f9 e)), d10_8, d10_0, d10_1, (fun _ => rfl), d10_3, d10_4, d10_5, d10_6, d10_7, d10_9, d8_7, d9_8⟩
    · have ws := o3.waits ho hwait
      have w2 := ws 2 (by simp)
      have n10 : l 10 = false := by cases hx : l 10 with | false => rfl | true => have := d10_3 hx; rw [hl] at this; cases this
      have st0 := st
      have hl0 : Later wx w := by
        have hst := st
        simp only [n10, Bool.false_eq_true, if_false] at hst
        split at hst
        · exact hst.1
        · exact hst
      refine o3.loadS7 (f2 w2) ((hb.later hl0).cell rfl) ?_
      exact ⟨D, (so.put (by decide) _), st, (fun e => (eval_put_other' _ _ (by decide)).trans (f0 e)), (fun e => (eval_put_other' _ _ (by decide)).trans (f1 e)), (fun e => (eval_put_other' _ _ (by decide)).trans (f2 e)), (fun _ => eval_put_same' _ _ _ (by rw [so.size]; show (6 : Nat) < _; omega)), (fun e => (eval_put_other' _ _ (by decide)).trans (f4 e)), (fun e => (eval_put_other' _ _ (by decide)).trans (f5 e)), (fun e => (eval_put_other' _ _ (by decide)).trans (f6 e)), (fun e => (eval_put_other' _ _ (by decide)).trans (f7 e)), (fun e => (eval_put_other' _ _ (by decide)).trans (f8 e)), (fun e => (eval_put_other' _ _ (by decide)).trans (f9 e)), d10_8, d10_0, d10_1, d10_2, (fun _ => rfl), d10_4, d10_5, d10_6, d10_7, d10_9, d8_7, d9_8⟩
    · have n10 : l 10 = false := by cases hx : l 10 with | false => rfl | true => have := d10_4 hx; rw [hl] at this; cases this
      have st0 := st
      refine o4.fieldN (by omega) ((show _ = a1.eval _ from by simp only [Act.eval, Array.getD_eq_getD_getElem?, so.out 1 (by decide)]).trans e1) ?_
      exact ⟨D, (so.put (by decide) _), st, (fun e => (eval_put_other' _ _ (by decide)).trans (f0 e)), (fun e => (eval_put_other' _ _ (by decide)).trans (f1 e)), (fun e => (eval_put_other' _ _ (by decide)).trans (f2 e)), (fun e => (eval_put_other' _ _ (by decide)).trans (f3 e)), (fun _ => eval_put_same' _ _ _ (by rw [so.size]; show (7 : Nat) < _; omega)), (fun e => (eval_put_other' _ _ (by decide)).trans (f5 e)), (fun e => (eval_put_other' _ _ (by decide)).trans (f6 e)), (fun e => (eval_put_other' _ _ (by decide)).trans (f7 e)), (fun e => (eval_put_other' _ _ (by decide)).trans (f8 e)), (fun e => (eval_put_other' _ _ (by decide)).trans (f9 e)), d10_8, d10_0, d10_1, d10_2, d10_3, (fun _ => rfl), d10_5, d10_6, d10_7, d10_9, d8_7, d9_8⟩
    · have ws := o5.waits ho hwait
      have w4 := ws 4 (by simp)
      have n10 : l 10 = false := by cases hx : l 10 with | false => rfl | true => have := d10_5 hx; rw [hl] at this; cases this
      have st0 := st
      have hl0 : Later wx w := by
        have hst := st
        simp only [n10, Bool.false_eq_true, if_false] at hst
        split at hst
        · exact hst.1
        · exact hst
      refine o5.loadD7 (f4 w4) ((hb.later hl0).cell rfl) ?_
      exact ⟨D, (so.put (by decide) _), st, (fun e => (eval_put_other' _ _ (by decide)).trans (f0 e)), (fun e => (eval_put_other' _ _ (by decide)).trans (f1 e)), (fun e => (eval_put_other' _ _ (by decide)).trans (f2 e)), (fun e => (eval_put_other' _ _ (by decide)).trans (f3 e)), (fun e => (eval_put_other' _ _ (by decide)).trans (f4 e)), (fun _ => eval_put_same' _ _ _ (by rw [so.size]; show (8 : Nat) < _; omega)), (fun e => (eval_put_other' _ _ (by decide)).trans (f6 e)), (fun e => (eval_put_other' _ _ (by decide)).trans (f7 e)), (fun e => (eval_put_other' _ _ (by decide)).trans (f8 e)), (fun e => (eval_put_other' _ _ (by decide)).trans (f9 e)), d10_8, d10_0, d10_1, d10_2, d10_3, d10_4, (fun _ => rfl), d10_6, d10_7, d10_9, d8_7, d9_8⟩
    · have n10 : l 10 = false := by cases hx : l 10 with | false => rfl | true => have := d10_6 hx; rw [hl] at this; cases this
      have st0 := st
      refine o6.fieldN (by omega) ((show _ = a1.eval _ from by simp only [Act.eval, Array.getD_eq_getD_getElem?, so.out 1 (by decide)]).trans e1) ?_
      exact ⟨D, (so.put (by decide) _), st, (fun e => (eval_put_other' _ _ (by decide)).trans (f0 e)), (fun e => (eval_put_other' _ _ (by decide)).trans (f1 e)), (fun e => (eval_put_other' _ _ (by decide)).trans (f2 e)), (fun e => (eval_put_other' _ _ (by decide)).trans (f3 e)), (fun e => (eval_put_other' _ _ (by decide)).trans (f4 e)), (fun e => (eval_put_other' _ _ (by decide)).trans (f5 e)), (fun _ => eval_put_same' _ _ _ (by rw [so.size]; show (9 : Nat) < _; omega)), (fun e => (eval_put_other' _ _ (by decide)).trans (f7 e)), (fun e => (eval_put_other' _ _ (by decide)).trans (f8 e)), (fun e => (eval_put_other' _ _ (by decide)).trans (f9 e)), d10_8, d10_0, d10_1, d10_2, d10_3, d10_4, d10_5, (fun _ => rfl), d10_7, d10_9, d8_7, d9_8⟩
    · have ws := o7.waits ho hwait
      have w6 := ws 6 (by simp)
      have n10 : l 10 = false := by cases hx : l 10 with | false => rfl | true => have := d10_7 hx; rw [hl] at this; cases this
      have n8 : l 8 = false := by cases hx : l 8 with | false => rfl | true => have := d8_7 hx; rw [hl] at this; cases this
      have n9 : l 9 = false := by cases hx : l 9 with | false => rfl | true => have := d9_8 hx; rw [n8] at this; cases this
      have st0 := st
      have hl0 : Later wx w := by
        have hst := st
        simp only [n8, n10, Bool.false_eq_true, if_false] at hst
        exact hst
      refine o7.loadP7 (f6 w6) ((hb.later hl0).cell rfl) ?_
      exact ⟨D, (so.put (by decide) _), st, (fun e => (eval_put_other' _ _ (by decide)).trans (f0 e)), (fun e => (eval_put_other' _ _ (by decide)).trans (f1 e)), (fun e => (eval_put_other' _ _ (by decide)).trans (f2 e)), (fun e => (eval_put_other' _ _ (by decide)).trans (f3 e)), (fun e => (eval_put_other' _ _ (by decide)).trans (f4 e)), (fun e => (eval_put_other' _ _ (by decide)).trans (f5 e)), (fun e => (eval_put_other' _ _ (by decide)).trans (f6 e)), (fun _ => eval_put_same' _ _ _ (by rw [so.size]; show (10 : Nat) < _; omega)), (fun e => by rw [show more l 7 8 = l 8 from rfl, n8] at e; cases e), (fun e => by rw [show more l 7 9 = l 9 from rfl, n9] at e; cases e), d10_8, d10_0, d10_1, d10_2, d10_3, d10_4, d10_5, d10_6, (fun _ => rfl), d10_9, (fun _ => rfl), d9_8⟩
    · have ws := o8.waits ho hwait
      have w7 := ws 7 (by simp)
      have n10 : l 10 = false := by cases hx : l 10 with | false => rfl | true => have := d10_8 hx; rw [hl] at this; cases this
      have n9 : l 9 = false := by cases hx : l 9 with | false => rfl | true => have := d9_8 hx; rw [hl] at this; cases this
      have st0 : NwS 25 wx g x 0 D w := by
        have hst := st
        simp only [hl, n10, Bool.false_eq_true, if_false] at hst
        exact hst
      refine o8.call1 (enters_of Tryz.func34 (by kernel_rfl) rfl) (f7 w7) (lawOldX_any x.L x.nl x.cl x.xs w (hx.row.later st0) (by have := hx.lmost; omega)) ?_
      rintro e w' ⟨v1, rfl, ho1⟩
      obtain ⟨y, hy1, hy2, hy3, hy4, hy5, hy6, hy7⟩ := new_ok hx st0 ho1
      rw [hy1]
      have st1 : NwS 25 wx g x 1 ⟨y⟩ w' := ⟨Later.trans st0 ho1.later, hy2, hy3, hy4, hy5, hy6, hy7⟩
      have st2 : NwS 25 wx g x (if (more l 8) 10 = true then 2 else (if (more l 8) 8 = true then 1 else 0)) (⟨y⟩) w' := by
        rw [if_neg (show ¬ (more l 8 10 = true) from by rw [show more l 8 10 = l 10 from rfl, n10]; simp), if_pos (show more l 8 8 = true from rfl)]
        exact st1
      exact ⟨_, rfl, ⟨⟨y⟩, (so.put (by decide) _), st2, (fun e => (eval_put_other' _ _ (by decide)).trans (f0 e)), (fun e => (eval_put_other' _ _ (by decide)).trans (f1 e)), (fun e => (eval_put_other' _ _ (by decide)).trans (f2 e)), (fun e => (eval_put_other' _ _ (by decide)).trans (f3 e)), (fun e => (eval_put_other' _ _ (by decide)).trans (f4 e)), (fun e => (eval_put_other' _ _ (by decide)).trans (f5 e)), (fun e => (eval_put_other' _ _ (by decide)).trans (f6 e)), (fun e => (eval_put_other' _ _ (by decide)).trans (f7 e)), (fun _ => eval_put_same' _ _ _ (by rw [so.size]; show (11 : Nat) < _; omega)), (fun e => by rw [show more l 8 9 = l 9 from rfl, n9] at e; cases e), (fun _ => rfl), d10_0, d10_1, d10_2, d10_3, d10_4, d10_5, d10_6, d10_7, d10_9, (fun _ => w7), (fun _ => rfl)⟩⟩
    · have ws := o9.waits ho hwait
      have w1 := ws 1 (by simp)
      have w3 := ws 3 (by simp)
      have w5 := ws 5 (by simp)
      have w8 := ws 8 (by simp)
      have w7 := d8_7 w8
      have n10 : l 10 = false := by cases hx : l 10 with | false => rfl | true => have := d10_9 hx; rw [hl] at this; cases this
      have st0 := st
      have st9 : NwS 25 wx g x 1 D w := by
        have hst := st
        simp only [n10, Bool.false_eq_true, if_false, w8, if_true] at hst
        exact hst
      refine o9.buildOld (f1 w1) (f3 w3) (f5 w5) (f8 w8) rfl rfl ?_
      rw [show (Value.agg #[.int .i64 x.v.id, .string x.v.note, .slice x.D x.nd x.cd, .slice D.y.L D.y.nl D.y.cl]) = paV D.y from by unfold paV; rw [st9.2.2.2.1, st9.2.2.2.2.1, st9.2.2.2.2.2.1, st9.2.2.2.2.2.2]]
      exact ⟨D, (so.put (by decide) _), st, (fun e => (eval_put_other' _ _ (by decide)).trans (f0 e)), (fun e => (eval_put_other' _ _ (by decide)).trans (f1 e)), (fun e => (eval_put_other' _ _ (by decide)).trans (f2 e)), (fun e => (eval_put_other' _ _ (by decide)).trans (f3 e)), (fun e => (eval_put_other' _ _ (by decide)).trans (f4 e)), (fun e => (eval_put_other' _ _ (by decide)).trans (f5 e)), (fun e => (eval_put_other' _ _ (by decide)).trans (f6 e)), (fun e => (eval_put_other' _ _ (by decide)).trans (f7 e)), (fun e => (eval_put_other' _ _ (by decide)).trans (f8 e)), (fun _ => eval_put_same' _ _ _ (by rw [so.size]; show (12 : Nat) < _; omega)), d10_8, d10_0, d10_1, d10_2, d10_3, d10_4, d10_5, d10_6, d10_7, (fun _ => rfl), d8_7, (fun _ => w8)⟩
    · have ws := o10.waits ho hwait
      have w9 := ws 9 (by simp)
      have w8 := ws 8 (by simp)
      have w0 := ws 0 (by simp)
      have w1 := ws 1 (by simp)
      have w2 := ws 2 (by simp)
      have w3 := ws 3 (by simp)
      have w4 := ws 4 (by simp)
      have w5 := ws 5 (by simp)
      have w6 := ws 6 (by simp)
      have w7 := ws 7 (by simp)
      have st0 : NwS 25 wx g x 1 D w := by
        have hst := st
        simp only [hl, Bool.false_eq_true, if_false, if_true, w8] at hst
        exact hst
      refine o10.storeA Tryz.rpatchSize ((show _ = a1.eval _ from by simp only [Act.eval, Array.getD_eq_getD_getElem?, so.out 2 (by decide)]).trans e2) (f9 w9) (hb2.later st0.1) rfl ?_
      intro w' hb' ht'
      have st1 : NwS 25 wx g x 2 D w' := ⟨⟨w, st0.1, ht'⟩, st0.2.1.off ht' (st0.2.2.1 g hgl hgx), st0.2.2.1, st0.2.2.2.1, hb'⟩
      have st2 : NwS 25 wx g x (if (more l 10) 10 = true then 2 else (if (more l 10) 8 = true then 1 else 0)) (D) w' := by
        rw [if_pos (show more l 10 10 = true from rfl)]
        exact st1
      exact ⟨D, so, st2, f0, f1, f2, f3, f4, f5, f6, f7, f8, f9, (fun _ => w8), (fun _ => w0), (fun _ => w1), (fun _ => w2), (fun _ => w3), (fun _ => w4), (fun _ => w5), (fun _ => w6), (fun _ => w7), (fun _ => w9), d8_7, d9_8⟩
  · intro l a w hall ⟨D, so, st, f0, f1, f2, f3, f4, f5, f6, f7, f8, f9, d10_8, d10_0, d10_1, d10_2, d10_3, d10_4, d10_5, d10_6, d10_7, d10_9, d8_7, d9_8⟩
    rw [hn] at hall
    have hst : NwS 25 wx g x 2 D w := by
      have hst := st
      simp only [hall 10 (by decide), if_true] at hst
      exact hst
    exact hend D a w so hst
  · have h0 : NwS 25 wx g x 0 ⟨zeroN⟩ { wx with drawn := wx.drawn + 1 } := (Later.refl wx).drew
    exact ⟨⟨zeroN⟩, SameOut.refl _ _, h0, (fun e => by cases e), (fun e => by cases e), (fun e => by cases e), (fun e => by cases e), (fun e => by cases e), (fun e => by cases e), (fun e => by cases e), (fun e => by cases e), (fun e => by cases e), (fun e => by cases e), (fun e => by cases e), (fun e => by cases e), (fun e => by cases e), (fun e => by cases e), (fun e => by cases e), (fun e => by cases e), (fun e => by cases e), (fun e => by cases e), (fun e => by cases e), (fun e => by cases e), (fun e => by cases e), (fun e => by cases e)⟩

set_option maxRecDepth 100000 in
set_option maxHeartbeats 800000 in
theorem new7_any (x : PaC) (w : World) (hx : PaOk w x) : Calls Tryz.prog 10 #[paV x] w fun e w' => ∃ y : PaC, e = .returned (paV y) /\ y.v = x.v /\ PaOk w' y /\ MixN w x y /\ Later w w' := by
  have hlb : Later w ((w.alloc (.cells #[.int .i64 x.v.id, .string x.v.note, .slice x.D x.nd x.cd, .slice x.L x.nl x.cl] 25)).alloc (.cells #[.int .i64 0, .string ⟨#[]⟩, .slice none 0 0, .slice none 0 0] 30)) := ((Later.refl w).alloc _).alloc _
  have hb0 : BoxAt ((w.alloc (.cells #[.int .i64 x.v.id, .string x.v.note, .slice x.D x.nd x.cd, .slice x.L x.nl x.cl] 25)).alloc (.cells #[.int .i64 0, .string ⟨#[]⟩, .slice none 0 0, .slice none 0 0] 30)) w.heap.size (paL x).toArray 25 := (BoxAt.made w (paL x).toArray 25).alloc _
  have hb1 : BoxAt ((w.alloc (.cells #[.int .i64 x.v.id, .string x.v.note, .slice x.D x.nd x.cd, .slice x.L x.nl x.cl] 25)).alloc (.cells #[.int .i64 0, .string ⟨#[]⟩, .slice none 0 0, .slice none 0 0] 30)) (w.heap.size + 1) #[.int .i64 0, .string ⟨#[]⟩, .slice none 0 0, .slice none 0 0] 30 := by
    have := BoxAt.made (w.alloc (.cells #[.int .i64 x.v.id, .string x.v.note, .slice x.D x.nd x.cd, .slice x.L x.nl x.cl] 25)) #[.int .i64 0, .string ⟨#[]⟩, .slice none 0 0, .slice none 0 0] 30
    rw [World.size_alloc] at this
    exact this
  have HX := Lib.hid hx; have HLB := Lib.hid hlb; have HB0 := Lib.hid hb0; have HB1 := Lib.hid hb1
  clear hx hlb hb0 hb1
  unfold paV
  go_enter Tryz.func10, Tryz.ntmps10
  go_upto_region 1 with fail
  generalize ((w.alloc (.cells #[.int .i64 x.v.id, .string x.v.note, .slice x.D x.nd x.cd, .slice x.L x.nl x.cl] 25)).alloc (.cells #[.int .i64 0, .string ⟨#[]⟩, .slice none 0 0, .slice none 0 0] 30)) = wb at HLB HB0 HB1 ⊢
  have hlt := HB1.out.lt
  refine newNew_region rfl (by kernel_rfl) ⟨_, rfl, rfl, rfl, rfl, by kernel_rfl⟩ ⟨_, rfl, rfl, rfl, rfl, by kernel_rfl⟩ ⟨_, rfl, rfl, rfl, rfl, by kernel_rfl⟩ ⟨_, rfl, rfl, rfl, rfl, by kernel_rfl⟩ ⟨_, rfl, rfl, rfl, rfl, by kernel_rfl⟩ ⟨_, rfl, rfl, rfl, rfl, by kernel_rfl⟩ ⟨_, rfl, rfl, rfl, rfl, by kernel_rfl⟩ ⟨_, rfl, rfl, rfl, rfl, by kernel_rfl⟩ ⟨_, rfl, rfl, rfl, rfl, by kernel_rfl⟩ ⟨_, rfl, rfl, rfl, rfl, by kernel_rfl⟩ ⟨_, rfl, rfl, rfl, rfl, by kernel_rfl⟩ (of_decide_eq_true rfl) (x := x) (gb := w.heap.size) rfl rfl (HX.out.later HLB.out) HB0.out HB1.out hlt (HX.out.away (by omega)) (fun D a V so st => ?_)
  obtain ⟨⟨V1, s1, s2⟩, oy, my, ey, by_⟩ := st
  have HL := Lib.hid ((HLB.out.trans s1).turn s2 (by omega))
  have HOY := Lib.hid oy; have HEY := Lib.hid ey; have HBY := Lib.hid by_
  have HMY : Hid (MixN w x D.y) := fun k hk ha => my k (by have := HLB.out.le; omega) ha
  have ha := so.is
  simp only [List.foldl_cons, List.foldl_nil] at ha
  generalize a.eval (.tmp 3) = v3 at ha
  generalize a.eval (.tmp 4) = v4 at ha
  generalize a.eval (.tmp 5) = v5 at ha
  generalize a.eval (.tmp 6) = v6 at ha
  generalize a.eval (.tmp 7) = v7 at ha
  generalize a.eval (.tmp 8) = v8 at ha
  generalize a.eval (.tmp 9) = v9 at ha
  generalize a.eval (.tmp 10) = v10 at ha
  generalize a.eval (.tmp 11) = v11 at ha
  generalize a.eval (.tmp 12) = v12 at ha
  clear so s1 s2 oy my ey by_
  subst ha
  simp only [Act.put, List.setIfInBounds_toArray, List.set_cons_zero, List.set_cons_succ]
  go_wp2
  refine bodyPost_ret (results_cell_row rfl _ _ (w.heap.size + 1) 30 _ (0, 0) _ rfl HBY.out Tryz.underlying30 rfl Tryz.patchSize) rfl ?_
  exact ⟨D.y, rfl, HEY.out, HOY.out, HMY.out, HL.out⟩

set_option maxRecDepth 100000 in
set_option maxHeartbeats 800000 in
theorem old7_any (x : PaC) (w : World) (hx : PaOk w x) : Calls Tryz.prog 13 #[paV x] w fun e w' => ∃ y : PaC, e = .returned (paV y) /\ y.v = x.v /\ PaOk w' y /\ MixN w x y /\ Later w w' := by
  have hlb : Later w ((w.alloc (.cells #[.int .i64 x.v.id, .string x.v.note, .slice x.D x.nd x.cd, .slice x.L x.nl x.cl] 30)).alloc (.cells #[.int .i64 0, .string ⟨#[]⟩, .slice none 0 0, .slice none 0 0] 25)) := ((Later.refl w).alloc _).alloc _
  have hb0 : BoxAt ((w.alloc (.cells #[.int .i64 x.v.id, .string x.v.note, .slice x.D x.nd x.cd, .slice x.L x.nl x.cl] 30)).alloc (.cells #[.int .i64 0, .string ⟨#[]⟩, .slice none 0 0, .slice none 0 0] 25)) w.heap.size (paL x).toArray 30 := (BoxAt.made w (paL x).toArray 30).alloc _
  have hb1 : BoxAt ((w.alloc (.cells #[.int .i64 x.v.id, .string x.v.note, .slice x.D x.nd x.cd, .slice x.L x.nl x.cl] 30)).alloc (.cells #[.int .i64 0, .string ⟨#[]⟩, .slice none 0 0, .slice none 0 0] 25)) (w.heap.size + 1) #[.int .i64 0, .string ⟨#[]⟩, .slice none 0 0, .slice none 0 0] 25 := by
    have := BoxAt.made (w.alloc (.cells #[.int .i64 x.v.id, .string x.v.note, .slice x.D x.nd x.cd, .slice x.L x.nl x.cl] 30)) #[.int .i64 0, .string ⟨#[]⟩, .slice none 0 0, .slice none 0 0] 25
    rw [World.size_alloc] at this
    exact this
  have HX := Lib.hid hx; have HLB := Lib.hid hlb; have HB0 := Lib.hid hb0; have HB1 := Lib.hid hb1
  clear hx hlb hb0 hb1
  unfold paV
  go_enter Tryz.func13, Tryz.ntmps13
  go_upto_region 1 with fail
  generalize ((w.alloc (.cells #[.int .i64 x.v.id, .string x.v.note, .slice x.D x.nd x.cd, .slice x.L x.nl x.cl] 30)).alloc (.cells #[.int .i64 0, .string ⟨#[]⟩, .slice none 0 0, .slice none 0 0] 25)) = wb at HLB HB0 HB1 ⊢
  have hlt := HB1.out.lt
  refine newOld_region rfl (by kernel_rfl) ⟨_, rfl, rfl, rfl, rfl, by kernel_rfl⟩ ⟨_, rfl, rfl, rfl, rfl, by kernel_rfl⟩ ⟨_, rfl, rfl, rfl, rfl, by kernel_rfl⟩ ⟨_, rfl, rfl, rfl, rfl, by kernel_rfl⟩ ⟨_, rfl, rfl, rfl, rfl, by kernel_rfl⟩ ⟨_, rfl, rfl, rfl, rfl, by kernel_rfl⟩ ⟨_, rfl, rfl, rfl, rfl, by kernel_rfl⟩ ⟨_, rfl, rfl, rfl, rfl, by kernel_rfl⟩ ⟨_, rfl, rfl, rfl, rfl, by kernel_rfl⟩ ⟨_, rfl, rfl, rfl, rfl, by kernel_rfl⟩ ⟨_, rfl, rfl, rfl, rfl, by kernel_rfl⟩ (of_decide_eq_true rfl) (x := x) (gb := w.heap.size) rfl rfl (HX.out.later HLB.out) HB0.out HB1.out hlt (HX.out.away (by omega)) (fun D a V so st => ?_)
  obtain ⟨⟨V1, s1, s2⟩, oy, my, ey, by_⟩ := st
  have HL := Lib.hid ((HLB.out.trans s1).turn s2 (by omega))
  have HOY := Lib.hid oy; have HEY := Lib.hid ey; have HBY := Lib.hid by_
  have HMY : Hid (MixN w x D.y) := fun k hk ha => my k (by have := HLB.out.le; omega) ha
  have ha := so.is
  simp only [List.foldl_cons, List.foldl_nil] at ha
  generalize a.eval (.tmp 3) = v3 at ha
  generalize a.eval (.tmp 4) = v4 at ha
  generalize a.eval (.tmp 5) = v5 at ha
  generalize a.eval (.tmp 6) = v6 at ha
  generalize a.eval (.tmp 7) = v7 at ha
  generalize a.eval (.tmp 8) = v8 at ha
  generalize a.eval (.tmp 9) = v9 at ha
  generalize a.eval (.tmp 10) = v10 at ha
  generalize a.eval (.tmp 11) = v11 at ha
  generalize a.eval (.tmp 12) = v12 at ha
  clear so s1 s2 oy my ey by_
  subst ha
  simp only [Act.put, List.setIfInBounds_toArray, List.set_cons_zero, List.set_cons_succ]
  go_wp2
  refine bodyPost_ret (results_cell_row rfl _ _ (w.heap.size + 1) 25 _ (0, 0) _ rfl HBY.out Tryz.underlying25 rfl Tryz.rpatchSize) rfl ?_
  exact ⟨D.y, rfl, HEY.out, HOY.out, HMY.out, HL.out⟩

end Go.Proofs.YtlnjhimbgckdcaaGreat
