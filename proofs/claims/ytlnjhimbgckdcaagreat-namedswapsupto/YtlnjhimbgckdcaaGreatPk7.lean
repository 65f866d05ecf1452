import Derived.Test.YtlnjhimbgckdcaaGreatPk6
import Derived.Test.YtlnjhimbgckdcaaGreatPk4
import Derived.Deep.MidRow
import Derived.Test.YtlnjhimbgckdcaaGreatPk5
import Derived.Deep.LoopGhost
import Derived.Deep.QuietTactic
import Derived.BigQuiet
import Derived.Lib.Hide
import Derived.Test.YtlnjhimbgckdcaaGreatPk3
import Derived.RangeFuncNested
import Derived.TacticsIn
import Derived.OrdersIn
import Derived.RegionTactic
import Derived.Deep.Cut
import Derived.Deep.RegionWith
import Derived.Test.YtlnjhimbgckdcaaGreatChecked
import Derived.WalkKit
import Derived.Laws.StructEq

/-
  Stores of prims, as laws of the walk: into a block, into a row.
-/
namespace Go.Proofs.YtlnjhimbgckdcaaGreat
open Go.RowKit Go.Maps

theorem prV_is (x : PrC) : prV x = .agg (prL x).toArray := rfl
theorem prL_one (x : PrC) : (prL x).toArray.all (·.oneCell') = true := by simp [prL, Value.oneCell']
theorem grown_new {w w1 w2 : World} {r : Option Nat} {g : Nat} (h : w.grownBy w1 r) (k : Turned g w1 w2) (hg : w.heap.size ≤ g) : w.grownBy w2 r :=
  ⟨k.os.trans h.os, k.tape.trans h.tape, k.output.trans h.output, Nat.le_trans h.size k.size, fun i hi hne => (k.block i (Nat.lt_of_lt_of_le hi h.size) (by simp; omega)).trans (h.block i hi hne)⟩
section
variable {ops : Array Oper} {rest : List Oper} {op : Oper} {a : Act} {w w0 : World} {Q : Exit → Act → World → Prop}
theorem put_none (a : Act) (v : Value) : a.put none v = a := rfl
theorem wpList_store_box (hgd : op.guard = none) (hd : op.dst = none) (T : TypeId) (j k : Tmp) (ho : op.op = .store T (.tmp j) (.tmp k)) (hi : (Tryz.prog.info? T).map (·.size) = some 6) (g : Nat) (x : PrC) (hj : a.eval (.tmp j) = .pointer (some ⟨g, 0, none⟩)) (hv : a.eval (.tmp k) = prV x)
    {cs : Array Value} {t : TypeId} (hb : BoxAt w g cs t) (hs : cs.size = 6) (h : ∀ w', BoxAt w' g (prL x).toArray t → Turned g w w' → wpList Tryz.prog ops Q rest a w') : wpList Tryz.prog ops Q (op :: rest) a w := by
  refine wpList_store_row hgd T (.tmp j) (.tmp k) ho g (prL x).toArray hj (hv.trans (prV_is x)) t cs hb hi hs (prL_one x) ?_
  rw [hd, put_none]
  refine h _ ?_ ?_
  · exact setRow_heap w g cs _ t _ hb
  · exact ⟨rfl, rfl, rfl, by simp, fun i hi hne => setRow_other w g i _ (fun e => hne (by rw [e]))⟩
theorem wpList_store_ps (hgd : op.guard = none) (hd : op.dst = none) (T : TypeId) (j k : Tmp) (ho : op.op = .store T (.tmp j) (.tmp k)) (hi : (Tryz.prog.info? T).map (·.size) = some 6) {e : TypeId} {g o n c i : Nat} {xs : List PrC} (x : PrC) (hj : a.eval (.tmp j) = .pointer (some ⟨g, o + i * 6, none⟩)) (hv : a.eval (.tmp k) = prV x)
    (hown : OwnPs e w0 w (.slice (some ⟨g, o, none⟩) n c) xs) (hin : i < n) (hx : PrOk w x) (ha : Away g x) (h : ∀ w', OwnPs e w0 w' (.slice (some ⟨g, o, none⟩) n c) (xs.set i x) → Turned g w w' → wpList Tryz.prog ops Q rest a w') : wpList Tryz.prog ops Q (op :: rest) a w := by
  obtain ⟨b', o', q, hA, hz, hok, g0, g1, g2, g3, g4, g5⟩ := hown.ps.get hin
  cases hA
  have hth : w.there g (o + i * 6) 6 := by
    intro r hr
    refine ⟨?_, hown.frozen _⟩
    match r, hr with
    | 0, _ => rw [Nat.add_zero, g0]; rfl
    | 1, _ => rw [g1]; rfl
    | 2, _ => rw [g2]; rfl
    | 3, _ => rw [g3]; rfl
    | 4, _ => rw [g4]; rfl
    | 5, _ => rw [g5]; rfl
  refine wpList_store_mid hgd T (.tmp j) (.tmp k) ho g (o + i * 6) (prL x).toArray hj (hv.trans (prV_is x)) hth hi (prL_one x) ?_
  rw [hd, put_none]
  exact h _ (hown.set hin x hx ha) (turned_sets w g o i _ _ _ _ _ _)
end

end Go.Proofs.YtlnjhimbgckdcaaGreat

/-
  What the statements' own New and Old come to, as calls: rows of prims, as the program has them, and as the document has them.
-/
namespace Go.Proofs.YtlnjhimbgckdcaaGreat
open Go.RowKit Go.Maps

theorem Tryz.primInfo : (Tryz.prog.info? 58).map (fun i => (i.zero, i.size, i.bytes)) = some (some (.agg #[.int .i64 0, .string ByteArray.empty, .string ByteArray.empty, .int .i64 0, .slice none 0 0, .slice none 0 0]), 6, 96) := by kernel_rfl
theorem Tryz.rprimInfo : (Tryz.prog.info? 89).map (fun i => (i.zero, i.size, i.bytes)) = some (some (.agg #[.int .i64 0, .string ByteArray.empty, .string ByteArray.empty, .int .i64 0, .slice none 0 0, .slice none 0 0]), 6, 96) := by kernel_rfl

end Go.Proofs.YtlnjhimbgckdcaaGreat

/-
  More operations of a region that draws its order: rows of prims, boxes of one cell, indices.
-/
namespace Go.Proofs.YtlnjhimbgckdcaaGreat
open Go.RowKit Go.Maps

section
variable {ops : Array Oper} {Q : Exit → Act → World → Prop} {K : Act → World → Prop} {i : Nat} {dst : Option Tmp} {js : List Nat} {a : Act} {w w0 : World}
theorem OpIs.loadS {k : Tmp} {g : Nat} {v : Value} {t : TypeId} (h : OpIs ops i (.load 28 (.tmp k)) dst js) (he : a.eval (.tmp k) = .pointer (some ⟨g, 0, none⟩)) (hb : BoxAt w g #[v] t) (hk : K (a.put dst v) w) : wpOp Tryz.prog ops Q i K a w :=
  h.go fun o h1 h2 => by
    have hc := hb.cell (i := 0) rfl
    have hr : (execOp a.eval o).run Tryz.prog w = .ok (.value v) w := by
      clear hb hk
      unfold execOp
      rw [h1]
      dsimp only
      rw [he]
      go_simp
    unfold Oper.wp
    rw [hr]
    show K _ _
    rw [h2]
    exact hk
theorem OpIs.storeS {j k : Tmp} {g : Nat} {A : Option Addr} {n c : Nat} {u : Value} {t : TypeId} (h : OpIs ops i (.store 28 (.tmp j) (.tmp k)) none js) (hj : a.eval (.tmp j) = .pointer (some ⟨g, 0, none⟩)) (hv : a.eval (.tmp k) = .slice A n c) (hb : BoxAt w g #[u] t)
    (hk : ∀ w', BoxAt w' g #[.slice A n c] t → Turned g w w' → K a w') : wpOp Tryz.prog ops Q i K a w :=
  h.go fun o h1 h2 => by
    have hc := hb.cell (i := 0) rfl
    have hf := hb.frozen 0
    have hb' := hb.set 0 (.slice A n c)
    have ht := turned_set w g 0 (.slice A n c)
    have hr : (execOp a.eval o).run Tryz.prog w = .ok .skip (w.setCell ⟨g, 0, none⟩ (.slice A n c)) := by
      clear hb hb' ht hk
      unfold execOp
      rw [h1]
      dsimp only
      rw [hj, hv]
      go_simp
    unfold Oper.wp
    rw [hr]
    show K _ _
    rw [h2]
    exact hk _ hb' ht
theorem OpIs.storeB {j k : Tmp} {g : Nat} {b : Bool} {u : Value} {t : TypeId} (h : OpIs ops i (.store 4 (.tmp j) (.tmp k)) none js) (hj : a.eval (.tmp j) = .pointer (some ⟨g, 0, none⟩)) (hv : a.eval (.tmp k) = .bool b) (hb : BoxAt w g #[u] t)
    (hk : ∀ w', BoxAt w' g #[.bool b] t → Turned g w w' → K a w') : wpOp Tryz.prog ops Q i K a w :=
  h.go fun o h1 h2 => by
    have hc := hb.cell (i := 0) rfl
    have hf := hb.frozen 0
    have hb' := hb.set 0 (.bool b)
    have ht := turned_set w g 0 (.bool b)
    have hr : (execOp a.eval o).run Tryz.prog w = .ok .skip (w.setCell ⟨g, 0, none⟩ (.bool b)) := by
      clear hb hb' ht hk
      unfold execOp
      rw [h1]
      dsimp only
      rw [hj, hv]
      go_simp
    unfold Oper.wp
    rw [hr]
    show K _ _
    rw [h2]
    exact hk _ hb' ht
theorem OpIs.append {j k : Tmp} {v : Value} {xs ys : List PrC} {A : Option Addr} {m c : Nat} (h : OpIs ops i (.call { callee := .builtin .append, args := #[.tmp j, .tmp k], argTypes := #[28, 28] }) dst js) (hj : a.eval (.tmp j) = v) (hv : a.eval (.tmp k) = .slice A m c)
    (hown : OwnPs 58 w0 w v xs) (hr : RowK 6 w A m (ys.map prL)) (hok : ∀ y ∈ ys, PrOk w y) (haw : ∀ y ∈ ys, ∀ g, v.ownBlock = some g → Away g y) (hb : xs.length + m ≤ 1000000)
    (hk : ∀ v' w', OwnPs 58 w0 w' v' (xs ++ ys) → w.grownBy w' v.ownBlock → K (a.put dst v') w') : wpOp Tryz.prog ops Q i K a w :=
  h.go fun o h1 h2 => by
    obtain ⟨i0, hi, hz0, hz1, hz2⟩ := info_parts Tryz.primInfo
    obtain ⟨v', w', hrun, ho, hg⟩ := run_append_ps (P := Tryz.prog) 28 o.type i0 _ 96 Tryz.underlying28 hi hz0 hz1 hz2 rfl hown A m c ys hr hok haw hb (by omega)
    unfold Oper.wp execOp
    simp only [h1, resolve, invoke, builtin, Sem.run_bind, Sem.run_pure, Result.andThen_ok, List.map_toArray, List.map_cons, List.map_nil, hj, hv, hrun]
    show K _ _
    rw [h2]
    exact hk v' w' ho hg
end

end Go.Proofs.YtlnjhimbgckdcaaGreat

/-
  A region that draws its order, in a round of a range over a function: what stands behind each set of its operations.
-/
namespace Go.Proofs.YtlnjhimbgckdcaaGreat
open Go.RowKit

section
variable {P : Program} {ops : Array Oper} {Q : Exit → Act → World → Prop} {l n : Nat}
theorem op_in {o : Oper} {a : Act} {w : World} {K : Act → World → Prop} (hd : ∀ c, o.op ≠ .defer c) (h : o.wp P a w K Q) : o.wpIn (Fence.wide.inRound l) n P a w K Q := by
  refine ⟨fun _ _ => trivial, ?_⟩
  rw [show Oper.semAt (Fence.wide.inRound l).round a.eval o = execOp a.eval o from Oper.semAt_some l _ _ hd]
  unfold Oper.wp at h
  generalize (execOp a.eval o).run P w = r at *
  cases r with
  | ok x w' =>
    cases x <;> simp only [Oper.upon, Oper.uponIn] at h ⊢ <;> first
      | exact h
      | exact ⟨fun e => (by cases e), CallsIn.inRound l (callsIn_wide.2 h)⟩
      | exact ⟨fun e => (by cases e), fun c cs _ => let ⟨v, w', r, s⟩ := h c cs; ⟨v, w', r, stepsIn_wide.2 s⟩⟩
      | exact h.elim
  | halt x w' => cases x <;> simp only [Oper.upon, Oper.uponIn] at h ⊢ <;> exact h
def noDefer (ops : Array Oper) : Bool := ops.all fun o => match o.op with | .defer _ => false | _ => true
theorem noDefer_at (h : noDefer ops = true) {i : Nat} {o : Oper} (ho : ops[i]? = some o) : ∀ c, o.op ≠ .defer c := by
  intro c e
  obtain ⟨hi, rfl⟩ := Array.getElem?_eq_some_iff.1 ho
  have := Array.all_eq_true.1 h i hi
  rw [e] at this
  cases this
theorem wpOp_in {i : Nat} {K : Act → World → Prop} {a : Act} {w : World} (hd : noDefer ops = true) (hq : ¬ LetsOut Q) (h : wpOp P ops Q i K a w) : wpOpIn (Fence.wide.inRound l) n P ops Q i K a w := by
  unfold wpOp at h
  unfold wpOpIn
  cases ho : ops[i]? with
  | none => rw [ho] at h; exact h
  | some o =>
    rw [ho] at h
    dsimp only at h ⊢
    by_cases hw : Region.wanted o (yielded ops a.tmps) = true
    · rw [if_pos hw] at h ⊢
      rcases h with h | h
      · exact op_in (noDefer_at hd ho) h
      · exact absurd h.2 hq
    · rw [if_neg hw] at h ⊢
      exact ⟨fun _ _ => trivial, h⟩
end

theorem regionIn_inv {P : Program} {ops : Array Oper} {Q : Exit → Act → World → Prop} {id l n : Nat} {a : Act} {w : World} (hm : P.follows .mixedOrders = true) (hg : goesBack ops = true) (hd : noDefer ops = true) (hq : ¬ LetsOut Q) (Inv : (Nat → Bool) → Act → World → Prop)
    (hstep : ∀ s a w i o, ops[i]? = some o → s i = false → (∀ e ∈ o.after, Region.binds .any e = true → s e.on = true) → Inv s a w → wpOp P ops Q i (fun a' w' => Inv (more s i) a' w') a w)
    (hend : ∀ s a w, (∀ i, i < ops.size → s i = true) → Inv s a w → Q .normal a w)
    (h0 : Inv (fun _ => false) a { w with drawn := w.drawn + 1 }) : (Code.region id ops true).wpIn (Fence.wide.inRound l) n P Q a w := by
  have key : ∀ fuel (L : Array Bool) a w, L.size = ops.size → leftN (fun j => L.getD j false) ops.size ≤ fuel → Inv (fun j => L.getD j false) a w → wpAnyIn (Fence.wide.inRound l) n P .any ops Q fuel L a w := by
    intro fuel
    induction fuel with
    | zero =>
      intro L a w hs hf h
      have hall := left_zero _ _ (Nat.le_zero.1 hf)
      refine ⟨?_, hend _ _ _ hall h⟩
      cases hr : Region.ready .any ops L with
      | nil => rfl
      | cons i rs =>
        have hi := ready_parts hs (i := i) (by rw [hr]; exact List.mem_cons_self)
        have := hall i hi.1
        rw [hi.2.1] at this
        cases this
    | succ fuel ih =>
      intro L a w hs hf h
      refine ⟨fun hr => hend _ _ _ (ready_none hg hs hr) h, fun i hi => ?_⟩
      obtain ⟨h1, h2, h3⟩ := ready_parts hs hi
      refine wpOpIn_mono ?_ (wpOp_in hd hq (hstep _ a w i ops[i] (Array.getElem?_eq_getElem h1) h2 (h3 _ (Array.getElem?_eq_getElem h1)) h))
      intro a' w' h'
      refine ih _ _ _ (by simpa using hs) ?_ ?_
      · rw [getD_more (by omega)]
        have := left_more (fun j => L.getD j false) ops.size h1 h2
        omega
      · rw [getD_more (by omega)]; exact h'
  refine wpIn_region_any hm (key _ _ _ _ (by simp) ?_ ?_)
  · have : ∀ n (s : Nat → Bool), leftN s n ≤ n := fun n s => by
      induction n with
      | zero => exact Nat.le_refl _
      | succ n ih => unfold leftN; split <;> omega
    exact this _ _
  · have e : (fun j => (Array.replicate ops.size false).getD j false) = fun _ => false := by
      funext j
      simp only [Array.getD]
      split <;> simp
    rw [e]
    exact h0

end Go.Proofs.YtlnjhimbgckdcaaGreat

/-
  What swap's turnHunkAndMove comes to, as a call.
-/
namespace Go.Proofs.YtlnjhimbgckdcaaGreat
open Go.RowKit Go.Maps

theorem four_boxes (w : World) (a b c d : Array Value) (t : TypeId) : BoxAt ((((w.alloc (.cells a t)).alloc (.cells b t)).alloc (.cells c t)).alloc (.cells d t)) w.heap.size a t ∧ BoxAt ((((w.alloc (.cells a t)).alloc (.cells b t)).alloc (.cells c t)).alloc (.cells d t)) (w.heap.size + 1) b t ∧
    BoxAt ((((w.alloc (.cells a t)).alloc (.cells b t)).alloc (.cells c t)).alloc (.cells d t)) (w.heap.size + 1 + 1) c t ∧ BoxAt ((((w.alloc (.cells a t)).alloc (.cells b t)).alloc (.cells c t)).alloc (.cells d t)) (w.heap.size + 1 + 1 + 1) d t ∧ Later w ((((w.alloc (.cells a t)).alloc (.cells b t)).alloc (.cells c t)).alloc (.cells d t)) := by
  refine ⟨(((BoxAt.made w a t).alloc _).alloc _).alloc _, ?_, ?_, ?_, ((((Later.refl w).alloc _).alloc _).alloc _).alloc _⟩
  · have := ((BoxAt.made (w.alloc (.cells a t)) b t).alloc (.cells c t)).alloc (.cells d t)
    simpa using this
  · have := (BoxAt.made ((w.alloc (.cells a t)).alloc (.cells b t)) c t).alloc (.cells d t)
    simpa using this
  · have := BoxAt.made (((w.alloc (.cells a t)).alloc (.cells b t)).alloc (.cells c t)) d t
    simpa using this

set_option maxRecDepth 100000 in
set_option maxHeartbeats 800000 in
theorem turnHM_any (x y : PrC) (w : World) (hx : PrOk w x) (hy : PrOk w y) :
    Calls Tryz.prog 84 #[prV x, prV y] w (GivesW x y (turnHM x.v y.v) w) := by
  have HX := Lib.hid hx; have HY := Lib.hid hy
  clear hx hy
  obtain ⟨⟨kd, nm, to, pl, old, new⟩, A, n, c, B, m, d⟩ := x
  obtain ⟨⟨ke, nn, tt, pk, pold, pnew⟩, C, i, e, D, j, f⟩ := y
  unfold prV turnHM
  dsimp only at *
  by_cases h1 : nm = tt
  · subst h1
    rw [if_pos rfl]
    go_enter Tryz.func84, Tryz.ntmps84
    go_wp2
    obtain ⟨_, _, b2, b3, hl⟩ := four_boxes w _ _ _ _ 58
    exact bodyPost_ret (results_two rfl _ _ _ _ _ _ _ _ _ _ _ _ rfl rfl rfl b2 b3 Tryz.underlying58 rfl Tryz.primSize Tryz.primSize) rfl ⟨zeroC, zeroC, rfl, rfl, rfl, (fun _ _ _ => ⟨zeroC_ok _, zeroC_ok _⟩), hl⟩
  · rw [if_neg h1]
    by_cases h2 : nm = nn
    · subst h2
      rw [if_pos rfl]
      have t1 := text_ne h1
      go_enter Tryz.func84, Tryz.ntmps84
      go_upto_region 6 with fail
      go_region
      go_wp2
      obtain ⟨_, _, b2, b3, hl⟩ := four_boxes w _ _ _ _ 58
      exact bodyPost_ret (results_two rfl _ _ _ _ _ _ _ _ _ _ _ _ rfl rfl rfl (b2.later (Later.refl _).drew) (b3.later (Later.refl _).drew) Tryz.underlying58 rfl Tryz.primSize Tryz.primSize) rfl
        ⟨⟨⟨ke, nm, tt, pk, pold, pnew⟩, C, i, e, D, j, f⟩, inC ⟨⟨kd, nm, to, pl, old, new⟩, A, n, c, B, m, d⟩ tt, rfl, rfl, rfl, (fun _ hx9 hy9 => ⟨hy9, (inC_ok hx9 hy9.to)⟩), hl.drew⟩
    · rw [if_neg h2]
      have t1 := text_ne h1
      have t2 := text_ne h2
      go_enter Tryz.func84, Tryz.ntmps84
      go_upto_region 6 with fail
      go_region
      go_wp2
      obtain ⟨_, _, b2, b3, hl⟩ := four_boxes w _ _ _ _ 58
      exact bodyPost_ret (results_two rfl _ _ _ _ _ _ _ _ _ _ _ _ rfl rfl rfl (b2.later (Later.refl _).drew) (b3.later (Later.refl _).drew) Tryz.underlying58 rfl Tryz.primSize Tryz.primSize) rfl
        ⟨⟨⟨ke, nn, tt, pk, pold, pnew⟩, C, i, e, D, j, f⟩, ⟨⟨kd, nm, to, pl, old, new⟩, A, n, c, B, m, d⟩, rfl, rfl, rfl, (fun _ hx9 hy9 => ⟨hy9, hx9⟩), hl.drew⟩

end Go.Proofs.YtlnjhimbgckdcaaGreat

/-
  What swap's turnMoveAndHunk comes to, as a call.
-/
namespace Go.Proofs.YtlnjhimbgckdcaaGreat
open Go.RowKit Go.Maps

set_option maxRecDepth 100000 in
set_option maxHeartbeats 800000 in
theorem turnMH_any (x y : PrC) (w : World) (hx : PrOk w x) (hy : PrOk w y) :
    Calls Tryz.prog 85 #[prV x, prV y] w (GivesW x y (turnMH x.v y.v) w) := by
  have HX := Lib.hid hx; have HY := Lib.hid hy
  clear hx hy
  obtain ⟨⟨kd, nm, to, pl, old, new⟩, A, n, c, B, m, d⟩ := x
  obtain ⟨⟨ke, nn, tt, pk, pold, pnew⟩, C, i, e, D, j, f⟩ := y
  unfold prV turnMH
  dsimp only at *
  by_cases h1 : nn = nm
  · subst h1
    rw [if_pos rfl]
    go_enter Tryz.func85, Tryz.ntmps85
    go_wp2
    obtain ⟨_, _, b2, b3, hl⟩ := four_boxes w _ _ _ _ 58
    exact bodyPost_ret (results_two rfl _ _ _ _ _ _ _ _ _ _ _ _ rfl rfl rfl b2 b3 Tryz.underlying58 rfl Tryz.primSize Tryz.primSize) rfl ⟨zeroC, zeroC, rfl, rfl, rfl, (fun _ _ _ => ⟨zeroC_ok _, zeroC_ok _⟩), hl⟩
  · rw [if_neg h1]
    by_cases h2 : nn = to
    · subst h2
      rw [if_pos rfl]
      have t1 := text_ne h1
      go_enter Tryz.func85, Tryz.ntmps85
      go_upto_region 6 with fail
      go_region
      go_wp2
      obtain ⟨_, _, b2, b3, hl⟩ := four_boxes w _ _ _ _ 58
      exact bodyPost_ret (results_two rfl _ _ _ _ _ _ _ _ _ _ _ _ rfl rfl rfl (b2.later (Later.refl _).drew) (b3.later (Later.refl _).drew) Tryz.underlying58 rfl Tryz.primSize Tryz.primSize) rfl
        ⟨inC ⟨⟨ke, nn, tt, pk, pold, pnew⟩, C, i, e, D, j, f⟩ nm, ⟨⟨kd, nm, nn, pl, old, new⟩, A, n, c, B, m, d⟩, rfl, rfl, rfl, (fun _ hx9 hy9 => ⟨(inC_ok hy9 hx9.name), hx9⟩), hl.drew⟩
    · rw [if_neg h2]
      have t1 := text_ne h1
      have t2 := text_ne h2
      go_enter Tryz.func85, Tryz.ntmps85
      go_upto_region 6 with fail
      go_region
      go_wp2
      obtain ⟨_, _, b2, b3, hl⟩ := four_boxes w _ _ _ _ 58
      exact bodyPost_ret (results_two rfl _ _ _ _ _ _ _ _ _ _ _ _ rfl rfl rfl (b2.later (Later.refl _).drew) (b3.later (Later.refl _).drew) Tryz.underlying58 rfl Tryz.primSize Tryz.primSize) rfl
        ⟨⟨⟨ke, nn, tt, pk, pold, pnew⟩, C, i, e, D, j, f⟩, ⟨⟨kd, nm, to, pl, old, new⟩, A, n, c, B, m, d⟩, rfl, rfl, rfl, (fun _ hx9 hy9 => ⟨hy9, hx9⟩), hl.drew⟩

end Go.Proofs.YtlnjhimbgckdcaaGreat

/-
  What swap's turnHunks comes to, as a call.
-/
namespace Go.Proofs.YtlnjhimbgckdcaaGreat
open Go.RowKit Go.Maps

set_option maxRecDepth 100000 in
theorem growth_exact (kd : Int) (nm to : ByteArray) (pl : Int) (A B : Option Addr) (n c m d : Nat) (w : World) (h1 : n ≤ 65536) (h2 : m ≤ 65536) :
    Calls Tryz.prog 92 #[.agg #[.int .i64 kd, .string nm, .string to, .int .i64 pl, .slice A n c, .slice B m d]] w fun e w' => e = .returned (.int .i64 ((m : Int) - n)) ∧ w' = w.alloc (.cells #[.int .i64 kd, .string nm, .string to, .int .i64 pl, .slice A n c, .slice B m d] 58) := by
  go_enter Tryz.func92, Tryz.ntmps92
  go_wp2
  go_ret
  exact ⟨by go_num, rfl⟩

set_option maxRecDepth 100000 in
set_option maxHeartbeats 1600000 in
theorem turnHH_any (x y : PrC) (w : World) (hx : PrOk w x) (hy : PrOk w y) (hp : 0 ≤ x.v.place ∧ x.v.place ≤ 1048576) (hq : 0 ≤ y.v.place ∧ y.v.place ≤ 1048576) :
    Calls Tryz.prog 83 #[prV x, prV y] w (GivesW x y (turnHH x.v y.v) w) := by
  have HX := Lib.hid hx; have HY := Lib.hid hy
  have l1 := hx.old.len; have l2 := hx.new.len; have l3 := hy.old.len; have l4 := hy.new.len
  have k1 := hx.omost; have k2 := hx.nmost; have k3 := hy.omost; have k4 := hy.nmost
  clear hx hy
  obtain ⟨⟨kd, nm, to, pl, old, new⟩, A, n, c, B, m, d⟩ := x
  obtain ⟨⟨ke, nn, tt, pk, pold, pnew⟩, C, i, e, D, j, f⟩ := y
  unfold prV turnHH
  dsimp only at *
  rw [l1, l2, l3, l4]
  clear l1 l2 l3 l4
  obtain ⟨hp1, hp2⟩ := hp
  obtain ⟨hq1, hq2⟩ := hq
  by_cases h1 : nm = nn
  · subst h1
    rw [if_neg (fun h => h rfl)]
    by_cases h2 : pk > pl + m
    · rw [if_pos h2]
      have hw : IntKind.i64.wrap (pk - ((m : Int) - n)) = pk - ((m : Int) - n) := IntWalk.i64_in _ (by omega)
      go_enter Tryz.func83, Tryz.ntmps83
      go_upto_region 4 with fail
      go_region_with (go_at_call 92; refine (growth_exact _ _ _ _ _ _ _ _ _ _ _ k1 k2).mono ?_; rintro e w' ⟨rfl, rfl⟩)
      all_goals go_upto_region 7 with fail
      all_goals go_region
      all_goals go_wp2
      all_goals
        obtain ⟨_, _, b2, b3, hl⟩ := four_boxes w _ _ _ _ 58
        exact bodyPost_ret (results_two rfl _ _ _ _ _ _ _ _ _ _ _ _ rfl rfl rfl (b2.later ((Later.refl _).alloc _).drew.drew) (b3.later ((Later.refl _).alloc _).drew.drew) Tryz.underlying58 rfl Tryz.primSize Tryz.primSize) rfl
          ⟨atC ⟨⟨ke, nm, tt, pk, pold, pnew⟩, C, i, e, D, j, f⟩ (pk - ((m : Int) - n)), ⟨⟨kd, nm, to, pl, old, new⟩, A, n, c, B, m, d⟩, rfl, rfl, rfl, (fun _ hx9 hy9 => ⟨(atC_ok hy9 (by omega) (by omega)), (hx9)⟩), (hl.alloc _).drew.drew⟩
    · rw [if_neg h2]
      by_cases h3 : pk + i < pl
      · rw [if_pos h3]
        have hw : IntKind.i64.wrap (pl + ((j : Int) - i)) = pl + ((j : Int) - i) := IntWalk.i64_in _ (by omega)
        go_enter Tryz.func83, Tryz.ntmps83
        go_upto_region 6 with fail
        go_region_with (go_at_call 92; refine (growth_exact _ _ _ _ _ _ _ _ _ _ _ k3 k4).mono ?_; rintro e w' ⟨rfl, rfl⟩)
        all_goals go_upto_region 7 with fail
        all_goals go_region
        all_goals go_wp2
        all_goals
          obtain ⟨_, _, b2, b3, hl⟩ := four_boxes w _ _ _ _ 58
          exact bodyPost_ret (results_two rfl _ _ _ _ _ _ _ _ _ _ _ _ rfl rfl rfl (b2.later ((Later.refl _).alloc _).drew.drew) (b3.later ((Later.refl _).alloc _).drew.drew) Tryz.underlying58 rfl Tryz.primSize Tryz.primSize) rfl
            ⟨⟨⟨ke, nm, tt, pk, pold, pnew⟩, C, i, e, D, j, f⟩, atC ⟨⟨kd, nm, to, pl, old, new⟩, A, n, c, B, m, d⟩ (pl + ((j : Int) - i)), rfl, rfl, rfl, (fun _ hx9 hy9 => ⟨(hy9), (atC_ok hx9 (by omega) (by omega))⟩), (hl.alloc _).drew.drew⟩
      · rw [if_neg h3]
        go_enter Tryz.func83, Tryz.ntmps83
        go_wp2
        obtain ⟨_, _, b2, b3, hl⟩ := four_boxes w _ _ _ _ 58
        exact bodyPost_ret (results_two rfl _ _ _ _ _ _ _ _ _ _ _ _ rfl rfl rfl b2 b3 Tryz.underlying58 rfl Tryz.primSize Tryz.primSize) rfl ⟨zeroC, zeroC, rfl, rfl, rfl, (fun _ _ _ => ⟨zeroC_ok _, zeroC_ok _⟩), hl⟩
  · rw [if_pos h1]
    have t1 := text_ne h1
    go_enter Tryz.func83, Tryz.ntmps83
    go_upto_region 7 with fail
    go_region
    go_wp2
    obtain ⟨_, _, b2, b3, hl⟩ := four_boxes w _ _ _ _ 58
    exact bodyPost_ret (results_two rfl _ _ _ _ _ _ _ _ _ _ _ _ rfl rfl rfl (b2.later (Later.refl _).drew) (b3.later (Later.refl _).drew) Tryz.underlying58 rfl Tryz.primSize Tryz.primSize) rfl
      ⟨⟨⟨ke, nn, tt, pk, pold, pnew⟩, C, i, e, D, j, f⟩, ⟨⟨kd, nm, to, pl, old, new⟩, A, n, c, B, m, d⟩, rfl, rfl, rfl, (fun _ hx9 hy9 => ⟨hy9, hx9⟩), hl.drew⟩

end Go.Proofs.YtlnjhimbgckdcaaGreat

/-
  Two arrays of two ints, compared.
-/
namespace Go.Proofs.YtlnjhimbgckdcaaGreat
open Go.RowKit

theorem kinds_eqAt (n : Nat) (hin : ∀ (x y : Int) (w : World), (Op.equalIn n 3 (.int .i64 x) (.int .i64 y)).run Tryz.prog w = .ok (x == y) w) (a b c d : Int) (w : World) :
    (Op.equalIn (n + 1) 113 (.agg #[.int .i64 a, .int .i64 b]) (.agg #[.int .i64 c, .int .i64 d])).run Tryz.prog w = .ok (a == c && b == d) w := by
  have p1 : ∀ (x y : Int) (w : World), (part 3 #[.int .i64 x, .int .i64 y] 0).run Tryz.prog w = .ok (.int .i64 x) w := fun x y w => by
    simp [part, Tryz.isAgg3]
  have p2 : ∀ (x y : Int) (w : World), (part 3 #[.int .i64 x, .int .i64 y] 1).run Tryz.prog w = .ok (.int .i64 y) w := fun x y w => by
    simp [part, Tryz.isAgg3]
  simp only [Op.equalIn, Sem.run_bind, run_underlying Tryz.underlying113, Result.andThen_ok, Tryz.sizeOf3]
  simp only [Std.Legacy.Range.forIn_eq_forIn_range', Std.Legacy.Range.size, Nat.sub_zero, Nat.add_sub_cancel, Nat.div_one, List.range', List.forIn_cons, List.forIn_nil, Nat.zero_add, Nat.mul_one, Sem.run_bind, p1, hin, Result.andThen_ok]
  cases h1 : a == c
  · simp
  · cases h2 : b == d
    · simp only [beq_eq_false_iff_ne, ne_eq] at h2
      simp [p2, hin, h2]
    · simp only [beq_iff_eq] at h2
      simp [p2, hin, h2]

theorem kinds_eqIn (a b c d : Int) (w : World) : (Op.equalIn 10000 113 (.agg #[.int .i64 a, .int .i64 b]) (.agg #[.int .i64 c, .int .i64 d])).run Tryz.prog w = .ok (a == c && b == d) w :=
  kinds_eqAt 9999 (fun x y w => run_equalIn_int w 9998 3 .i64 .i64 x y Tryz.underlying3) a b c d w

end Go.Proofs.YtlnjhimbgckdcaaGreat
