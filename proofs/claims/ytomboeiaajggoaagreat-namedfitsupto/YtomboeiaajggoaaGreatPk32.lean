import Derived.Test.YtomboeiaajggoaaGreatPk15
import Derived.Test.YtomboeiaajggoaaGreatPk11
import Derived.Test.YtomboeiaajggoaaGreatPk13
import Derived.Test.YtomboeiaajggoaaGreatPk31
import Derived.Test.YtomboeiaajggoaaGreatPk6
import Derived.Test.YtomboeiaajggoaaGreatChecked
import Derived.Test.YtomboeiaajggoaaGreatPk5
import Derived.Deep.LoopGhost
import Derived.Deep.RegionHeld3
import Derived.Lib.Hide
import Derived.Test.YtomboeiaajggoaaGreatPk30
import Derived.Test.YtomboeiaajggoaaGreatPk7
import Derived.Test.YtomboeiaajggoaaGreatPk10

/-
  The statement of Apply's inner loop: in whatever order its operations come.
-/
namespace Go.Proofs.YtomboeiaajggoaaGreat
open Go.RowKit Go.Maps

section
variable {ops : Array Oper} {Q : Exit → Act → World → Prop} {K : Act → World → Prop} {i : Nat} {dst : Option Tmp} {js : List Nat} {a : Act} {w : World}
theorem OpIs.loadT {k : Tmp} {g : Nat} {v : Value} {t : TypeId} (h : OpIs ops i (.load 56 (.tmp k)) dst js) (he : a.eval (.tmp k) = .pointer (some ⟨g, 0, none⟩)) (hb : BoxAt w g #[v] t) (hk : K (a.put dst v) w) : wpOp Tryz.prog ops Q i K a w :=
  h.go fun o h1 h2 => by
    have hc := hb.cell (i := 0) rfl
    have hr : (execOp a.eval o).run Tryz.prog w = .ok (.value v) w := by
      clear hb hk
      unfold execOp
      rw [h1]
      dsimp only
      rw [he]
      go_simp
    unfold Oper.wp
    rw [hr]
    show K _ _
    rw [h2]
    exact hk
end
def ApSt (V0 : World) (p B : Nat) (x : PrC) (r : Tr × Int) : Nat → PrC → World → Prop
  | 0, _, V => Later V0 V
  | 1, y, V => Later V0 V ∧ y.v = invertP x.v ∧ PrOk V y
  | _, _, V => TreeAt V p B r.1 ∧ Turned B V0 V

set_option maxHeartbeats 1600000 in
theorem ap_region {ops : Array Oper} (hn : ops.size = 4) (hg : goesBack ops = true) (hdf : noDefer ops = true)
    (o0 : OpIs ops 0 (.load 56 (.tmp 2)) (some 28) [])
    (o1 : OpIs ops 1 (.load 69 (.tmp 9)) (some 29) [])
    (o2 : OpIs ops 2 (.call { callee := .value (.func 79), args := #[.tmp 29], argTypes := #[69] }) (some 30) [1])
    (o3 : OpIs ops 3 (.call { callee := .value (.func 78), args := #[.tmp 28, .tmp 30], argTypes := #[56, 69] }) (some 31) [0, 2])
    {a1 : Act} (hs : 34 ≤ a1.tmps.size) {wx : World} {p B k h g2 gx : Nat} {u : Tr} {x : PrC} (e2 : a1.eval (.tmp 2) = .pointer (some ⟨g2, 0, none⟩)) (e9 : a1.eval (.tmp 9) = .pointer (some ⟨gx, 0, none⟩)) (hb2 : BoxAt wx g2 #[.pointer (some ⟨p, 0, none⟩)] 56) (hbx : BoxAt wx gx (prL x).toArray 69) (hx : PrOk wx x) (ht : TreeAt wx p B u) (hs : Sized k h u) (hk : k ≤ 60000) (hh : h + (invertP x.v).new.length ≤ 65536)
    {Q : Exit → Act → World → Prop} (hq : ¬ LetsOut Q) {id lp mp : Nat} (hend : ∀ (D : PrC) (a : Act) (w : World), SameOut a1 a [28, 29, 30, 31] → ApSt wx p B x (applyP u (invertP x.v)) (2) D w → Q .normal a w) :
    (Code.region id ops true).wpIn (Fence.wide.inRound lp) mp Tryz.prog Q a1 wx := by
  refine regionIn_inv (by kernel_rfl) hg hdf hq (fun l a w => ∃ D : PrC, SameOut a1 a [28, 29, 30, 31] ∧ ApSt wx p B x (applyP u (invertP x.v)) (if l 3 = true then 2 else (if l 2 = true then 1 else 0)) D w ∧ (l 0 = true → a.eval (.tmp 28) = .pointer (some ⟨p, 0, none⟩)) ∧ (l 1 = true → a.eval (.tmp 29) = prV x) ∧ (l 2 = true → a.eval (.tmp 30) = prV D) ∧ (l 3 = true → a.eval (.tmp 31) = .int .i64 (applyP u (invertP x.v)).2) ∧ (l 3 = true → l 2 = true) ∧ (l 3 = true → l 0 = true) ∧ (l 2 = true → l 1 = true)) ?_ ?_ ?_
  · intro l a w i o ho hl hwait ⟨D, so, st, f0, f1, f2, f3, d3_2, d3_0, d2_1⟩
    have hi : i < 4 := by rw [← hn]; exact (Array.getElem?_eq_some_iff.1 ho).1
    have hc : i = 0 ∨ i = 1 ∨ i = 2 ∨ i = 3 := by omega
    rcases hc with rfl | rfl | rfl | rfl
    · have n3 : l 3 = false := by cases hx : l 3 with | false => rfl | true => have := d3_0 hx; rw [hl] at this; cases this
      have st0 := st
      have hl0 : Later wx w := by
        have hst := st
        simp only [n3, Bool.false_eq_true, if_false] at hst
        split at hst
        · exact hst.1
        · exact hst
      refine o0.loadT ((show _ = a1.eval _ from by simp only [Act.eval, Array.getD_eq_getD_getElem?, so.out 2 (by decide)]).trans e2) (hb2.later hl0) ?_
      exact ⟨D, (so.put (by decide) _), st, (fun _ => eval_put_same' _ _ _ (by rw [so.size]; show (28 : Nat) < _; omega)), (fun e => (eval_put_other' _ _ (by decide)).trans (f1 e)), (fun e => (eval_put_other' _ _ (by decide)).trans (f2 e)), (fun e => by rw [show more l 0 3 = l 3 from rfl, n3] at e; cases e), d3_2, (fun _ => rfl), d2_1⟩
    · have n2 : l 2 = false := by cases hx : l 2 with | false => rfl | true => have := d2_1 hx; rw [hl] at this; cases this
      have n3 : l 3 = false := by cases hx : l 3 with | false => rfl | true => have := d3_2 hx; rw [n2] at this; cases this
      have st0 := st
      have hl0 : Later wx w := by
        have hst := st
        simp only [n2, n3, Bool.false_eq_true, if_false] at hst
        exact hst
      refine o1.load Tryz.underlying69 Tryz.primSize ((show _ = a1.eval _ from by simp only [Act.eval, Array.getD_eq_getD_getElem?, so.out 9 (by decide)]).trans e9) (hbx.later hl0) ?_
      exact ⟨D, (so.put (by decide) _), st, (fun e => (eval_put_other' _ _ (by decide)).trans (f0 e)), (fun _ => eval_put_same' _ _ _ (by rw [so.size]; show (29 : Nat) < _; omega)), (fun e => by rw [show more l 1 2 = l 2 from rfl, n2] at e; cases e), (fun e => by rw [show more l 1 3 = l 3 from rfl, n3] at e; cases e), d3_2, d3_0, (fun _ => rfl)⟩
    · have ws := o2.waits ho hwait
      have w1 := ws 1 (by simp)
      have n3 : l 3 = false := by cases hx : l 3 with | false => rfl | true => have := d3_2 hx; rw [hl] at this; cases this
      have st0 : ApSt wx p B x (applyP u (invertP x.v)) 0 D w := by
        have hst := st
        simp only [hl, n3, Bool.false_eq_true, if_false] at hst
        exact hst
      refine o2.call1 (enters_of Tryz.func79 (by kernel_rfl) rfl) (f1 w1) (invertP_any x w (hx.later st0)) ?_
      rintro e w' ⟨y, rfl, hy, oky, fry, hl'⟩
      have st1 : ApSt wx p B x (applyP u (invertP x.v)) 1 y w' := ⟨Later.trans st0 hl', hy, oky⟩
      have st2 : ApSt wx p B x (applyP u (invertP x.v)) (if (more l 2) 3 = true then 2 else (if (more l 2) 2 = true then 1 else 0)) (y) w' := by
        rw [if_neg (show ¬ (more l 2 3 = true) from by rw [show more l 2 3 = l 3 from rfl, n3]; simp), if_pos (show more l 2 2 = true from rfl)]
        exact st1
      exact ⟨_, rfl, ⟨y, (so.put (by decide) _), st2, (fun e => (eval_put_other' _ _ (by decide)).trans (f0 e)), (fun e => (eval_put_other' _ _ (by decide)).trans (f1 e)), (fun _ => eval_put_same' _ _ _ (by rw [so.size]; show (30 : Nat) < _; omega)), (fun e => by rw [show more l 2 3 = l 3 from rfl, n3] at e; cases e), (fun _ => rfl), d3_0, (fun _ => w1)⟩⟩
    · have ws := o3.waits ho hwait
      have w0 := ws 0 (by simp)
      have w2 := ws 2 (by simp)
      have w1 := d2_1 w2
      have st0 : ApSt wx p B x (applyP u (invertP x.v)) 1 D w := by
        have hst := st
        simp only [hl, Bool.false_eq_true, if_false, if_true, w2] at hst
        exact hst
      have hyn := st0.2.2.new.len
      rw [st0.2.1] at hyn
      have hca := apply_any D p B k h u w (ht.later st0.1) st0.2.2 hs hk (by omega)
      rw [st0.2.1] at hca
      refine o3.call2 (enters_of Tryz.func78 (by kernel_rfl) rfl) (f0 w0) (f2 w2) hca ?_
      rintro e w' ⟨rfl, htw, htu⟩
      have st1 : ApSt wx p B x (applyP u (invertP x.v)) 2 D w' := ⟨htw, (st0.1.turned B).trans htu⟩
      have st2 : ApSt wx p B x (applyP u (invertP x.v)) (if (more l 3) 3 = true then 2 else (if (more l 3) 2 = true then 1 else 0)) (D) w' := by
        rw [if_pos (show more l 3 3 = true from rfl)]
        exact st1
      exact ⟨_, rfl, ⟨D, (so.put (by decide) _), st2, (fun e => (eval_put_other' _ _ (by decide)).trans (f0 e)), (fun e => (eval_put_other' _ _ (by decide)).trans (f1 e)), (fun e => (eval_put_other' _ _ (by decide)).trans (f2 e)), (fun _ => eval_put_same' _ _ _ (by rw [so.size]; show (31 : Nat) < _; omega)), (fun _ => w2), (fun _ => w0), d2_1⟩⟩
  · intro l a w hall ⟨D, so, st, f0, f1, f2, f3, d3_2, d3_0, d2_1⟩
    rw [hn] at hall
    have hst : ApSt wx p B x (applyP u (invertP x.v)) 2 D w := by
      have hst := st
      simp only [hall 3 (by decide), if_true] at hst
      exact hst
    exact hend D a w so hst
  · have h0 : ApSt wx p B x (applyP u (invertP x.v)) 0 x { wx with drawn := wx.drawn + 1 } := (Later.refl wx).drew
    exact ⟨x, SameOut.refl _ _, h0, (fun e => by cases e), (fun e => by cases e), (fun e => by cases e), (fun e => by cases e), (fun e => by cases e), (fun e => by cases e), (fun e => by cases e)⟩

end Go.Proofs.YtomboeiaajggoaaGreat

/-
  slices.Backward at a row of prims, where a round may turn what is no cells: what its closure hands on, round by round.
-/
namespace Go.Proofs.YtomboeiaajggoaaGreat
open Go.RowKit Go.Maps
attribute [local go_sem] Oper.semAt_some

/-- All cells that were there are as they were. -/
def Cells (w w' : World) : Prop := ∀ a v, w.cell? a = some v → w'.cell? a = some v
/-- What a round that goes on keeps: all cells that lay below n₀, and what cell Bs holds. -/
def KpC (n₀ Bs : Nat) (W W' : World) : Prop := (∀ a v, a.block < n₀ → W.cell? a = some v → W'.cell? a = some v) ∧ ∀ v, W.cell? ⟨Bs, 0, none⟩ = some v → W'.cell? ⟨Bs, 0, none⟩ = some v
theorem Cells.refl (w : World) : Cells w w := fun _ _ h => h
theorem Cells.later {w w' w'' : World} (h : Cells w w') (hl : Later w' w'') : Cells w w'' := fun a v ha => hl.cell (h a v ha)
theorem Cells.trans {w w' w'' : World} (h : Cells w w') (k : ∀ a v, a.block < w.heap.size → w'.cell? a = some v → w''.cell? a = some v) : Cells w w'' := fun a v ha => k a v (lt_of_cell ha) (h a v ha)
theorem RowK.cells {k n : Nat} {w w' : World} {A : Option Addr} {css : List (List Value)} (h : RowK k w A n css) (hl : Cells w w') : RowK k w' A n css :=
  ⟨h.1, h.2.1, fun hn => by
    obtain ⟨b, o, e, hc⟩ := h.2.2 hn
    exact ⟨b, o, e, fun j i cs v h1 h2 => hl _ _ (hc j i cs v h1 h2)⟩⟩
theorem Row.cells {n : Nat} {w w' : World} {A : Option Addr} {ss : List ByteArray} (h : Row w A n ss) (hl : Cells w w') : Row w' A n ss :=
  ⟨h.1, fun hn => by
    obtain ⟨b, o, e, hc⟩ := h.2 hn
    exact ⟨b, o, e, fun j s hs => hl _ _ (hc j s hs)⟩⟩
theorem PrOk.cells {w w' : World} {x : PrC} (h : PrOk w x) (hl : Cells w w') : PrOk w' x := ⟨h.old.cells hl, h.new.cells hl, h.oroom, h.nroom, h.omost, h.nmost, h.name, h.to, h.lo, h.hi, h.olds, h.news⟩
theorem PsOk.cells {w w' : World} {A : Option Addr} {n : Nat} {xs : List PrC} (h : PsOk w A n xs) (hl : Cells w w') : PsOk w' A n xs := ⟨h.row.cells hl, fun x hx => (h.each x hx).cells hl⟩
theorem Turned.cells {w w' : World} {B : Nat} (hg : Turned B w w') {es : Array MapEntry} {c : Nat} (hm : w.heap[B]? = some (.map es c)) : Cells w w' := fun _ _ ha => hg.cell ha (not_map hm ha)
theorem Later.cells {w w' : World} (h : Later w w') : Cells w w' := fun _ _ ha => h.cell ha
theorem KpC.trans {n₀ Bs : Nat} {X Y Z : World} (h : KpC n₀ Bs X Y) (k : KpC n₀ Bs Y Z) : KpC n₀ Bs X Z := ⟨fun a v hb ha => k.1 a v hb (h.1 a v hb ha), fun v hv => k.2 v (h.2 v hv)⟩
theorem KpC.of {n₀ Bs : Nat} {V V' : World} (h : Cells V V') : KpC n₀ Bs V V' := ⟨fun a v _ ha => h a v ha, fun v hv => h _ v hv⟩
theorem KpC.book {n₀ Bs : Nat} (V : World) (l : Nat) (o o' : Obj) (ho : V.heap[l]? = some o) (hc : o.isCells = false) : KpC n₀ Bs V (V.putObj l o') :=
  KpC.of fun _ _ ha => (shut_turned V l o').cell ha (cell_off ho hc ha)

set_option maxRecDepth 100000 in
set_option maxHeartbeats 2000000 in
theorem back1c_in (m l Bs : Nat) (hm : 1 ≤ m) (A : Option Addr) (n c : Nat) (xs : List PrC) (hn : n ≤ 524288) (w00 : World) (hrow : RowK 6 w00 A n (xs.map prL)) (J Jx : Nat → World → Prop)
    (hY : ∀ k x W, (rounds xs)[k]? = some x → J k W → YieldAt Fence.wide (m - 1) Tryz.prog l (backV x) W fun e W' =>
      (e = .returned (.bool true) ∧ J (k + 1) W' ∧ KpC w00.heap.size Bs W W') ∨ (e = .returned (.bool false) ∧ Jx (k + 1) W'))
    (W : World) (hl : Cells w00 W) (hBs : W.cell? ⟨Bs, 0, none⟩ = some (.slice A n c)) (h0 : J 0 W) :
    CallsIn Fence.wide m Tryz.prog 88 #[.func (.yield l) #[] #[], .pointer (some ⟨Bs, 0, none⟩)] W fun e W' => (∃ v, e = .returned v) ∧
      (J (rounds xs).length W' ∨ ∃ k, k ≤ (rounds xs).length ∧ Jx k W') := by
  have hlen : xs.length = n := by have := hrow.len; simpa using this
  refine callsIn_of_wp Tryz.func88 rfl trivial ?_ rfl
  simp only [Tryz.ntmps88, List.size_toArray, List.length_cons, List.length_nil, Nat.reduceAdd, Nat.reduceSub, Array.replicate_succ, Array.replicate_zero, List.push_toArray, List.append_toArray, List.nil_append, List.cons_append]
  gi_wp2
  gi_loopw [3] (fun s wr => ∃ r : Nat, r ≤ n ∧ s = .int .i64 ((r : Int) - 1) ∧ J (n - r) wr ∧ Cells w00 wr ∧ wr.cell? ⟨Bs, 0, none⟩ = some (.slice A n c))
    (fun s _ => (intOf s + 1).toNat)
  case atStart => exact ⟨n, Nat.le_refl _, by go_num, by rw [Nat.sub_self]; exact h0, hl, hBs⟩
  case round =>
    obtain ⟨r, hr, rfl, hJs, hlw, hbs⟩ := hrel
    rcases Nat.eq_zero_or_pos r with h0 | h0
    · subst h0
      gi_wp2
      go_end0
      exact ⟨⟨_, rfl⟩, .inl (by rw [rounds_length, hlen]; exact hJs)⟩
    · obtain ⟨j, rfl⟩ : ∃ j, r = j + 1 := ⟨r - 1, by omega⟩
      rw [show ((j + 1 : Nat) : Int) - 1 = (j : Int) by omega]
      obtain ⟨b, o, x, rfl, hz, g0, g1, g2, g3, g4, g5⟩ := (hrow.cells hlw).getP (show j < n by omega)
      obtain ⟨fn, tmps, assign, body, hy, hR⟩ := hY (n - (j + 1)) (j, x) wr (rounds_get hz (by omega)) hJs
      simp only [backV, prV] at hy hR
      have HLW := Lib.hid hlw; have HBS := Lib.hid hbs; have HR := Lib.hid hR
      clear hlw hR hz
      gi_wp2
      refine HR.out.mono ?_
      rintro e W3 (⟨rfl, hJ3, hk3⟩ | ⟨rfl, hJx3⟩)
      · rw [show n - (j + 1) + 1 = n - j by omega] at hJ3
        gi_wp2
        go_roundw
        case rel => exact ⟨j, by omega, by go_num, hJ3, HLW.out.trans hk3.1, hk3.2 _ HBS.out⟩
        case measure => simp [intOf]
      · gi_wp2
        refine bodyPost_ret (results_none rfl _ _ _) rfl ?_
        exact ⟨⟨_, rfl⟩, .inr ⟨_, by rw [rounds_length]; omega, hJx3⟩⟩

theorem back_handsC (m Bs : Nat) (hm : 1 ≤ m) (A : Option Addr) (n c : Nat) (xs : List PrC) (hn : n ≤ 524288) (w00 w : World) (hrow : RowK 6 w00 A n (xs.map prL)) (hl : Cells w00 w) (hBs : w.cell? ⟨Bs, 0, none⟩ = some (.slice A n c)) :
    Hands m Tryz.prog 88 #[.pointer (some ⟨Bs, 0, none⟩)] backV (KpC w00.heap.size Bs) (rounds xs) w := fun l J Jx W hW hY h0 =>
  back1c_in m l Bs hm A n c xs hn w00 hrow J Jx hY W (hl.later hW) (Later.cell hW hBs) h0

end Go.Proofs.YtomboeiaajggoaaGreat

/-
  Ranging over the map of a tree: which files have come; the step as a law for the walk.
-/
namespace Go.Proofs.YtomboeiaajggoaaGreat
open Go.RowKit Go.Maps

section
variable {α : Type}
/-- The files that have come. -/
def seen (left : Lit → Bool) (t : Fl α) : Fl α := t.filter fun f => !left (.string (bytes f.1))
/-- What is left behind the file nm. -/
def but (left : Lit → Bool) (nm : ByteArray) : Lit → Bool := fun k => left k && !k.sameKey (.string (bytes nm))

theorem mem_seen {left : Lit → Bool} {t : Fl α} {f : ByteArray × α} : f ∈ seen left t ↔ f ∈ t ∧ left (.string (bytes f.1)) = false := by simp [seen]
theorem but_eq (left : Lit → Bool) (nm n : ByteArray) : but left nm (.string (bytes n)) = (left (.string (bytes n)) && decide (n ≠ nm)) := by
  simp only [but, Lit.sameKey]
  by_cases h : n = nm
  · simp [h]
  · have : bytes n ≠ bytes nm := fun e => h (bytes_inj e)
    simp [h, this]
theorem seen_rise {left : Lit → Bool} {t : Fl α} (h : Rising t) : Rising (seen left t) := List.Pairwise.filter _ h
theorem seen_step {left : Lit → Bool} {t : Fl α} (h : Rising t) {nm : ByteArray} {x : α} (hm : (nm, x) ∈ t) : seen (but left nm) t = withT (seen left t) nm x := by
  refine rising_ext (seen_rise h) (rising_with (seen_rise h) _ _) fun f => ?_
  rw [mem_with, mem_seen, mem_seen, but_eq]
  constructor
  · rintro ⟨hf, hl⟩
    by_cases e : f.1 = nm
    · exact .inl (rising_one h hf hm e)
    · simp [e] at hl; exact .inr ⟨⟨hf, hl⟩, e⟩
  · rintro (rfl | ⟨⟨hf, hl⟩, e⟩)
    · exact ⟨hm, by simp⟩
    · exact ⟨hf, by simp [hl]⟩
theorem seen_end {left : Lit → Bool} {t : Fl α} (h : ∀ kl, left kl = false) : seen left t = t := List.filter_eq_self.2 fun f _ => by simp [h]
theorem seen_map {β : Type} (left : Lit → Bool) (g : α → β) (t : Fl α) : seen left (mapT g t) = mapT g (seen left t) := by
  simp [seen, mapT, List.filter_map, Function.comp_def]
theorem seen_length (left : Lit → Bool) (t : Fl α) : (seen left t).length ≤ t.length := List.length_filter_le _ _
theorem seen_has {left : Lit → Bool} {t : Fl α} {nm : ByteArray} (h : left (.string (bytes nm)) = true) : hasT (seen left t) nm = false := hasT_no.2 fun f hf e => by
  have := (mem_seen.1 hf).2
  rw [e, h] at this; cases this
end

theorem seen_start (z : Fl Held) : seen (Maps.has (datum (mapT (·.1) z))) z = [] := List.filter_eq_nil_iff.2 fun f hf => by
  rw [has_datum, hasT_map, hasT_iff.2 ⟨f, hf, rfl⟩]; simp

/-- How many lines all files have. -/
def linesTr (t : Tr) : Nat := (t.map fun f => f.2.length).sum
theorem lines_parts (n : ByteArray) : ∀ u : Tr, (∀ f ∈ u, f.1 ≠ n) → linesTr (u.filter fun f => ltN f.1 n) + linesTr (u.filter fun f => ltN n f.1) = linesTr u
  | [], _ => rfl
  | f :: u, h => by
    have ih := lines_parts n u fun g hg => h g (List.mem_cons_of_mem _ hg)
    simp only [linesTr] at ih ⊢
    rcases ltN_total (h f List.mem_cons_self) with k | k
    · simp [k, ltN_asymm k]; omega
    · simp [k, ltN_asymm k]; omega
theorem lines_with {t : Tr} {n : ByteArray} (h : hasT t n = false) (l : List ByteArray) : linesTr (withT t n l) = linesTr t + l.length := by
  have h1 := lines_parts n t (hasT_no.1 h)
  unfold withT
  rw [without_id h]
  simp only [linesTr, List.map_append, List.sum_append, List.map_cons, List.sum_cons] at h1 ⊢
  omega
theorem lines_seen (left : Lit → Bool) : ∀ t : Tr, linesTr (seen left t) ≤ linesTr t
  | [] => Nat.le_refl _
  | f :: t => by
    have ih := lines_seen left t
    simp only [linesTr, seen, List.filter_cons, List.map_cons, List.sum_cons] at ih ⊢
    split
    · simp only [List.map_cons, List.sum_cons]; omega
    · omega

/-- The range under way over the files z; its iterator is block r. -/
structure Ranging (w : World) (B r : Nat) (z : Fl Held) (left : Lit → Bool) (cnt : Nat) : Prop where
  at_ : w.ranges Tryz.prog 9 raw B r z.length (datum (mapT (·.1) z)) left cnt
  rise : Rising z
  reads : ∀ f ∈ z, Reads w f.2.1 f.2.2

theorem iter_cell {w : World} {B r n cnt : Nat} {D : DataW Value} {left : Lit → Bool} (h : w.ranges Tryz.prog 9 raw B r n D left cnt) {a : Addr} {u : Value} (hc : w.cell? a = some u) : a.block ≠ r := by
  obtain ⟨es, clock, since, sn, c0, _, _, _, _, hr, _⟩ := h
  rintro rfl
  simp [World.cell?, hr] at hc

theorem Ranging.files {w : World} {B r cnt : Nat} {z : Fl Held} {left : Lit → Bool} (h : Ranging w B r z left cnt) : FA w B z := ⟨h.at_.owns, h.rise, h.reads⟩
theorem Ranging.later {w w' : World} {B r cnt : Nat} {z : Fl Held} {left : Lit → Bool} (h : Ranging w B r z left cnt) (hl : Later w w') : Ranging w' B r z left cnt :=
  ⟨h.at_.kept (row := none) ⟨hl.os, hl.tape, hl.output, hl.size, fun i hi _ => hl.block i hi⟩ (by simp) (by simp), h.rise, fun f hf => (h.reads f hf).later hl⟩
theorem Ranging.other {w w' : World} {B B' r cnt : Nat} {z : Fl Held} {left : Lit → Bool} (h : Ranging w B r z left cnt) (hg : Turned B' w w') (hne : B ≠ B') {es : Array MapEntry} {c : Nat} (hm : w.heap[B']? = some (.map es c)) : Ranging w' B r z left cnt := by
  refine ⟨h.at_.kept hg (by simpa using hne) ?_, h.rise, fun f hf => (h.reads f hf).turned hg hm⟩
  obtain ⟨es', clock, since, sn, c0, _, _, _, _, hr, _⟩ := h.at_
  intro e
  cases e
  rw [hm] at hr; cases hr

section
variable {w : World} {ops : Array Oper} {rest : List Oper} {o : Oper} {a : Act} {Q : Exit → Act → World → Prop}

/-- 'range' over the files. -/
theorem wpList_range_files (hg : o.guard = none) (m : Operand) (hop : o.op = Op.range 91 m) (B : Nat) (z : Fl Held) (hm : a.eval m = .map (some B)) (h : FA w B z)
    (hK : ∀ w', Ranging w' B w.heap.size z (Maps.has (datum (mapT (·.1) z))) z.length → Later w w' → wpList Tryz.prog ops Q rest (a.put o.dst (.pointer (some ⟨w.heap.size, 0, none⟩))) w') :
    wpList Tryz.prog ops Q (o :: rest) a w := by
  refine wpList_range_own _ hg m _ hop 9 67 keyed9 Tryz.underlying91 raw B z.length _ hm h.own fun w' h1 h2 h3 => ?_
  have hl : Later w w' := ⟨h2.os, h2.tape, h2.output, h2.size, fun i hi => h2.block i hi (by simp)⟩
  rw [size_datum, mapT_length] at h1
  exact hK w' ⟨h1, h.rise, fun f hf => (h.reads f hf).later hl⟩ hl

/-- The step: nothing is left, or a file has come. -/
theorem wpList_next_files (hg : o.guard = none) (it : Operand) (hop : o.op = Op.next it false) (B r : Nat) (z : Fl Held) (left : Lit → Bool) (cnt : Nat) (hit : a.eval it = .pointer (some ⟨r, 0, none⟩)) (h : Ranging w B r z left cnt)
    (hDone : (∀ kl, left kl = false) → wpList Tryz.prog ops Q rest (a.put o.dst (.tuple #[.bool false])) w)
    (hMore : ∀ (nm : ByteArray) (A : Option Addr) (m c : Nat) (l : List ByteArray) (w' : World) (cnt' : Nat), (nm, (Value.slice A m c, l)) ∈ z → nm.size ≤ maxLen → m ≤ c → Row w' A m l → left (.string (bytes nm)) = true → Ranging w' B r z (but left nm) cnt' → cnt' < cnt → Turned r w w' →
      (Instr.entry (.pointer (some ⟨r, 0, none⟩))).run Tryz.prog w' = .ok (.tuple #[.string nm, .slice A m c]) w' → wpList Tryz.prog ops Q rest (a.put o.dst (.tuple #[.bool true, .string nm, .slice A m c])) w') :
    wpList Tryz.prog ops Q (o :: rest) a w := by
  refine wpList_plain hg fun K' hK' => ?_
  unfold Oper.wp
  rcases h.at_.next keyed9 o.type with ⟨h0, hl, hrun⟩ | ⟨key, v, kl, y, w', cnt', hkey, hlk, hv, hat, hrun, hrg, hlt, hgr, hsz, hen⟩
  · simp [execOp, hop, hit, hrun, Result.andThen]
    exact hK' _ _ (hDone hl)
  · obtain ⟨s, rfl, rfl, hs⟩ : ∃ s : ByteArray, key = .string s ∧ kl = .string (bytes s) ∧ s.size ≤ maxLen := by
      cases key <;> simp [keyOf, Tryz.underlying9, mapKey] at hkey
      rename_i s
      exact ⟨s, rfl, hkey.2.symm, hkey.1⟩
    obtain ⟨A, m, c, rfl, rfl⟩ := raw_inv hv
    have hz := hat .nil
    rw [atKey_datum, getT_map] at hz
    cases hg2 : getT z s with
    | none => rw [hg2] at hz; simp at hz
    | some x =>
      rw [hg2] at hz
      simp only [Option.map_some, DataW.held.injEq] at hz
      obtain ⟨v, l⟩ := x
      simp only at hz
      subst hz
      have hmem := getT_mem hg2
      obtain ⟨A', m', c', e, hmc, hrow⟩ := h.reads _ hmem
      simp only [Value.slice.injEq] at e
      obtain ⟨rfl, rfl, rfl⟩ := e
      have keep : ∀ {A : Option Addr} {n : Nat} {l : List ByteArray}, Row w A n l → Row w' A n l := fun {A n l} hr =>
        ⟨hr.1, fun hn => by
          obtain ⟨b, o, e, hc⟩ := hr.2 hn
          exact ⟨b, o, e, fun j s hs => Turned.cell (B := r) hgr (hc j s hs) (iter_cell h.at_ (hc j s hs))⟩⟩
      simp [execOp, hop, hit, hrun, Result.andThen]
      refine hK' _ _ (hMore s A m c l w' cnt' hmem hs hmc (keep hrow) hlk ⟨hrg, h.rise, fun f hf => ?_⟩ hlt hgr hen)
      obtain ⟨A1, m1, c1, e1, h1, h2⟩ := h.reads f hf
      exact ⟨A1, m1, c1, e1, h1, keep h2⟩
end

end Go.Proofs.YtomboeiaajggoaaGreat

/-
  What tree's Copy comes to, as a call.
-/
namespace Go.Proofs.YtomboeiaajggoaaGreat
open Go.RowKit Go.Maps

set_option maxRecDepth 100000 in
set_option maxHeartbeats 800000 in
theorem copy_any (p B : Nat) (t : Tr) (w : World) (ht : TreeAt w p B t) (hl : t.length ≤ 65536) (hb : ∀ f ∈ t, f.2.length ≤ 65536) :
    Calls Tryz.prog 25 #[.pointer (some ⟨p, 0, none⟩)] w (NewTree t w) := by
  obtain ⟨hc, z, hz, rfl⟩ := ht
  rw [mapT_length] at hl
  have HZ := Lib.hid hz
  have hBlt := hz.lt
  have HB := Lib.hid hb; clear hz hb
  go_enter Tryz.func25, Tryz.ntmps25
  go_wp2_with fail
  refine (new_any w).mono ?_
  rintro e w1 ⟨p1, B1, rfl, ht1, hp1, hB1, hl1⟩
  have hc1 := hl1.cell hc
  have hcell1 := ht1.cell
  have hne1 := ht1.ne
  have hp1lt := ht1.lt
  have HT1 := Lib.hid ht1; have HL1 := Lib.hid hl1; clear ht1
  have hle1 := hl1.le
  clear hl1
  go_wp2_with (at_range; refine wpList_range_files rfl _ rfl B z rfl (HZ.out.later HL1.out) ?_; intro w2 hrg2 hl2; have HR2 := Lib.hid hrg2; have HL2 := Lib.hid hl2; clear hrg2 hl2)
  go_frame
  go_loopg [] (z.length + 1) (fun g wr => ∃ (left : Lit → Bool) (cnt : Nat), cnt ≤ g ∧ Later w wr ∧ Hid (TreeAt wr p1 B1 (seen left (mapT (·.2) z))) ∧ Hid (Ranging wr B w1.heap.size z left cnt))
  case atStart =>
    refine ⟨_, _, Nat.le_succ _, HL1.out.trans HL2.out, ?_, HR2.out⟩
    have := HT1.out.later HL2.out
    rw [seen_map, seen_start]
    exact this
  case round =>
    obtain ⟨left, cnt, hcg, hwr, hct, hrg⟩ := hrel
    have hcellr := hct.out.cell
    have hle := hwr.le
    have HW := Lib.hid hwr; clear hwr
    go_wp2_with (at_next; refine wpList_next_files rfl _ rfl B w1.heap.size z left cnt rfl hrg.out ?_ ?_)
    · intro hdone
      have E : Hid (seen left (mapT (·.2) z) = mapT (·.2) z) := by rw [seen_end hdone]; rfl
      rw [E.out] at hct
      clear hdone E
      go_wp2
      go_ret
      exact ⟨p1, B1, rfl, hct.out, hp1, hB1, HW.out⟩
    · intro nm A m c l w' cnt' hmem hnm hmc hrow hlk hrg' hlt hturn hen
      have hmem2 : (nm, l) ∈ mapT (·.2) z := by simp only [mapT, List.mem_map]; exact ⟨_, hmem, rfl⟩
      have hm : m ≤ 65536 := by rw [← hrow.len]; exact HB.out _ hmem2
      have HS := Lib.hid (seen_step (left := left) (rising_map.2 hrg'.rise) hmem2)
      have hct' : TreeAt w' p1 B1 (seen left (mapT (·.2) z)) := by
        obtain ⟨h1, z1, h2, h3⟩ := hct.out
        have hit : B1 ≠ w1.heap.size := by have := HT1.out.files.lt; omega
        exact ⟨hturn.cell h1 (by show p1 ≠ w1.heap.size; omega), z1, ⟨h2.own.kept hturn (by simpa using hit), h2.rise, fun f hf => by
          obtain ⟨A2, m2, c2, e2, h4, h5⟩ := h2.reads f hf
          exact ⟨A2, m2, c2, e2, h4, h5.1, fun hn => by
            obtain ⟨b, o, e, hcc⟩ := h5.2 hn
            exact ⟨b, o, e, fun j s hs => hturn.cell (hcc j s hs) (iter_cell hrg.out.at_ (hcc j s hs))⟩⟩⟩, h3⟩
      have hcell' := hct'.cell
      have HCT := Lib.hid hct'
      have HRW := Lib.hid hrow
      have HRG := Lib.hid hrg'; have HT := Lib.hid hturn
      have hlw : Later w w' := HW.out.turn hturn hle1
      have HLW := Lib.hid hlw
      have HNM := Lib.hid hnm
      have hzl : Hid ((seen left z).length < maxLen) := by have := seen_length left z; simp only [Hid, maxLen]; omega
      clear hct' hrow hmem hlk hrg' hturn hmem2 hlw hct hrg hnm
      go_wp2_with fail
      go_region_held3 (fun w' => w'.cell? ⟨p1, 0, none⟩ = some (.map (some B1))) (go_keep)
        (first
          | (go_at_call 45; refine (clone_any A m c l _ (HRW.out.later (by first | exact Later.refl _ | exact (Later.refl _).drew | exact (Later.refl _).drewN _)) hm).mono ?_; rintro e w3 ⟨v3, rfl, hown⟩; have HL3 : Hid (Later w' w3) := Later.trans (by first | exact Later.refl _ | exact (Later.refl _).drew | exact (Later.refl _).drewN _) hown.later; have hc3 := HL3.out.cell hcell'; obtain ⟨A3, c3, rfl, hcc, hr3⟩ := hown.row; have HR := Lib.hid hr3; have H3 := HCT.out.later HL3.out; obtain ⟨-, z3, hz3, e3⟩ := H3; have hzl3 : z3.length < maxLen := (by have h9 := hzl.out; rw [← mapT_length (fun x : Held => x.2) z3, e3, seen_map, mapT_length]; exact h9); obtain ⟨w4, hrun4, hown4, hturn4⟩ := hz3.own.store keyed9 Tryz.underlying91 hzl3 (key9 HNM.out) (raw_mk A3 l.length c3); have HO4 := Lib.hid (hz3.put hown4 hturn4 ⟨A3, _, c3, rfl, hcc, hr3⟩); have HU4 := Lib.hid (Turned.of_map hturn4); have hc4 := HU4.out.cell hc3 hne1; have HM3 := Lib.hid hz3.map; have HE3 := Lib.hid e3; clear hown hr3 hown4 hturn4 hz3 hzl3 e3))
      go_wp2
      go_roundg cnt'
      case measure => omega
      case rel =>
        obtain ⟨mes, mcl, hmm⟩ := HM3.out
        refine ⟨but left nm, cnt', Nat.le_refl _, (HLW.out.trans HL3.out).turn HU4.out hB1, ?_, (HRG.out.later HL3.out).other HU4.out (by omega) hmm⟩
        refine (HCT.out.later HL3.out).to HU4.out ⟨_, HO4.out, ?_⟩
        rw [HS.out, ← HE3.out]
        exact (withT_map (fun x : Held => x.2) z3 nm (_, l)).symm

end Go.Proofs.YtomboeiaajggoaaGreat

/-
  What the statements' own 'does' comes to, as a call.
-/
namespace Go.Proofs.YtomboeiaajggoaaGreat
open Go.RowKit Go.Maps

/-- A tree, this one or a new one, and an error's number; nothing has turned but the tree. -/
def DoesOp (r : Tr × Int) (p B : Nat) (w : World) (e : Ending) (w' : World) : Prop :=
  ∃ p' B', e = .returned (.tuple #[.pointer (some ⟨p', 0, none⟩), .int .i64 r.2]) ∧ TreeAt w' p' B' r.1 ∧ Turned B w w' ∧ ((p' = p ∧ B' = B) ∨ (w.heap.size ≤ p' ∧ w.heap.size ≤ B'))

theorem does_of {r : Tr × Int} {p B : Nat} {w w1 w' : World} (hl : Later w w1) (h : TreeAt w' p B r.1) (ht : Turned B w1 w') : DoesOp r p B w (.returned (.tuple #[.pointer (some ⟨p, 0, none⟩), .int .i64 r.2])) w' :=
  ⟨p, B, rfl, h, (hl.turned B).trans ht, .inl ⟨rfl, rfl⟩⟩

section
variable (p B : Nat) (t : Tr) (nm to : ByteArray) (Al : Option Addr) (nl cl : Nat) (l : List ByteArray) (w : World)

set_option maxRecDepth 100000 in
set_option maxHeartbeats 400000 in
theorem does0 (ht : TreeAt w p B t) (hs : nm.size ≤ maxLen) (hl : t.length ≤ 65536) :
    Calls Tryz.prog 44 #[.pointer (some ⟨p, 0, none⟩), .agg #[.int .i64 0, .string nm, .string to, .slice Al nl cl]] w (DoesOp (addT t nm) p B w) := by
  have hlb : Later w (w.alloc (.cells #[.int .i64 0, .string nm, .string to, .slice Al nl cl] 85)) := (Later.refl w).alloc _
  have HC := Lib.hid (add_any p B nm t _ (ht.later hlb) hs hl)
  have HLB := Lib.hid hlb
  clear hlb ht hs
  go_enter Tryz.func44, Tryz.ntmps44
  go_wp2_with fail
  refine HC.out.mono ?_
  rintro e w1 ⟨rfl, h1, h2⟩
  have H1 := Lib.hid h1; have H2 := Lib.hid h2; clear h1 h2
  go_wp2
  go_ret2
  exact does_of HLB.out H1.out H2.out

set_option maxRecDepth 100000 in
set_option maxHeartbeats 400000 in
theorem does1 (ht : TreeAt w p B t) (hs : nm.size ≤ maxLen) (hb : ∀ f ∈ t, f.2.length ≤ 65536) :
    Calls Tryz.prog 44 #[.pointer (some ⟨p, 0, none⟩), .agg #[.int .i64 1, .string nm, .string to, .slice Al nl cl]] w (DoesOp (removeT t nm) p B w) := by
  have hlb : Later w (w.alloc (.cells #[.int .i64 1, .string nm, .string to, .slice Al nl cl] 85)) := (Later.refl w).alloc _
  have HC := Lib.hid (remove_any p B nm t _ (ht.later hlb) hs hb)
  have HLB := Lib.hid hlb
  clear hlb ht hs hb
  go_enter Tryz.func44, Tryz.ntmps44
  go_wp2_with fail
  refine HC.out.mono ?_
  rintro e w1 ⟨rfl, h1, h2⟩
  have H1 := Lib.hid h1; have H2 := Lib.hid h2; clear h1 h2
  go_wp2
  go_ret2
  exact does_of HLB.out H1.out H2.out

set_option maxRecDepth 100000 in
set_option maxHeartbeats 400000 in
theorem does2 (ht : TreeAt w p B t) (hs : nm.size ≤ maxLen) (hs2 : to.size ≤ maxLen) (hl : t.length ≤ 65536) :
    Calls Tryz.prog 44 #[.pointer (some ⟨p, 0, none⟩), .agg #[.int .i64 2, .string nm, .string to, .slice Al nl cl]] w (DoesOp (moveT t nm to) p B w) := by
  have hlb : Later w (w.alloc (.cells #[.int .i64 2, .string nm, .string to, .slice Al nl cl] 85)) := (Later.refl w).alloc _
  have HC := Lib.hid (move_any p B nm to t _ (ht.later hlb) hs hs2 hl)
  have HLB := Lib.hid hlb
  clear hlb ht hs hs2
  go_enter Tryz.func44, Tryz.ntmps44
  go_wp2_with fail
  refine HC.out.mono ?_
  rintro e w1 ⟨rfl, h1, h2⟩
  have H1 := Lib.hid h1; have H2 := Lib.hid h2; clear h1 h2
  go_wp2
  go_ret2
  exact does_of HLB.out H1.out H2.out

set_option maxRecDepth 100000 in
set_option maxHeartbeats 400000 in
theorem does3 (ht : TreeAt w p B t) (hs : nm.size ≤ maxLen) (hl : t.length ≤ 65536) (hr : Row w Al nl l) (hn : nl ≤ 65536) (hb : ∀ s ∈ l, s.size ≤ maxLen) :
    Calls Tryz.prog 44 #[.pointer (some ⟨p, 0, none⟩), .agg #[.int .i64 3, .string nm, .string to, .slice Al nl cl]] w (DoesOp (putT t nm l) p B w) := by
  have hlb : Later w (w.alloc (.cells #[.int .i64 3, .string nm, .string to, .slice Al nl cl] 85)) := (Later.refl w).alloc _
  have HC := Lib.hid (put_any p B nm Al nl cl l t _ (ht.later hlb) (hr.later hlb) hs hl hn hb)
  have HLB := Lib.hid hlb
  clear hlb ht hs hr hb
  go_enter Tryz.func44, Tryz.ntmps44
  go_wp2_with fail
  refine HC.out.mono ?_
  rintro e w1 ⟨rfl, h1, h2⟩
  have H1 := Lib.hid h1; have H2 := Lib.hid h2; clear h1 h2
  go_wp2
  go_ret2
  exact does_of HLB.out H1.out H2.out

set_option maxRecDepth 100000 in
set_option maxHeartbeats 400000 in
theorem doesElse (k : Int) (h0 : k ≠ 0) (h1 : k ≠ 1) (h2 : k ≠ 2) (h3 : k ≠ 3) (h4 : k ≠ 4) (ht : TreeAt w p B t) :
    Calls Tryz.prog 44 #[.pointer (some ⟨p, 0, none⟩), .agg #[.int .i64 k, .string nm, .string to, .slice Al nl cl]] w (DoesOp (t, 0) p B w) := by
  have hlb : Later w (w.alloc (.cells #[.int .i64 k, .string nm, .string to, .slice Al nl cl] 85)) := (Later.refl w).alloc _
  have HT := Lib.hid (ht.later hlb)
  have HLB := Lib.hid hlb
  have b0 : (k == 0) = false := by simpa using h0
  have b1 : (k == 1) = false := by simpa using h1
  have b2 : (k == 2) = false := by simpa using h2
  have b3 : (k == 3) = false := by simpa using h3
  have b4 : (k == 4) = false := by simpa using h4
  clear hlb ht h0 h1 h2 h3 h4
  go_enter Tryz.func44, Tryz.ntmps44
  go_wp2
  go_ret2
  exact does_of (r := (t, 0)) HLB.out HT.out (Turned.refl B _)

theorem add_length (t : Tr) (n : ByteArray) : (addT t n).1.length ≤ t.length + 1 := by
  unfold addT
  split
  · simp
  · split
    · simp
    · exact with_length n []
theorem put_length (t : Tr) (n : ByteArray) (l : List ByteArray) : (putT t n l).1.length ≤ t.length + 1 := by
  unfold putT
  split
  · simp
  · split
    · simp
    · exact with_length n l

/-- The text 'none'. -/
def noneText : ByteArray := ⟨#[110, 111, 110, 101]⟩
theorem noneText_size : noneText.size ≤ maxLen := by simp [noneText, maxLen, ByteArray.size]
theorem add_names {t : Tr} (h : ∀ f ∈ t, f.1.size ≤ maxLen) : ∀ s ∈ namesT (addT t noneText).1, s.size ≤ maxLen := by
  intro s hs
  obtain ⟨f, hf, rfl⟩ := List.mem_map.1 hs
  unfold addT at hf
  split at hf
  · exact h f hf
  · split at hf
    · exact h f hf
    · rcases mem_with.1 hf with rfl | hf
      · exact noneText_size
      · exact h f hf.1

set_option maxRecDepth 100000 in
set_option maxHeartbeats 800000 in
theorem does4 (ht : TreeAt w p B t) (hl : t.length ≤ 1000) (hb : ∀ f ∈ t, f.2.length ≤ 65536) (hns : ∀ f ∈ t, f.1.size ≤ maxLen) :
    Calls Tryz.prog 44 #[.pointer (some ⟨p, 0, none⟩), .agg #[.int .i64 4, .string nm, .string to, .slice Al nl cl]] w (DoesOp (t, 0) p B w) := by
  have hlb : Later w (w.alloc (.cells #[.int .i64 4, .string nm, .string to, .slice Al nl cl] 85)) := (Later.refl w).alloc _
  have HC := Lib.hid (copy_any p B t _ (ht.later hlb) (by omega) hb)
  have HT := Lib.hid (ht.later hlb)
  have hBw := ht.files.lt
  have HLB := Lib.hid hlb
  have hlb0 : w.heap.size ≤ (w.alloc (.cells #[.int .i64 4, .string nm, .string to, .slice Al nl cl] 85)).heap.size := hlb.le
  clear hlb ht hb
  go_enter Tryz.func44, Tryz.ntmps44
  go_wp2_with fail
  refine HC.out.mono ?_
  rintro e w1 ⟨p1, B1, rfl, ht1, hp1, hB1, hl1⟩
  have HT1 := Lib.hid ht1; have HL1 := Lib.hid hl1
  have hne : B1 ≠ B := by omega
  have hp1' : w.heap.size ≤ p1 := Nat.le_trans hlb0 hp1
  have hB1' : w.heap.size ≤ B1 := Nat.le_trans hlb0 hB1
  clear ht1 hl1 hp1 hB1
  go_wp2_with fail
  refine (add_any p B noneText t w1 (HT.out.later HL1.out) (by simp [noneText, maxLen, ByteArray.size]) (by omega)).mono ?_
  rintro e w2 ⟨rfl, ht2, hg2⟩
  have hal := add_length t noneText
  have HG2 : Hid (Turned B w w2) := ((HLB.out.trans HL1.out).turned B).trans hg2
  have HC2 : Hid (TreeAt w2 p1 B1 t) := by
    obtain ⟨es, c, hm⟩ := (HT.out.later HL1.out).files.map
    exact HT1.out.other hg2 hne hm
  have hns2 := add_names hns
  have HNS : Hid (∀ s ∈ namesT (addT t noneText).1, s.size ≤ maxLen) := hns2
  clear hns2 hns
  generalize (addT t noneText).1 = t2 at ht2 hal HNS
  generalize (addT t noneText).2 = e2
  have HT2 := Lib.hid ht2
  clear ht2 hg2
  go_wp2_with fail
  refine (names_any p B t2 w2 HT2.out (by omega)).mono ?_
  rintro e w3 ⟨v3, rfl, hown3⟩
  obtain ⟨A3, c3, rfl, hcc3, hr3⟩ := hown3.row
  have hnl : (namesT t2).length ≤ 1001 := by simp only [namesT, List.length_map]; omega
  generalize namesT t2 = ns at hown3 hcc3 hr3 hnl HNS ⊢
  have HR3 := Lib.hid hr3
  have HG3 : Hid (Turned B w w3) := HG2.out.trans (hown3.later.turned B)
  have HC3 := Lib.hid (HC2.out.later hown3.later)
  have HT3 := Lib.hid (HT2.out.later hown3.later)
  clear hown3 hr3
  go_wp2
  go_loopg [52] (ns.length + 1) (fun g s52 wr => ∃ (k : Nat) (tt : Tr), k ≤ ns.length ∧ ns.length - k ≤ g ∧ s52 = .int .i64 k ∧ tt.length ≤ t2.length + k ∧ Hid (TreeAt wr p B tt) ∧ Hid (TreeAt wr p1 B1 t) ∧ Hid (Turned B w wr) ∧ Hid (Row wr A3 ns.length ns))
  case atStart => exact ⟨0, t2, Nat.zero_le _, by omega, rfl, Nat.le_refl _, HT3.out, HC3.out, HG3.out, HR3.out⟩
  case round =>
    obtain ⟨k, tt, hk, hg, rfl, htl, hct, hcc, hgt, hrw⟩ := hrel
    by_cases hlt : k < ns.length
    · obtain ⟨b1, o1, rfl, g1⟩ := hrw.out.get hlt
      have hpl : ∀ s ∈ [noneText], s.size ≤ maxLen := fun s hs => by simp at hs; subst hs; simp [noneText, maxLen, ByteArray.size]
      have hrn : Row (wr.alloc (.cells #[.string noneText] 9)) (some ⟨wr.heap.size, 0, none⟩) 1 [noneText] := Row.one wr noneText 9
      have hcell := hct.out.cell
      have hnm : (ns.getD k ByteArray.empty).size ≤ maxLen := by
        simp only [List.getD, List.getElem?_eq_getElem hlt, Option.getD_some]
        exact HNS.out _ (List.getElem_mem hlt)
      have HP := Lib.hid (put_any p B (ns.getD k ByteArray.empty) (some ⟨wr.heap.size, 0, none⟩) 1 1 [noneText] tt _ (hct.out.later ((Later.refl wr).alloc _)) hrn hnm (by omega) (by omega) hpl)
      generalize ns.getD k ByteArray.empty = nx at g1 HP hnm
      have hpl2 := put_length tt nx [noneText]
      clear hpl hrn hnm
      go_wp2_with fail
      refine HP.out.mono ?_
      rintro e w5 ⟨rfl, ht5, hg5⟩
      generalize (putT tt nx [noneText]).1 = t5 at ht5 hpl2
      generalize (putT tt nx [noneText]).2 = e5
      have HT5 := Lib.hid ht5; have HG5 := Lib.hid hg5
      clear ht5 hg5
      go_wp2
      go_roundg (ns.length - (k + 1))
      case measure => omega
      case rel =>
        have hla : Later wr (wr.alloc (.cells #[.string noneText] 9)) := (Later.refl wr).alloc _
        obtain ⟨es, c, hm⟩ := (hct.out.later hla).files.map
        exact ⟨k + 1, t5, by omega, Nat.le_refl _, by go_num, by omega, HT5.out, (hcc.out.later hla).other HG5.out hne hm, (hgt.out.trans (hla.turned B)).trans HG5.out, (hrw.out.later hla).turned HG5.out hm⟩
    · clear hct
      go_wp2
      go_ret2
      exact ⟨p1, B1, rfl, hcc.out, hgt.out, .inr ⟨hp1', hB1'⟩⟩

end

/-- A tree of few, small files. -/
structure Small (t : Tr) : Prop where
  many : t.length ≤ 1000
  names : ∀ f ∈ t, f.1.size ≤ maxLen
  lines : ∀ f ∈ t, f.2.length ≤ 65536

theorem does_any (p B : Nat) (t : Tr) (o : OpV) (Al : Option Addr) (nl cl : Nat) (w : World) (ht : TreeAt w p B t) (ho : OpOk w o Al nl) (hs : Small t) :
    Calls Tryz.prog 44 #[.pointer (some ⟨p, 0, none⟩), opVal o Al nl cl] w (DoesOp (doT t o) p B w) := by
  have hl := hs.many
  obtain ⟨kind, nm, to, l⟩ := o
  by_cases h0 : kind = 0
  · subst h0
    exact does0 p B t nm to Al nl cl w ht ho.name (by omega)
  by_cases h1 : kind = 1
  · subst h1
    exact does1 p B t nm to Al nl cl w ht ho.name hs.lines
  by_cases h2 : kind = 2
  · subst h2
    exact does2 p B t nm to Al nl cl w ht ho.name ho.to (by omega)
  by_cases h3 : kind = 3
  · subst h3
    exact does3 p B t nm to Al nl cl l w ht ho.name (by omega) ho.row ho.most ho.lines
  have e : doT t ⟨kind, nm, to, l⟩ = (t, 0) := by simp [doT, h0, h1, h2, h3]
  rw [e]
  by_cases h4 : kind = 4
  · subst h4
    exact does4 p B t nm to Al nl cl w ht hl hs.lines hs.names
  exact doesElse p B t nm to Al nl cl w kind h0 h1 h2 h3 h4 ht

end Go.Proofs.YtomboeiaajggoaaGreat
