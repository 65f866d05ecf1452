import Derived.Test.YtnhhdjcbifmfgaaDoorPk7
import Derived.Test.YtnhhdjcbifmfgaaDoorPk9
import Derived.Test.YtnhhdjcbifmfgaaDoorPk10
import Derived.Laws.OwnMore
import Derived.Deep.OwnRows
import Derived.Test.YtnhhdjcbifmfgaaDoorChecked
import Derived.OrdersHeld
import Derived.WalkKit
import Derived.Test.YtnhhdjcbifmfgaaDoorPk1
import Derived.Test.YtnhhdjcbifmfgaaDoorPk6

/-
  What stands while the law PrimOwn fills its tree.
-/
namespace Go.Proofs.YtnhhdjcbifmfgaaDoor
open Go.RowKit Go.Maps

/-- Empty lines, and others behind them. -/
def filled (k : Nat) (old : List ByteArray) : List ByteArray := List.replicate k ByteArray.empty ++ old
theorem filled_len (k : Nat) (old : List ByteArray) : (filled k old).length = k + old.length := by simp [filled]
theorem right_empty : rightB ByteArray.empty = true := by kernel_rfl
theorem filled_all {k : Nat} {old : List ByteArray} (h : allB old = true) : allB (filled k old) = true := by
  rw [allB_mem] at h ⊢
  intro s hs
  rcases List.mem_append.1 hs with hs | hs
  · rw [(List.mem_replicate.1 hs).2]; exact right_empty
  · exact h s hs
theorem filled_stands (k : Nat) (old : List ByteArray) : standsB (filled k old) (k : Nat) old = true := by
  rw [standsB_in (by simp [filled])]
  simp [filled, sameB]
theorem right_small {s : ByteArray} (h : rightB s = true) : s.size ≤ maxLen := by
  simp only [rightB, Bool.and_eq_true, decide_eq_true_eq] at h
  simp only [maxLen]; omega
theorem with_one {α : Type} (n : ByteArray) (a b : α) : withT [(n, a)] n b = [(n, b)] := by simp [withT, withoutT]
theorem add_one {nm : ByteArray} (h : namedB nm = true) : addT [] nm = ([(nm, [])], 0) := by simp [addT, h, hasT, getT, withT, withoutT]
theorem map_one {z : Fl Held} {nm : ByteArray} {l : List ByteArray} (h : mapT (·.2) z = [(nm, l)]) : ∃ v, z = [(nm, (v, l))] := by
  match z, h with
  | [], h => simp [mapT] at h
  | [f], h =>
    simp only [mapT, List.map_cons, List.map_nil, List.cons.injEq, Prod.mk.injEq, and_true] at h
    obtain ⟨f1, f2, f3⟩ := f
    obtain ⟨h1, h2⟩ := h
    dsimp only at h1 h2
    subst h1 h2
    exact ⟨f2, rfl⟩
  | f :: g :: z, h => simp [mapT] at h
theorem own_made (w : World) {k : Nat} (hk : k ≤ 100) : Own 9 w (w.alloc (.cells (madeCells #[.string ByteArray.empty] k) 9)) (.slice (some ⟨w.heap.size, 0, none⟩) k k) (List.replicate k ByteArray.empty) := by
  have h := World.ownsRow_lit (base := w.heap.size) (e := 9) (size := 1) w (madeCells #[.string ByteArray.empty] k) k (Nat.le_refl _) (by simp only [maxLen]; omega) (by rw [size_madeCells]; omega)
  have e : (madeCells #[Value.string ByteArray.empty] k).toList = (List.replicate k ByteArray.empty).map Value.string := by
    refine List.ext_getElem (by simp [madeCells]) fun i h1 h2 => ?_
    simp [madeCells, Nat.mod_one]
  rw [e] at h
  refine ⟨?_, (Later.refl w).alloc _⟩
  rw [List.length_replicate]
  exact h

/-- append onto a row of the call's own, as a step of a region that draws its order, whatever its guard. -/
theorem step_append_rowG {P : Program} {w0 w : World} {e : TypeId} {v : Value} {olds : List ByteArray} {ops : Array Oper} {o : Oper} {a : Act} {K : Act → World → Prop} {Q : Exit → Act → World → Prop} {E : Prop} (hw : Region.wanted o (yielded ops a.tmps) = true) (s x : Operand) (t : TypeId)
    (ho : o.op = .call { callee := .builtin .append, args := #[s, x], argTypes := #[t, t] }) (i : TypeInfo)
    (ht : P.underlying t = some (.slice e)) (hi : P.info? e = some i) (hz : i.zero = some (.string ByteArray.empty)) (hsize : i.size = 1) (hby : i.bytes = 16)
    (hown : Own e w0 w v olds) (hs : a.eval s = v) (A : Option Addr) (m c : Nat) (news : List ByteArray) (hx : a.eval x = .slice A m c) (hr : Row w A m news) (hb : olds.length + m ≤ 1000000)
    (h : ∀ v' w', Own e w0 w' v' (olds ++ news) → w.grownBy w' v.ownBlock → K (a.put o.dst v') w') :
    if Region.wanted o (yielded ops a.tmps) = true then Oper.wp P o a w K Q else E := by
  rw [if_pos hw]
  obtain ⟨v', w', hrun, h2, h3⟩ := run_append_row (P := P) t o.type i ht hi hz hsize hby hown A m c news hr hb
  unfold Oper.wp execOp
  simp only [ho, resolve, invoke, builtin, Sem.run_bind, Sem.run_pure, Result.andThen_ok, List.map_toArray, List.map_cons, List.map_nil, hs, hx, hrun]
  exact h v' w' h2 h3

/-- The two boxes, the prims' rows; what has turned. -/
structure Keep (w0 wx w : World) (gp gz gB : Nat) (cur : Array Value) (x z : PrC) : Prop where
  bp : BoxAt w gp (prL x).toArray 24
  bz : BoxAt w gz (prL z).toArray 29
  bB : BoxAt w gB cur 9
  oz : PrOk w z
  ro : Row w x.A x.n x.v.old
  later : Later w0 w
  le : wx.heap.size ≤ w.heap.size
theorem Keep.on {w0 wx w w' : World} {gp gz gB : Nat} {cur : Array Value} {x z : PrC} (h : Keep w0 wx w gp gz gB cur x z) (hl : Later w w') : Keep w0 wx w' gp gz gB cur x z :=
  ⟨h.bp.later hl, h.bz.later hl, h.bB.later hl, h.oz.later hl, h.ro.later hl, h.later.trans hl, Nat.le_trans h.le hl.le⟩
theorem Keep.turn {w0 wx w w' : World} {gp gz gB B : Nat} {cur : Array Value} {x z : PrC} (h : Keep w0 wx w gp gz gB cur x z) (hg : Turned B w w') (hB : w0.heap.size ≤ B) {es : Array MapEntry} {c : Nat} (hm : w.heap[B]? = some (.map es c)) : Keep w0 wx w' gp gz gB cur x z :=
  ⟨h.bp.turned hg hm, h.bz.turned hg hm, h.bB.turned hg hm, h.oz.turned hg hm, h.ro.turned hg hm, h.later.turn hg hB, Nat.le_trans h.le hg.le⟩
theorem Keep.cells {w0 wx w : World} {gp gz gB : Nat} {cur : Array Value} {x z : PrC} (h : Keep w0 wx w gp gz gB cur x z) : w.cell? ⟨gp, 1, none⟩ = some (.string x.v.name) ∧ w.cell? ⟨gp, 3, none⟩ = some (.int .i64 x.v.place) ∧ w.cell? ⟨gp, 4, none⟩ = some (.slice x.A x.n x.c) ∧ w.cell? ⟨gz, 0, none⟩ = some (.int .i64 z.v.kind) ∧ w.cell? ⟨gz, 1, none⟩ = some (.string z.v.name) ∧ w.cell? ⟨gz, 2, none⟩ = some (.string z.v.to) ∧ w.cell? ⟨gz, 3, none⟩ = some (.int .i64 z.v.place) ∧ w.cell? ⟨gz, 4, none⟩ = some (.slice z.A z.n z.c) ∧ w.cell? ⟨gz, 5, none⟩ = some (.slice z.B z.m z.d) :=
  ⟨h.bp.cell rfl, h.bp.cell rfl, h.bp.cell rfl, h.bz.cell rfl, h.bz.cell rfl, h.bz.cell rfl, h.bz.cell rfl, h.bz.cell rfl, h.bz.cell rfl⟩

theorem keep_tree {w0 wx w W w' : World} {gp gz gB p B : Nat} {cur : Array Value} {x z : PrC} {t : Tr} (h : Keep w0 wx w gp gz gB cur x z) (hl : Later w W) (ht : TreeAt w p B t) (hg : Turned B W w') (hB : w0.heap.size ≤ B) : Keep w0 wx w' gp gz gB cur x z := by
  obtain ⟨es, c, hm⟩ := (ht.later hl).files.map
  exact (h.on hl).turn hg hB hm
theorem keep_files {w0 wx w w' : World} {gp gz gB B : Nat} {cur : Array Value} {x z : PrC} {f : Fl Held} (h : Keep w0 wx w gp gz gB cur x z) (ht : FA w B f) (hg : Turned B w w') (hB : w0.heap.size ≤ B) : Keep w0 wx w' gp gz gB cur x z := by
  obtain ⟨es, c, hm⟩ := ht.map
  exact h.turn hg hB hm

/-- The text of one file. -/
theorem text_one {nm : ByteArray} {l : List ByteArray} (hn : namedB nm = true) (hl : allB l = true) (hk : l.length ≤ 9000) : (textT [(nm, l)]).length ≤ 1000000 := by
  have h5 : ∀ l : List ByteArray, allB l = true → (textL l).length ≤ 61 * l.length := fun l => by
    induction l with
    | nil => intro _; exact Nat.le_refl _
    | cons s l ih =>
      intro h
      rw [allB_mem] at h
      have h1 := ih (allB_mem.2 fun x hx => h x (List.mem_cons_of_mem _ hx))
      have h2 := h s List.mem_cons_self
      simp only [rightB, Bool.and_eq_true, decide_eq_true_eq] at h2
      simp only [textL, List.flatMap_cons, List.length_append, List.length_cons, bytes_length, List.length_nil] at h1 ⊢
      omega
  have h6 := h5 l hl
  have h4 := digits_length l.length (by omega)
  simp only [namedB, Bool.and_eq_true, decide_eq_true_eq] at hn
  simp only [textT, headL, List.flatMap_cons, List.flatMap_nil, List.length_append, List.length_cons, bytes_length, List.length_nil]
  omega
theorem sized_one {nm : ByteArray} {l : List ByteArray} {h : Nat} (hn : namedB nm = true) (hl : allB l = true) (hk : l.length ≤ h) : Sized 1 h [(nm, l)] :=
  ⟨Nat.le_refl _, fun f hf => by simp at hf; subst hf; exact ⟨hn, hl, hk⟩⟩

end Go.Proofs.YtnhhdjcbifmfgaaDoor

/-
  A region that draws its order, by what stands behind each set of its operations.
-/
namespace Go.Proofs.YtnhhdjcbifmfgaaDoor
open Go.RowKit

/-- An operation more. -/
def more (l : Nat → Bool) (i : Nat) : Nat → Bool := fun j => if j = i then true else l j
theorem more_same (l : Nat → Bool) (i : Nat) : more l i i = true := by simp [more]
theorem more_other (l : Nat → Bool) {i j : Nat} (h : j ≠ i) : more l i j = l j := by simp [more, h]

/-- Each edge that binds goes to an operation ahead. -/
def goesBack (ops : Array Oper) : Bool := (List.range ops.size).all fun i => ((ops[i]?).map (·.after.all fun e => !Region.binds .any e || decide (e.on < i))).getD true
/-- How many are left. -/
def leftN (l : Nat → Bool) : Nat → Nat
  | 0 => 0
  | n + 1 => leftN l n + (if l n then 0 else 1)
theorem left_more (l : Nat → Bool) {i : Nat} : ∀ n, i < n → l i = false → leftN (more l i) n + 1 = leftN l n
  | 0, h, _ => absurd h (Nat.not_lt_zero _)
  | n + 1, h, hi => by
    unfold leftN
    by_cases e : i = n
    · subst e
      have : ∀ k, k ≤ i → leftN (more l i) k = leftN l k := fun k => by
        induction k with
        | zero => intro _; rfl
        | succ k ih => intro hk; unfold leftN; rw [ih (by omega), more_other l (by omega)]
      rw [this i (Nat.le_refl _), more_same, hi]
      simp
    · have := left_more l n (by omega) hi
      rw [more_other l (fun x => e x.symm)]
      omega
theorem left_zero (l : Nat → Bool) : ∀ n, leftN l n = 0 → ∀ i, i < n → l i = true
  | 0, _, i, h => absurd h (Nat.not_lt_zero _)
  | n + 1, h0, i, h => by
    unfold leftN at h0
    by_cases e : i = n
    · subst e
      cases hl : l i
      · rw [hl] at h0; simp at h0
      · rfl
    · exact left_zero l n (by omega) i (by omega)

theorem getD_in {L : Array Bool} {i : Nat} (h : i < L.size) (d : Bool) : L.getD i d = L[i] := by simp [Array.getD, h]
theorem getD_more {L : Array Bool} {i : Nat} (h : i < L.size) : (fun j => (L.setIfInBounds i true).getD j false) = more (fun j => L.getD j false) i := by
  funext j
  unfold more
  by_cases e : j = i
  · subst e
    simp [Array.getD, h]
  · rw [if_neg e]
    by_cases hj : j < L.size
    · simp [Array.getD, hj, Ne.symm e]
    · simp [Array.getD, hj]

theorem ready_parts {ops : Array Oper} {L : Array Bool} (hs : L.size = ops.size) {i : Nat} (h : i ∈ Region.ready .any ops L) : i < ops.size ∧ L.getD i false = false ∧ ∀ o, ops[i]? = some o → ∀ e ∈ o.after, Region.binds .any e = true → L.getD e.on false = true := by
  simp only [Region.ready, List.mem_filter, List.mem_range, Bool.and_eq_true, Bool.not_eq_true'] at h
  obtain ⟨h1, h2, h3⟩ := h
  rw [getD_in (by omega)] at h2
  refine ⟨h1, by rw [getD_in (by omega)]; exact h2, fun o ho e he hb => ?_⟩
  rw [ho] at h3
  simp only [Option.map_some, Option.getD_some, Array.all_eq_true, Bool.or_eq_true, Bool.not_eq_true'] at h3
  obtain ⟨k, hk, rfl⟩ := Array.getElem_of_mem he
  rcases h3 k hk with h | h
  · rw [hb] at h; cases h
  · exact h
theorem ready_none {ops : Array Oper} (hg : goesBack ops = true) {L : Array Bool} (hs : L.size = ops.size) (h : Region.ready .any ops L = []) : ∀ i, i < ops.size → L.getD i false = true := by
  intro i
  induction i using Nat.strongRecOn with
  | ind i ih =>
    intro hi
    cases hl : L.getD i false with
    | true => rfl
    | false =>
      exfalso
      have hm : i ∈ Region.ready .any ops L := by
        simp only [Region.ready, List.mem_filter, List.mem_range, Bool.and_eq_true, Bool.not_eq_true']
        refine ⟨hi, ?_, ?_⟩
        · rw [getD_in (by omega)] at hl ⊢; exact hl
        have h1 := List.all_eq_true.1 hg i (List.mem_range.2 hi)
        rw [Array.getElem?_eq_getElem hi] at h1 ⊢
        simp only [Option.map_some, Option.getD_some, Array.all_eq_true, Bool.or_eq_true, Bool.not_eq_true', decide_eq_true_eq] at h1 ⊢
        intro k hk
        rcases h1 k hk with h2 | h2
        · exact .inl h2
        · exact .inr (ih _ h2 (by omega))
      rw [h] at hm
      cases hm

/-- The region, in whatever order: what stands behind each set of its operations is kept by each that may come. -/
theorem region_inv {P : Program} {ops : Array Oper} {Q : Exit → Act → World → Prop} {id : Nat} {a : Act} {w : World} (hm : P.follows .mixedOrders = true) (hg : goesBack ops = true) (Inv : (Nat → Bool) → Act → World → Prop)
    (hstep : ∀ l a w i o, ops[i]? = some o → l i = false → (∀ e ∈ o.after, Region.binds .any e = true → l e.on = true) → Inv l a w → wpOp P ops Q i (fun a' w' => Inv (more l i) a' w') a w)
    (hend : ∀ l a w, (∀ i, i < ops.size → l i = true) → Inv l a w → Q .normal a w)
    (h0 : Inv (fun _ => false) a { w with drawn := w.drawn + 1 }) : (Code.region id ops true).wp P Q a w := by
  have key : ∀ fuel (L : Array Bool) a w, L.size = ops.size → leftN (fun j => L.getD j false) ops.size ≤ fuel → Inv (fun j => L.getD j false) a w → wpAny P .any ops Q fuel L a w := by
    intro fuel
    induction fuel with
    | zero =>
      intro L a w hs hf h
      have hall := left_zero _ _ (Nat.le_zero.1 hf)
      refine ⟨?_, hend _ _ _ hall h⟩
      cases hr : Region.ready .any ops L with
      | nil => rfl
      | cons i rs =>
        have hi := ready_parts hs (i := i) (by rw [hr]; exact List.mem_cons_self)
        have := hall i hi.1
        rw [hi.2.1] at this
        cases this
    | succ fuel ih =>
      intro L a w hs hf h
      refine ⟨fun hr => hend _ _ _ (ready_none hg hs hr) h, fun i hi => ?_⟩
      obtain ⟨h1, h2, h3⟩ := ready_parts hs hi
      refine wpOp_mono ?_ (hstep _ a w i ops[i] (Array.getElem?_eq_getElem h1) h2 (h3 _ (Array.getElem?_eq_getElem h1)) h)
      intro a' w' h'
      refine ih _ _ _ (by simpa using hs) ?_ ?_
      · rw [getD_more (by omega)]
        have := left_more (fun j => L.getD j false) ops.size h1 h2
        omega
      · rw [getD_more (by omega)]; exact h'
  refine wp_region_any hm (key _ _ _ _ (by simp) ?_ ?_)
  · have : ∀ n (l : Nat → Bool), leftN l n ≤ n := fun n l => by
      induction n with
      | zero => exact Nat.le_refl _
      | succ n ih => unfold leftN; split <;> omega
    exact this _ _
  · have e : (fun j => (Array.replicate ops.size false).getD j false) = fun _ => false := by
      funext j
      simp only [Array.getD]
      split <;> simp
    rw [e]
    exact h0

end Go.Proofs.YtnhhdjcbifmfgaaDoor

/-
  A region that draws its order, whatever the program: its operations, one by one; the frame behind them; reads and calls in any order; and, at its end, one behind the other, operations that write.
-/
namespace Go.Proofs.YtnhhdjcbifmfgaaDoor
open Go.RowKit

/-- It waits for these. -/
def needs (o : Oper) (js : List Nat) : Bool := js.all fun j => o.after.any fun e => decide (e.on = j) && Region.binds .any e
/-- Operation i of the region. -/
def OpIs (ops : Array Oper) (i : Nat) (op : Op) (dst : Option Tmp) (js : List Nat) : Prop := ∃ o, ops[i]? = some o ∧ o.op = op ∧ o.dst = dst ∧ o.guard = none ∧ needs o js = true
theorem OpIs.waits {ops : Array Oper} {i : Nat} {op : Op} {dst : Option Tmp} {js : List Nat} (h : OpIs ops i op dst js) {o : Oper} (ho : ops[i]? = some o) {l : Nat → Bool} (hl : ∀ e ∈ o.after, Region.binds .any e = true → l e.on = true) : ∀ j ∈ js, l j = true := by
  obtain ⟨o', h1, -, -, -, h5⟩ := h
  rw [ho] at h1
  cases h1
  intro j hj
  have := List.all_eq_true.1 h5 j hj
  simp only [Array.any_eq_true, Bool.and_eq_true, decide_eq_true_eq] at this
  obtain ⟨k, hk, e1, e2⟩ := this
  rw [← e1]
  exact hl _ (Array.getElem_mem hk) e2

section
variable {P : Program} {ops : Array Oper} {Q : Exit → Act → World → Prop} {K : Act → World → Prop} {i : Nat} {dst : Option Tmp} {js : List Nat} {a : Act} {w : World}
theorem OpIs.go {op : Op} (h : OpIs ops i op dst js) (hk : ∀ o : Oper, o.op = op → o.dst = dst → o.wp P a w K Q) : wpOp P ops Q i K a w := by
  obtain ⟨o, h1, h2, h3, h4, -⟩ := h
  unfold wpOp
  rw [h1]
  dsimp only
  rw [if_pos (by simp [Region.wanted, h4])]
  exact .inl (hk o h2 h3)
theorem OpIs.move {k : Tmp} (h : OpIs ops i (.move (.tmp k)) dst js) (hk : K (a.put dst (a.eval (.tmp k))) w) : wpOp P ops Q i K a w :=
  h.go fun o h1 h2 => by
    unfold Oper.wp execOp
    rw [h1]
    simp only [Sem.run_pure]
    show K _ _
    rw [h2]
    exact hk
theorem OpIs.assign {k : Tmp} (h : OpIs ops i (.assign (.tmp k)) dst js) (hk : K (a.put dst (a.eval (.tmp k))) w) : wpOp P ops Q i K a w :=
  h.go fun o h1 h2 => by
    unfold Oper.wp execOp
    rw [h1]
    simp only [Sem.run_pure]
    show K _ _
    rw [h2]
    exact hk
theorem OpIs.extract {k : Tmp} {n : Nat} {vs : Array Value} {v : Value} (h : OpIs ops i (.extract (.tmp k) n) dst js) (he : a.eval (.tmp k) = .tuple vs) (hv : vs[n]? = some v) (hk : K (a.put dst v) w) : wpOp P ops Q i K a w :=
  h.go fun o h1 h2 => by
    unfold Oper.wp execOp
    rw [h1]
    simp only [he, Instr.extract, hv, Sem.run_bind, Sem.run_pure, Result.andThen_ok]
    show K _ _
    rw [h2]
    exact hk
end

theorem eval_put_same' (a : Act) (k : Tmp) (v : Value) (h : k < a.tmps.size) : (a.put (some k) v).eval (.tmp k) = v := by
  simp [Act.put, Act.eval, h]
theorem eval_put_other' (a : Act) {j k : Tmp} (v : Value) (h : j ≠ k) : (a.put (some j) v).eval (.tmp k) = a.eval (.tmp k) := by
  simp [Act.put, Act.eval, h]

/-- The frame is as it was but for these slots. -/
structure SameOut (a1 a : Act) (ds : List Nat) : Prop where
  defers : a.defers = a1.defers
  size : a.tmps.size = a1.tmps.size
  out : ∀ k, k ∉ ds → a.tmps[k]? = a1.tmps[k]?
theorem SameOut.refl (a : Act) (ds : List Nat) : SameOut a a ds := ⟨rfl, rfl, fun _ _ => rfl⟩
theorem SameOut.put {a1 a : Act} {ds : List Nat} (h : SameOut a1 a ds) {k : Nat} (hk : k ∈ ds) (v : Value) : SameOut a1 (a.put (some k) v) ds :=
  ⟨by simp [Act.put, h.defers], by simp [Act.put, h.size], fun j hj => by
    have hne : k ≠ j := fun e => hj (e ▸ hk)
    simp only [Act.put]
    rw [Array.getElem?_setIfInBounds_ne hne]
    exact h.out j hj⟩
theorem SameOut.is {a1 a : Act} {ds : List Nat} (h : SameOut a1 a ds) : a = ds.foldl (fun b k => b.put (some k) (a.eval (.tmp k))) a1 := by
  obtain ⟨h1, h2, h3⟩ := h
  induction ds generalizing a1 with
  | nil =>
    cases a; cases a1
    simp only [List.foldl_nil] at *
    subst h1
    congr 1
    exact Array.ext h2 fun i hi hj => by
      have := h3 i (by simp)
      rw [Array.getElem?_eq_getElem hi, Array.getElem?_eq_getElem hj] at this
      exact Option.some.inj this
  | cons k ds ih =>
    rw [List.foldl_cons]
    refine ih (by simp [Act.put, h1]) (by simp [Act.put, h2]) fun j hj => ?_
    by_cases e : k = j
    · subst e
      simp only [Act.put, Act.eval]
      by_cases hs : k < a1.tmps.size
      · rw [Array.getElem?_setIfInBounds_self_of_lt hs, Array.getElem?_eq_getElem (by omega)]
        simp [Array.getD, h2, hs]
      · rw [Array.getElem?_eq_none (by omega), Array.getElem?_eq_none (by simp; omega)]
    · simp only [Act.put]
      rw [Array.getElem?_setIfInBounds_ne e]
      exact h3 j (by simp [hj, Ne.symm e])

theorem getD_inj {l : List Nat} (h : l.Nodup) {i j : Nat} (hi : i < l.length) (hj : j < l.length) (hne : i ≠ j) : l.getD i 0 ≠ l.getD j 0 := by
  rw [List.getD, List.getD, List.getElem?_eq_getElem hi, List.getElem?_eq_getElem hj]
  intro e
  exact hne ((List.getElem_inj h).1 e)
theorem getD_mem {l : List Nat} {i : Nat} (hi : i < l.length) : l.getD i 0 ∈ l := by
  rw [List.getD, List.getElem?_eq_getElem hi]
  exact List.getElem_mem hi
/-- What is known of the operations that have come. -/
def Known (wx : World) (ds : List Nat) (n : Nat) (R : Nat → Value → World → Prop) (l : Nat → Bool) (a : Act) (w : World) : Prop := ∀ k, l k = true → k < n → ∃ w0, Later wx w0 ∧ Later w0 w ∧ R k (a.eval (.tmp (ds.getD k 0))) w0
theorem region_reads {P : Program} {ops : Array Oper} {Q : Exit → Act → World → Prop} {id : Nat} {a1 : Act} {wx : World} {n : Nat} (hm : P.follows .mixedOrders = true) (hg : goesBack ops = true) (hn : ops.size = n) (ds : List Nat) (hnd : ds.Nodup) (hlen : ds.length = n) (hsz : ∀ d ∈ ds, d < a1.tmps.size) (R : Nat → Value → World → Prop)
    (hstep : ∀ (l : Nat → Bool) (a : Act) (w : World) (i : Nat) (o : Oper) (K : Act → World → Prop), ops[i]? = some o → i < n → (∀ e ∈ o.after, Region.binds .any e = true → l e.on = true) → SameOut a1 a ds → Later wx w → Known wx ds n R l a w → (∀ v w', Later w w' → R i v w' → K (a.put (some (ds.getD i 0)) v) w') → wpOp P ops Q i K a w)
    (hend : ∀ a w, SameOut a1 a ds → Later wx w → Known wx ds n R (fun _ => true) a w → Q .normal a w) : (Code.region id ops true).wp P Q a1 wx := by
  refine region_inv hm hg (fun l a w => SameOut a1 a ds ∧ Later wx w ∧ Known wx ds n R l a w) ?_ ?_ ?_
  · intro l a w i o ho hl hwait ⟨so, hl0, hf⟩
    have hi : i < n := by rw [← hn]; exact (Array.getElem?_eq_some_iff.1 ho).1
    refine hstep l a w i o _ ho hi hwait so hl0 hf fun v w' hl' hr => ?_
    refine ⟨so.put (getD_mem (by omega)) v, hl0.trans hl', fun k hk hkn => ?_⟩
    by_cases e : k = i
    · subst e
      refine ⟨w', hl0.trans hl', Later.refl w', ?_⟩
      rw [eval_put_same' _ _ _ (by rw [so.size]; exact hsz _ (getD_mem (by omega)))]
      exact hr
    · rw [more_other l e] at hk
      obtain ⟨w0, h1, h2, h3⟩ := hf k hk hkn
      refine ⟨w0, h1, h2.trans hl', ?_⟩
      rw [eval_put_other' _ _ (getD_inj hnd (by omega) (by omega) (fun e' => e e'.symm))]
      exact h3
  · intro l a w hall ⟨so, hl0, hf⟩
    refine hend a w so hl0 fun k _ hkn => hf k (hall k (by rw [hn]; exact hkn)) hkn
  · exact ⟨SameOut.refl _ _, (Later.refl wx).drew, fun k hk => by cases hk⟩

/-- What has come waits for nothing. -/
def Down (ops : Array Oper) (l : Nat → Bool) : Prop := ∀ i o, ops[i]? = some o → l i = true → ∀ e ∈ o.after, Region.binds .any e = true → l e.on = true
theorem Down.add {ops : Array Oper} {l : Nat → Bool} {i : Nat} {o : Oper} (h : Down ops l) (ho : ops[i]? = some o) (hw : ∀ e ∈ o.after, Region.binds .any e = true → l e.on = true) : Down ops (more l i) := by
  have key : ∀ j, l j = true → more l i j = true := fun j hj => by
    by_cases e : j = i
    · subst e; exact more_same l j
    · rw [more_other l e]; exact hj
  intro j o' hj hl e he hb
  by_cases e' : j = i
  · subst e'
    rw [ho] at hj
    cases hj
    exact key _ (hw e he hb)
  · rw [more_other l e'] at hl
    exact key _ (h j o' hj hl e he hb)
theorem OpIs.back {ops : Array Oper} {i : Nat} {op : Op} {dst : Option Tmp} {js : List Nat} (h : OpIs ops i op dst js) {l : Nat → Bool} (hd : Down ops l) (hi : l i = true) : ∀ j ∈ js, l j = true := by
  obtain ⟨o, h1, h2⟩ := h
  exact OpIs.waits ⟨o, h1, h2⟩ h1 (hd i o h1 hi)

/-- What an operation hands on. -/
def putD (hasD : Bool) (a : Act) (k : Tmp) (v : Value) : Act := if hasD = true then a.put (some k) v else a
set_option maxHeartbeats 1600000 in
theorem region_turns {P : Program} {ops : Array Oper} {Q : Exit → Act → World → Prop} {id : Nat} {a1 : Act} {wx : World} {n : Nat} (hm : P.follows .mixedOrders = true) (hg : goesBack ops = true) (hn : ops.size = n) (ds : List Nat) (hnd : ds.Nodup) (hlen : ds.length = n) (os : List Nat) (isT pure hasD : Nat → Bool) (ts : List Nat)
    (hos : ∀ i, i < n → hasD i = true → ds.getD i 0 ∈ os) (hsz : ∀ i, i < n → hasD i = true → ds.getD i 0 < a1.tmps.size) (R : Nat → Value → World → Prop) (X : Nat → List Value → World → World → Prop)
    (hT : ∀ i, isT i = true → i ∈ ts) (hTn : ∀ i ∈ ts, i < n ∧ isT i = true ∧ pure i = false) (hnod : ts.Nodup) (hD : ∀ i, i < n → isT i = false → hasD i = true)
    (hpre : ∀ l, Down ops l → ∀ i ∈ ts, l i = true → ∀ k, k < n → pure k = false → isT k = false → l k = true)
    (hord : ∀ l, Down ops l → ∀ (t : Nat) i i', ts[t]? = some i → ts[t + 1]? = some i' → l i' = true → l i = true)
    (hRT : ∀ i, isT i = true → ∀ v w, R i v w) (hX0 : ∀ vals w1 w, X 0 vals w1 w ↔ w = w1)
    (hstep : ∀ (l : Nat → Bool) (a : Act) (w : World) (i : Nat) (o : Oper) (K : Act → World → Prop), ops[i]? = some o → i < n → pure i = false → isT i = false → (∀ e ∈ o.after, Region.binds .any e = true → l e.on = true) → SameOut a1 a os → Later wx w → Known wx ds n R l a w → (∀ v w', Later w w' → R i v w' → K (a.put (some (ds.getD i 0)) v) w') → wpOp P ops Q i K a w)
    (hpure : ∀ (l : Nat → Bool) (a : Act) (w w1 : World) (i : Nat) (o : Oper) (K : Act → World → Prop), ops[i]? = some o → i < n → pure i = true → (∀ e ∈ o.after, Region.binds .any e = true → l e.on = true) → SameOut a1 a os → Later wx w1 → Known wx ds n R l a w1 → (∀ v, R i v w1 → K (a.put (some (ds.getD i 0)) v) w) → wpOp P ops Q i K a w)
    (hturn : ∀ (l : Nat → Bool) (a : Act) (w1 w : World) (t i : Nat) (o : Oper) (vals : List Value) (K : Act → World → Prop), ts[t]? = some i → ops[i]? = some o → (∀ e ∈ o.after, Region.binds .any e = true → l e.on = true) → SameOut a1 a os → Later wx w1 → Known wx ds n R l a w1 → vals.length = t → (∀ (s k : Nat) v, ts[s]? = some k → vals[s]? = some v → hasD k = true → a.eval (.tmp (ds.getD k 0)) = v) → X t vals w1 w → (∀ v w', X (t + 1) (vals ++ [v]) w1 w' → K (putD (hasD i) a (ds.getD i 0) v) w') → wpOp P ops Q i K a w)
    (hend : ∀ a w1 w vals, SameOut a1 a os → Later wx w1 → Known wx ds n R (fun _ => true) a w1 → vals.length = ts.length → (∀ (s k : Nat) v, ts[s]? = some k → vals[s]? = some v → hasD k = true → a.eval (.tmp (ds.getD k 0)) = v) → X ts.length vals w1 w → Q .normal a w) : (Code.region id ops true).wp P Q a1 wx := by
  refine region_inv hm hg (fun l a w => SameOut a1 a os ∧ Down ops l ∧ ∃ (j : Nat) (w1 : World) (vals : List Value), (∀ (t : Nat) i, ts[t]? = some i → (l i = true ↔ t < j)) ∧ j ≤ ts.length ∧ vals.length = j ∧ (∀ (s k : Nat) v, ts[s]? = some k → vals[s]? = some v → hasD k = true → a.eval (.tmp (ds.getD k 0)) = v) ∧ Later wx w1 ∧ Known wx ds n R l a w1 ∧ X j vals w1 w) ?_ ?_ ?_
  · intro l a w i o ho hl hwait ⟨so, dn, j, w1, vals, hj, hjb, hvl, hvs, hL, hk, hx⟩
    have hi : i < n := by rw [← hn]; exact (Array.getElem?_eq_some_iff.1 ho).1
    have hdn := dn.add ho hwait
    have hother : ∀ k, k < n → k ≠ i → ds.getD k 0 ≠ ds.getD i 0 := fun k hk e => getD_inj hnd (by omega) (by omega) e
    have hkn : ∀ v (w2 w3 : World), Later w1 w2 → Later w1 w3 → Later w2 w3 → R i v w2 → hasD i = true → Known wx ds n R (more l i) (a.put (some (ds.getD i 0)) v) w3 := by
      intro v w2 w3 h12 h13 h23 hr hd q hq hqn
      by_cases e : q = i
      · subst e
        refine ⟨w2, hL.trans h12, h23, ?_⟩
        rw [eval_put_same' _ _ _ (by rw [so.size]; exact hsz q hi hd)]
        exact hr
      · rw [more_other l e] at hq
        obtain ⟨w0, h1, h2, h3⟩ := hk q hq hqn
        refine ⟨w0, h1, h2.trans h13, ?_⟩
        rw [eval_put_other' _ _ (fun e' => hother q hqn e e'.symm)]
        exact h3
    have hvp : ∀ v, isT i = false → ∀ (s k : Nat) u, ts[s]? = some k → vals[s]? = some u → hasD k = true → (a.put (some (ds.getD i 0)) v).eval (.tmp (ds.getD k 0)) = u := fun v hns s k u h1 h2 h3 => by
      have hkt := hTn k (List.mem_of_getElem? h1)
      have hne : k ≠ i := fun e => by rw [← e, hkt.2.1] at hns; cases hns
      rw [eval_put_other' _ _ (fun e => hother k hkt.1 hne e.symm)]
      exact hvs s k u h1 h2 h3
    have hjm : isT i = false → ∀ (t : Nat) k, ts[t]? = some k → (more l i k = true ↔ t < j) := fun hns t k hb => by
      have : k ≠ i := fun e => by rw [← e, (hTn k (List.mem_of_getElem? hb)).2.1] at hns; cases hns
      rw [more_other l this]
      exact hj t k hb
    cases hs : isT i with
    | true =>
      have him := hT i hs
      obtain ⟨t, ht⟩ := List.mem_iff_getElem?.1 him
      have htl := (List.getElem?_eq_some_iff.1 ht).1
      have htj : t = j := by
        have h1 : ¬ t < j := fun h => by rw [(hj t i ht).2 h] at hl; cases hl
        rcases t with _ | t
        · omega
        · have hb' : ts[t]? = some ts[t] := List.getElem?_eq_getElem (by omega)
          have := hord _ hdn t _ i hb' ht (more_same l _)
          rw [more_other l (fun e => by
            have h2 := (List.getElem?_eq_some_iff.1 ht).2
            have h3 := (List.getElem_inj hnod).1 (e.trans h2.symm)
            omega)] at this
          have := (hj t _ hb').1 this
          omega
      subst htj
      refine hturn l a w1 w t i o vals _ ht ho hwait so hL hk hvl hvs hx fun v w' hx' => ?_
      have hso : SameOut a1 (putD (hasD i) a (ds.getD i 0) v) os := by
        unfold putD
        split
        · exact so.put (hos i hi (by assumption)) v
        · exact so
      have hoth : ∀ k, k < n → k ≠ i → (putD (hasD i) a (ds.getD i 0) v).eval (.tmp (ds.getD k 0)) = a.eval (.tmp (ds.getD k 0)) := fun k hkn hne => by
        unfold putD
        split
        · exact eval_put_other' _ _ (fun e => hother k hkn hne e.symm)
        · rfl
      refine ⟨hso, hdn, t + 1, w1, vals ++ [v], fun t' k hk' => ?_, by omega, by simp [hvl], fun s k u h1 h2 h3 => ?_, hL, fun q hq hqn => ?_, hx'⟩
      · by_cases e : k = i
        · subst e
          have h2 := (List.getElem?_eq_some_iff.1 ht).2
          have h4 := (List.getElem?_eq_some_iff.1 hk').2
          have h3 := (List.getElem_inj hnod).1 (h4.trans h2.symm)
          subst h3
          rw [more_same]
          exact ⟨fun _ => Nat.lt_succ_self _, fun _ => rfl⟩
        · rw [more_other l e, hj t' k hk']
          have : t' ≠ t := fun e' => by subst e'; rw [hk'] at ht; cases ht; exact e rfl
          omega
      · have hsl := (List.getElem?_eq_some_iff.1 h2).1
        rw [List.length_append, List.length_singleton, hvl] at hsl
        by_cases e : k = i
        · subst e
          have h4 := (List.getElem?_eq_some_iff.1 h1).2; have h5 := (List.getElem?_eq_some_iff.1 ht).2
          have h6 := (List.getElem_inj hnod).1 (h4.trans h5.symm)
          subst h6
          rw [List.getElem?_append_right (by omega), hvl, Nat.sub_self] at h2
          simp at h2
          subst h2
          unfold putD
          rw [if_pos h3]
          exact eval_put_same' _ _ _ (by rw [so.size]; exact hsz _ hi h3)
        · have hne : s ≠ t := fun e' => by subst e'; rw [h1] at ht; cases ht; exact e rfl
          rw [List.getElem?_append_left (by omega)] at h2
          rw [hoth k (hTn k (List.mem_of_getElem? h1)).1 e]
          exact hvs s k u h1 h2 h3
      · by_cases e : q = i
        · subst e
          exact ⟨w1, hL, Later.refl _, hRT _ hs _ _⟩
        · rw [more_other l e] at hq
          rw [hoth q hqn e]
          exact hk q hq hqn
    | false =>
      have hd := hD i hi hs
      cases hp : pure i with
      | true =>
        refine hpure l a w w1 i o _ ho hi hp hwait so hL hk fun v hr => ?_
        exact ⟨so.put (hos _ hi hd) v, hdn, j, w1, vals, hjm hs, hjb, hvl, hvp v hs, hL, hkn v w1 w1 (Later.refl _) (Later.refl _) (Later.refl _) hr hd, hx⟩
      | false =>
        have h0 : j = 0 := by
          rcases Nat.eq_zero_or_pos j with h | h
          · exact h
          · have hb : ts[0]? = some ts[0] := List.getElem?_eq_getElem (by omega)
            have := hpre l dn _ (List.mem_of_getElem? hb) ((hj 0 _ hb).2 h) i hi hp hs
            rw [hl] at this; cases this
        subst h0
        have hw := (hX0 _ _ _).1 hx
        subst hw
        have hv0 : vals = [] := List.eq_nil_of_length_eq_zero hvl
        subst hv0
        refine hstep l a w i o _ ho hi hp hs hwait so hL hk fun v w' hlw hr => ?_
        exact ⟨so.put (hos _ hi hd) v, hdn, 0, w', [], hjm hs, hjb, rfl, hvp v hs, hL.trans hlw, hkn v w' w' hlw hlw (Later.refl _) hr hd, (hX0 _ _ _).2 rfl⟩
  · intro l a w hall ⟨so, dn, j, w1, vals, hj, hjb, hvl, hvs, hL, hk, hx⟩
    rw [hn] at hall
    have hjl : j = ts.length := by
      rcases Nat.lt_or_ge j ts.length with h | h
      · have hb : ts[j]? = some ts[j] := List.getElem?_eq_getElem h
        have := (hj j _ hb).1 (hall _ (hTn _ (List.mem_of_getElem? hb)).1)
        omega
      · omega
    subst hjl
    exact hend a w1 w vals so hL (fun q _ hqn => hk q (hall q hqn) hqn) hvl hvs hx
  · exact ⟨SameOut.refl _ _, (fun i o _ h => by cases h), 0, { wx with drawn := wx.drawn + 1 }, [], (fun t i _ => ⟨(fun h => by cases h), fun h => by omega⟩), Nat.zero_le _, rfl, (fun s k v _ h => by simp at h), (Later.refl wx).drew, (fun k hk => by cases hk), (hX0 _ _ _).2 rfl⟩

theorem len_two {α : Type} {l : List α} (h : l.length = 2) : ∃ a b, l = [a, b] := by
  match l, h with
  | [a, b], _ => exact ⟨a, b, rfl⟩
theorem len_three {α : Type} {l : List α} (h : l.length = 3) : ∃ a b c, l = [a, b, c] := by
  match l, h with
  | [a, b, c], _ => exact ⟨a, b, c, rfl⟩

section
variable {ops : Array Oper} {Q : Exit → Act → World → Prop} {K : Act → World → Prop} {i : Nat} {dst : Option Tmp} {js : List Nat} {a : Act} {w : World}
theorem OpIs.call1 {f : FuncId} {k : Tmp} {t : TypeId} {v : Value} {Post : Ending → World → Prop} (h : OpIs ops i (.call { callee := .value (.func f), args := #[.tmp k], argTypes := #[t] }) dst js) (hf : ∀ args w, (callFunc f args).run Tryd.prog w = .ok (.enter f args) w)
    (he : a.eval (.tmp k) = v) (hc : Calls Tryd.prog f #[v] w Post) (hk : ∀ e w', Post e w' → ∃ u, e = .returned u ∧ K (a.put dst u) w') : wpOp Tryd.prog ops Q i K a w :=
  h.go fun o h1 h2 => by
    have hr : (execOp a.eval o).run Tryd.prog w = .ok (.enter f #[v]) w := by
      unfold execOp
      rw [h1]
      simp only [resolve, invoke, Sem.run_bind, List.map_toArray, List.map_cons, List.map_nil, he]
      go_simp
    unfold Oper.wp
    rw [hr]
    show Calls _ _ _ _ _
    refine hc.mono ?_
    intro e w' hp
    obtain ⟨u, rfl, hku⟩ := hk e w' hp
    dsimp only
    rw [h2]
    exact hku
theorem OpIs.call2 {f : FuncId} {k m : Tmp} {t s : TypeId} {v u : Value} {Post : Ending → World → Prop} (h : OpIs ops i (.call { callee := .value (.func f), args := #[.tmp k, .tmp m], argTypes := #[t, s] }) dst js) (hf : ∀ args w, (callFunc f args).run Tryd.prog w = .ok (.enter f args) w)
    (he : a.eval (.tmp k) = v) (he2 : a.eval (.tmp m) = u) (hc : Calls Tryd.prog f #[v, u] w Post) (hk : ∀ e w', Post e w' → ∃ r, e = .returned r ∧ K (a.put dst r) w') : wpOp Tryd.prog ops Q i K a w :=
  h.go fun o h1 h2 => by
    have hr : (execOp a.eval o).run Tryd.prog w = .ok (.enter f #[v, u]) w := by
      unfold execOp
      rw [h1]
      simp only [resolve, invoke, Sem.run_bind, List.map_toArray, List.map_cons, List.map_nil, he, he2]
      go_simp
    unfold Oper.wp
    rw [hr]
    show Calls _ _ _ _ _
    refine hc.mono ?_
    intro e w' hp
    obtain ⟨r, rfl, hku⟩ := hk e w' hp
    dsimp only
    rw [h2]
    exact hku
theorem OpIs.nilCk {k : Tmp} {b o : Nat} (h : OpIs ops i (.nilCheck (.tmp k)) dst js) (he : a.eval (.tmp k) = .pointer (some ⟨b, o, none⟩)) (hk : K (a.put dst (.pointer (some ⟨b, o, none⟩))) w) : wpOp Tryd.prog ops Q i K a w :=
  h.go fun op h1 h2 => by
    have hr : (execOp a.eval op).run Tryd.prog w = .ok (.value (.pointer (some ⟨b, o, none⟩))) w := by
      clear hk
      unfold execOp
      rw [h1]
      dsimp only
      rw [he]
      go_simp
    unfold Oper.wp
    rw [hr]
    show K _ _
    rw [h2]
    exact hk
end

end Go.Proofs.YtnhhdjcbifmfgaaDoor

/-
  The operations of a region that draws its order, one by one; the frame behind them.
-/
namespace Go.Proofs.YtnhhdjcbifmfgaaDoor
open Go.RowKit

section
variable {ops : Array Oper} {Q : Exit → Act → World → Prop} {K : Act → World → Prop} {i : Nat} {dst : Option Tmp} {js : List Nat} {a : Act} {w : World}
theorem OpIs.load {ty : TypeId} {k : Tmp} {g : Nat} {x : PrC} {t : TypeId} {fs : Array Field} (h : OpIs ops i (.load ty (.tmp k)) dst js) (hu : Tryd.prog.underlying ty = some (.struct fs)) (hi : (Tryd.prog.info? ty).map (·.size) = some 6)
    (he : a.eval (.tmp k) = .pointer (some ⟨g, 0, none⟩)) (hb : BoxAt w g (prL x).toArray t) (hk : K (a.put dst (prV x)) w) : wpOp Tryd.prog ops Q i K a w :=
  h.go fun o h1 h2 => by
    refine wp_load_row ty (.tmp k) h1 g he t (prL x).toArray (0, 0) _ hb hu rfl hi ?_
    rw [h2]
    exact hk
def zeroL : Array Value := #[.int .i64 0, .string ⟨#[]⟩, .string ⟨#[]⟩, .int .i64 0, .slice none 0 0, .slice none 0 0]
theorem OpIs.alloc (h : OpIs ops i (.alloc 29) dst js) (hk : K (a.put dst (.pointer (some ⟨w.heap.size, 0, none⟩))) (w.alloc (.cells zeroL 29))) : wpOp Tryd.prog ops Q i K a w :=
  h.go fun o h1 h2 => by
    have hr : (execOp a.eval o).run Tryd.prog w = .ok (.value (.pointer (some ⟨w.heap.size, 0, none⟩))) (w.alloc (.cells zeroL 29)) := by
      unfold execOp
      rw [h1]
      go_simp
      rfl
    unfold Oper.wp
    rw [hr]
    show K _ _
    rw [h2]
    exact hk
theorem OpIs.store {j k : Tmp} {g : Nat} {x : PrC} {cs : Array Value} (h : OpIs ops i (.store 29 (.tmp j) (.tmp k)) none js) (hj : a.eval (.tmp j) = .pointer (some ⟨g, 0, none⟩)) (hv : a.eval (.tmp k) = prV x) (hb : BoxAt w g cs 29) (hs : cs.size = 6)
    (hk : ∀ w', BoxAt w' g (prL x).toArray 29 → Turned g w w' → K a w') : wpOp Tryd.prog ops Q i K a w :=
  h.go fun o h1 h2 => by
    match cs, hs with
    | ⟨[x0, x1, x2, x3, x4, x5]⟩, _ =>
      have y0 : w.cell? ⟨g, 0, none⟩ = some x0 := hb.cell rfl
      have y1 : w.cell? ⟨g, 1, none⟩ = some x1 := hb.cell rfl
      have y2 : w.cell? ⟨g, 2, none⟩ = some x2 := hb.cell rfl
      have y3 : w.cell? ⟨g, 3, none⟩ = some x3 := hb.cell rfl
      have y4 : w.cell? ⟨g, 4, none⟩ = some x4 := hb.cell rfl
      have y5 : w.cell? ⟨g, 5, none⟩ = some x5 := hb.cell rfl
      have z0 := hb.frozen 0; have z1 := hb.frozen 1; have z2 := hb.frozen 2; have z3 := hb.frozen 3; have z4 := hb.frozen 4; have z5 := hb.frozen 5
      have hb' := hb.set6 (.int .i64 x.v.kind) (.string x.v.name) (.string x.v.to) (.int .i64 x.v.place) (.slice x.A x.n x.c) (.slice x.B x.m x.d)
      have ht := turned_set6 w g (.int .i64 x.v.kind) (.string x.v.name) (.string x.v.to) (.int .i64 x.v.place) (.slice x.A x.n x.c) (.slice x.B x.m x.d)
      have hr : (execOp a.eval o).run Tryd.prog w = .ok .skip ((((((w.setCell ⟨g, 0, none⟩ (.int .i64 x.v.kind)).setCell ⟨g, 1, none⟩ (.string x.v.name)).setCell ⟨g, 2, none⟩ (.string x.v.to)).setCell ⟨g, 3, none⟩ (.int .i64 x.v.place)).setCell ⟨g, 4, none⟩ (.slice x.A x.n x.c)).setCell ⟨g, 5, none⟩ (.slice x.B x.m x.d)) := by
        clear hb hb' ht hk
        unfold prV at hv
        unfold execOp
        rw [h1]
        dsimp only
        rw [hj, hv]
        go_simp
      unfold Oper.wp
      rw [hr]
      show K _ _
      rw [h2]
      exact hk _ hb' ht
end

end Go.Proofs.YtnhhdjcbifmfgaaDoor
