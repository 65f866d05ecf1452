import Derived.Test.YtaonfedjilfgjaaChecked
import Derived.OrdersHeld
import Derived.WalkKit
import Derived.Test.YtaonfedjilfgjaaPk1
import Derived.Test.YtaonfedjilfgjaaPk2
import Derived.StillTailTactics
import Derived.Test.YtaonfedjilfgjaaPk3

/-
  A region that draws its order, by what stands behind each set of its operations.
-/
namespace Go.Proofs.Ytaonfedjilfgjaa
open Go.RowKit

/-- An operation more. -/
def more (l : Nat → Bool) (i : Nat) : Nat → Bool := fun j => if j = i then true else l j
theorem more_same (l : Nat → Bool) (i : Nat) : more l i i = true := by simp [more]
theorem more_other (l : Nat → Bool) {i j : Nat} (h : j ≠ i) : more l i j = l j := by simp [more, h]

/-- Each edge that binds goes to an operation ahead. -/
def goesBack (ops : Array Oper) : Bool := (List.range ops.size).all fun i => ((ops[i]?).map (·.after.all fun e => !Region.binds .any e || decide (e.on < i))).getD true
/-- How many are left. -/
def leftN (l : Nat → Bool) : Nat → Nat
  | 0 => 0
  | n + 1 => leftN l n + (if l n then 0 else 1)
theorem left_more (l : Nat → Bool) {i : Nat} : ∀ n, i < n → l i = false → leftN (more l i) n + 1 = leftN l n
  | 0, h, _ => absurd h (Nat.not_lt_zero _)
  | n + 1, h, hi => by
    unfold leftN
    by_cases e : i = n
    · subst e
      have : ∀ k, k ≤ i → leftN (more l i) k = leftN l k := fun k => by
        induction k with
        | zero => intro _; rfl
        | succ k ih => intro hk; unfold leftN; rw [ih (by omega), more_other l (by omega)]
      rw [this i (Nat.le_refl _), more_same, hi]
      simp
    · have := left_more l n (by omega) hi
      rw [more_other l (fun x => e x.symm)]
      omega
theorem left_zero (l : Nat → Bool) : ∀ n, leftN l n = 0 → ∀ i, i < n → l i = true
  | 0, _, i, h => absurd h (Nat.not_lt_zero _)
  | n + 1, h0, i, h => by
    unfold leftN at h0
    by_cases e : i = n
    · subst e
      cases hl : l i
      · rw [hl] at h0; simp at h0
      · rfl
    · exact left_zero l n (by omega) i (by omega)

theorem getD_in {L : Array Bool} {i : Nat} (h : i < L.size) (d : Bool) : L.getD i d = L[i] := by simp [Array.getD, h]
theorem getD_more {L : Array Bool} {i : Nat} (h : i < L.size) : (fun j => (L.setIfInBounds i true).getD j false) = more (fun j => L.getD j false) i := by
  funext j
  unfold more
  by_cases e : j = i
  · subst e
    simp [Array.getD, h]
  · rw [if_neg e]
    by_cases hj : j < L.size
    · simp [Array.getD, hj, Ne.symm e]
    · simp [Array.getD, hj]

theorem ready_parts {ops : Array Oper} {L : Array Bool} (hs : L.size = ops.size) {i : Nat} (h : i ∈ Region.ready .any ops L) : i < ops.size ∧ L.getD i false = false ∧ ∀ o, ops[i]? = some o → ∀ e ∈ o.after, Region.binds .any e = true → L.getD e.on false = true := by
  simp only [Region.ready, List.mem_filter, List.mem_range, Bool.and_eq_true, Bool.not_eq_true'] at h
  obtain ⟨h1, h2, h3⟩ := h
  rw [getD_in (by omega)] at h2
  refine ⟨h1, by rw [getD_in (by omega)]; exact h2, fun o ho e he hb => ?_⟩
  rw [ho] at h3
  simp only [Option.map_some, Option.getD_some, Array.all_eq_true, Bool.or_eq_true, Bool.not_eq_true'] at h3
  obtain ⟨k, hk, rfl⟩ := Array.getElem_of_mem he
  rcases h3 k hk with h | h
  · rw [hb] at h; cases h
  · exact h
theorem ready_none {ops : Array Oper} (hg : goesBack ops = true) {L : Array Bool} (hs : L.size = ops.size) (h : Region.ready .any ops L = []) : ∀ i, i < ops.size → L.getD i false = true := by
  intro i
  induction i using Nat.strongRecOn with
  | ind i ih =>
    intro hi
    cases hl : L.getD i false with
    | true => rfl
    | false =>
      exfalso
      have hm : i ∈ Region.ready .any ops L := by
        simp only [Region.ready, List.mem_filter, List.mem_range, Bool.and_eq_true, Bool.not_eq_true']
        refine ⟨hi, ?_, ?_⟩
        · rw [getD_in (by omega)] at hl ⊢; exact hl
        have h1 := List.all_eq_true.1 hg i (List.mem_range.2 hi)
        rw [Array.getElem?_eq_getElem hi] at h1 ⊢
        simp only [Option.map_some, Option.getD_some, Array.all_eq_true, Bool.or_eq_true, Bool.not_eq_true', decide_eq_true_eq] at h1 ⊢
        intro k hk
        rcases h1 k hk with h2 | h2
        · exact .inl h2
        · exact .inr (ih _ h2 (by omega))
      rw [h] at hm
      cases hm

/-- The region, in whatever order: what stands behind each set of its operations is kept by each that may come. -/
theorem region_inv {P : Program} {ops : Array Oper} {Q : Exit → Act → World → Prop} {id : Nat} {a : Act} {w : World} (hm : P.follows .mixedOrders = true) (hg : goesBack ops = true) (Inv : (Nat → Bool) → Act → World → Prop)
    (hstep : ∀ l a w i o, ops[i]? = some o → l i = false → (∀ e ∈ o.after, Region.binds .any e = true → l e.on = true) → Inv l a w → wpOp P ops Q i (fun a' w' => Inv (more l i) a' w') a w)
    (hend : ∀ l a w, (∀ i, i < ops.size → l i = true) → Inv l a w → Q .normal a w)
    (h0 : Inv (fun _ => false) a { w with drawn := w.drawn + 1 }) : (Code.region id ops true).wp P Q a w := by
  have key : ∀ fuel (L : Array Bool) a w, L.size = ops.size → leftN (fun j => L.getD j false) ops.size ≤ fuel → Inv (fun j => L.getD j false) a w → wpAny P .any ops Q fuel L a w := by
    intro fuel
    induction fuel with
    | zero =>
      intro L a w hs hf h
      have hall := left_zero _ _ (Nat.le_zero.1 hf)
      refine ⟨?_, hend _ _ _ hall h⟩
      cases hr : Region.ready .any ops L with
      | nil => rfl
      | cons i rs =>
        have hi := ready_parts hs (i := i) (by rw [hr]; exact List.mem_cons_self)
        have := hall i hi.1
        rw [hi.2.1] at this
        cases this
    | succ fuel ih =>
      intro L a w hs hf h
      refine ⟨fun hr => hend _ _ _ (ready_none hg hs hr) h, fun i hi => ?_⟩
      obtain ⟨h1, h2, h3⟩ := ready_parts hs hi
      refine wpOp_mono ?_ (hstep _ a w i ops[i] (Array.getElem?_eq_getElem h1) h2 (h3 _ (Array.getElem?_eq_getElem h1)) h)
      intro a' w' h'
      refine ih _ _ _ (by simpa using hs) ?_ ?_
      · rw [getD_more (by omega)]
        have := left_more (fun j => L.getD j false) ops.size h1 h2
        omega
      · rw [getD_more (by omega)]; exact h'
  refine wp_region_any hm (key _ _ _ _ (by simp) ?_ ?_)
  · have : ∀ n (l : Nat → Bool), leftN l n ≤ n := fun n l => by
      induction n with
      | zero => exact Nat.le_refl _
      | succ n ih => unfold leftN; split <;> omega
    exact this _ _
  · have e : (fun j => (Array.replicate ops.size false).getD j false) = fun _ => false := by
      funext j
      simp only [Array.getD]
      split <;> simp
    rw [e]
    exact h0

end Go.Proofs.Ytaonfedjilfgjaa

/-
  A region that draws its order, whatever the program: its operations, one by one; the frame behind them; reads and calls in any order; and, at its end, one behind the other, operations that write.
-/
namespace Go.Proofs.Ytaonfedjilfgjaa
open Go.RowKit

/-- It waits for these. -/
def needs (o : Oper) (js : List Nat) : Bool := js.all fun j => o.after.any fun e => decide (e.on = j) && Region.binds .any e
/-- Operation i of the region. -/
def OpIs (ops : Array Oper) (i : Nat) (op : Op) (dst : Option Tmp) (js : List Nat) : Prop := ∃ o, ops[i]? = some o ∧ o.op = op ∧ o.dst = dst ∧ o.guard = none ∧ needs o js = true
theorem OpIs.waits {ops : Array Oper} {i : Nat} {op : Op} {dst : Option Tmp} {js : List Nat} (h : OpIs ops i op dst js) {o : Oper} (ho : ops[i]? = some o) {l : Nat → Bool} (hl : ∀ e ∈ o.after, Region.binds .any e = true → l e.on = true) : ∀ j ∈ js, l j = true := by
  obtain ⟨o', h1, -, -, -, h5⟩ := h
  rw [ho] at h1
  cases h1
  intro j hj
  have := List.all_eq_true.1 h5 j hj
  simp only [Array.any_eq_true, Bool.and_eq_true, decide_eq_true_eq] at this
  obtain ⟨k, hk, e1, e2⟩ := this
  rw [← e1]
  exact hl _ (Array.getElem_mem hk) e2

section
variable {P : Program} {ops : Array Oper} {Q : Exit → Act → World → Prop} {K : Act → World → Prop} {i : Nat} {dst : Option Tmp} {js : List Nat} {a : Act} {w : World}
theorem OpIs.go {op : Op} (h : OpIs ops i op dst js) (hk : ∀ o : Oper, o.op = op → o.dst = dst → o.wp P a w K Q) : wpOp P ops Q i K a w := by
  obtain ⟨o, h1, h2, h3, h4, -⟩ := h
  unfold wpOp
  rw [h1]
  dsimp only
  rw [if_pos (by simp [Region.wanted, h4])]
  exact .inl (hk o h2 h3)
theorem OpIs.move {k : Tmp} (h : OpIs ops i (.move (.tmp k)) dst js) (hk : K (a.put dst (a.eval (.tmp k))) w) : wpOp P ops Q i K a w :=
  h.go fun o h1 h2 => by
    unfold Oper.wp execOp
    rw [h1]
    simp only [Sem.run_pure]
    show K _ _
    rw [h2]
    exact hk
theorem OpIs.assign {k : Tmp} (h : OpIs ops i (.assign (.tmp k)) dst js) (hk : K (a.put dst (a.eval (.tmp k))) w) : wpOp P ops Q i K a w :=
  h.go fun o h1 h2 => by
    unfold Oper.wp execOp
    rw [h1]
    simp only [Sem.run_pure]
    show K _ _
    rw [h2]
    exact hk
theorem OpIs.extract {k : Tmp} {n : Nat} {vs : Array Value} {v : Value} (h : OpIs ops i (.extract (.tmp k) n) dst js) (he : a.eval (.tmp k) = .tuple vs) (hv : vs[n]? = some v) (hk : K (a.put dst v) w) : wpOp P ops Q i K a w :=
  h.go fun o h1 h2 => by
    unfold Oper.wp execOp
    rw [h1]
    simp only [he, Instr.extract, hv, Sem.run_bind, Sem.run_pure, Result.andThen_ok]
    show K _ _
    rw [h2]
    exact hk
end

theorem eval_put_same' (a : Act) (k : Tmp) (v : Value) (h : k < a.tmps.size) : (a.put (some k) v).eval (.tmp k) = v := by
  simp [Act.put, Act.eval, h]
theorem eval_put_other' (a : Act) {j k : Tmp} (v : Value) (h : j ≠ k) : (a.put (some j) v).eval (.tmp k) = a.eval (.tmp k) := by
  simp [Act.put, Act.eval, h]

/-- The frame is as it was but for these slots. -/
structure SameOut (a1 a : Act) (ds : List Nat) : Prop where
  defers : a.defers = a1.defers
  size : a.tmps.size = a1.tmps.size
  out : ∀ k, k ∉ ds → a.tmps[k]? = a1.tmps[k]?
theorem SameOut.refl (a : Act) (ds : List Nat) : SameOut a a ds := ⟨rfl, rfl, fun _ _ => rfl⟩
theorem SameOut.put {a1 a : Act} {ds : List Nat} (h : SameOut a1 a ds) {k : Nat} (hk : k ∈ ds) (v : Value) : SameOut a1 (a.put (some k) v) ds :=
  ⟨by simp [Act.put, h.defers], by simp [Act.put, h.size], fun j hj => by
    have hne : k ≠ j := fun e => hj (e ▸ hk)
    simp only [Act.put]
    rw [Array.getElem?_setIfInBounds_ne hne]
    exact h.out j hj⟩
theorem SameOut.is {a1 a : Act} {ds : List Nat} (h : SameOut a1 a ds) : a = ds.foldl (fun b k => b.put (some k) (a.eval (.tmp k))) a1 := by
  obtain ⟨h1, h2, h3⟩ := h
  induction ds generalizing a1 with
  | nil =>
    cases a; cases a1
    simp only [List.foldl_nil] at *
    subst h1
    congr 1
    exact Array.ext h2 fun i hi hj => by
      have := h3 i (by simp)
      rw [Array.getElem?_eq_getElem hi, Array.getElem?_eq_getElem hj] at this
      exact Option.some.inj this
  | cons k ds ih =>
    rw [List.foldl_cons]
    refine ih (by simp [Act.put, h1]) (by simp [Act.put, h2]) fun j hj => ?_
    by_cases e : k = j
    · subst e
      simp only [Act.put, Act.eval]
      by_cases hs : k < a1.tmps.size
      · rw [Array.getElem?_setIfInBounds_self_of_lt hs, Array.getElem?_eq_getElem (by omega)]
        simp [Array.getD, h2, hs]
      · rw [Array.getElem?_eq_none (by omega), Array.getElem?_eq_none (by simp; omega)]
    · simp only [Act.put]
      rw [Array.getElem?_setIfInBounds_ne e]
      exact h3 j (by simp [hj, Ne.symm e])

theorem getD_inj {l : List Nat} (h : l.Nodup) {i j : Nat} (hi : i < l.length) (hj : j < l.length) (hne : i ≠ j) : l.getD i 0 ≠ l.getD j 0 := by
  rw [List.getD, List.getD, List.getElem?_eq_getElem hi, List.getElem?_eq_getElem hj]
  intro e
  exact hne ((List.getElem_inj h).1 e)
theorem getD_mem {l : List Nat} {i : Nat} (hi : i < l.length) : l.getD i 0 ∈ l := by
  rw [List.getD, List.getElem?_eq_getElem hi]
  exact List.getElem_mem hi
/-- What is known of the operations that have come. -/
def Known (wx : World) (ds : List Nat) (n : Nat) (R : Nat → Value → World → Prop) (l : Nat → Bool) (a : Act) (w : World) : Prop := ∀ k, l k = true → k < n → ∃ w0, Later wx w0 ∧ Later w0 w ∧ R k (a.eval (.tmp (ds.getD k 0))) w0
theorem region_reads {P : Program} {ops : Array Oper} {Q : Exit → Act → World → Prop} {id : Nat} {a1 : Act} {wx : World} {n : Nat} (hm : P.follows .mixedOrders = true) (hg : goesBack ops = true) (hn : ops.size = n) (ds : List Nat) (hnd : ds.Nodup) (hlen : ds.length = n) (hsz : ∀ d ∈ ds, d < a1.tmps.size) (R : Nat → Value → World → Prop)
    (hstep : ∀ (l : Nat → Bool) (a : Act) (w : World) (i : Nat) (o : Oper) (K : Act → World → Prop), ops[i]? = some o → i < n → (∀ e ∈ o.after, Region.binds .any e = true → l e.on = true) → SameOut a1 a ds → Later wx w → Known wx ds n R l a w → (∀ v w', Later w w' → R i v w' → K (a.put (some (ds.getD i 0)) v) w') → wpOp P ops Q i K a w)
    (hend : ∀ a w, SameOut a1 a ds → Later wx w → Known wx ds n R (fun _ => true) a w → Q .normal a w) : (Code.region id ops true).wp P Q a1 wx := by
  refine region_inv hm hg (fun l a w => SameOut a1 a ds ∧ Later wx w ∧ Known wx ds n R l a w) ?_ ?_ ?_
  · intro l a w i o ho hl hwait ⟨so, hl0, hf⟩
    have hi : i < n := by rw [← hn]; exact (Array.getElem?_eq_some_iff.1 ho).1
    refine hstep l a w i o _ ho hi hwait so hl0 hf fun v w' hl' hr => ?_
    refine ⟨so.put (getD_mem (by omega)) v, hl0.trans hl', fun k hk hkn => ?_⟩
    by_cases e : k = i
    · subst e
      refine ⟨w', hl0.trans hl', Later.refl w', ?_⟩
      rw [eval_put_same' _ _ _ (by rw [so.size]; exact hsz _ (getD_mem (by omega)))]
      exact hr
    · rw [more_other l e] at hk
      obtain ⟨w0, h1, h2, h3⟩ := hf k hk hkn
      refine ⟨w0, h1, h2.trans hl', ?_⟩
      rw [eval_put_other' _ _ (getD_inj hnd (by omega) (by omega) (fun e' => e e'.symm))]
      exact h3
  · intro l a w hall ⟨so, hl0, hf⟩
    refine hend a w so hl0 fun k _ hkn => hf k (hall k (by rw [hn]; exact hkn)) hkn
  · exact ⟨SameOut.refl _ _, (Later.refl wx).drew, fun k hk => by cases hk⟩

/-- What has come waits for nothing. -/
def Down (ops : Array Oper) (l : Nat → Bool) : Prop := ∀ i o, ops[i]? = some o → l i = true → ∀ e ∈ o.after, Region.binds .any e = true → l e.on = true
theorem Down.add {ops : Array Oper} {l : Nat → Bool} {i : Nat} {o : Oper} (h : Down ops l) (ho : ops[i]? = some o) (hw : ∀ e ∈ o.after, Region.binds .any e = true → l e.on = true) : Down ops (more l i) := by
  have key : ∀ j, l j = true → more l i j = true := fun j hj => by
    by_cases e : j = i
    · subst e; exact more_same l j
    · rw [more_other l e]; exact hj
  intro j o' hj hl e he hb
  by_cases e' : j = i
  · subst e'
    rw [ho] at hj
    cases hj
    exact key _ (hw e he hb)
  · rw [more_other l e'] at hl
    exact key _ (h j o' hj hl e he hb)
theorem OpIs.back {ops : Array Oper} {i : Nat} {op : Op} {dst : Option Tmp} {js : List Nat} (h : OpIs ops i op dst js) {l : Nat → Bool} (hd : Down ops l) (hi : l i = true) : ∀ j ∈ js, l j = true := by
  obtain ⟨o, h1, h2⟩ := h
  exact OpIs.waits ⟨o, h1, h2⟩ h1 (hd i o h1 hi)

/-- What an operation hands on. -/
def putD (hasD : Bool) (a : Act) (k : Tmp) (v : Value) : Act := if hasD = true then a.put (some k) v else a
set_option maxHeartbeats 1600000 in
theorem region_turns {P : Program} {ops : Array Oper} {Q : Exit → Act → World → Prop} {id : Nat} {a1 : Act} {wx : World} {n : Nat} (hm : P.follows .mixedOrders = true) (hg : goesBack ops = true) (hn : ops.size = n) (ds : List Nat) (hnd : ds.Nodup) (hlen : ds.length = n) (os : List Nat) (isT pure hasD : Nat → Bool) (ts : List Nat)
    (hos : ∀ i, i < n → hasD i = true → ds.getD i 0 ∈ os) (hsz : ∀ i, i < n → hasD i = true → ds.getD i 0 < a1.tmps.size) (R : Nat → Value → World → Prop) (X : Nat → List Value → World → World → Prop)
    (hT : ∀ i, isT i = true → i ∈ ts) (hTn : ∀ i ∈ ts, i < n ∧ isT i = true ∧ pure i = false) (hnod : ts.Nodup) (hD : ∀ i, i < n → isT i = false → hasD i = true)
    (hpre : ∀ l, Down ops l → ∀ i ∈ ts, l i = true → ∀ k, k < n → pure k = false → isT k = false → l k = true)
    (hord : ∀ l, Down ops l → ∀ (t : Nat) i i', ts[t]? = some i → ts[t + 1]? = some i' → l i' = true → l i = true)
    (hRT : ∀ i, isT i = true → ∀ v w, R i v w) (hX0 : ∀ vals w1 w, X 0 vals w1 w ↔ w = w1)
    (hstep : ∀ (l : Nat → Bool) (a : Act) (w : World) (i : Nat) (o : Oper) (K : Act → World → Prop), ops[i]? = some o → i < n → pure i = false → isT i = false → (∀ e ∈ o.after, Region.binds .any e = true → l e.on = true) → SameOut a1 a os → Later wx w → Known wx ds n R l a w → (∀ v w', Later w w' → R i v w' → K (a.put (some (ds.getD i 0)) v) w') → wpOp P ops Q i K a w)
    (hpure : ∀ (l : Nat → Bool) (a : Act) (w w1 : World) (i : Nat) (o : Oper) (K : Act → World → Prop), ops[i]? = some o → i < n → pure i = true → (∀ e ∈ o.after, Region.binds .any e = true → l e.on = true) → SameOut a1 a os → Later wx w1 → Known wx ds n R l a w1 → (∀ v, R i v w1 → K (a.put (some (ds.getD i 0)) v) w) → wpOp P ops Q i K a w)
    (hturn : ∀ (l : Nat → Bool) (a : Act) (w1 w : World) (t i : Nat) (o : Oper) (vals : List Value) (K : Act → World → Prop), ts[t]? = some i → ops[i]? = some o → (∀ e ∈ o.after, Region.binds .any e = true → l e.on = true) → SameOut a1 a os → Later wx w1 → Known wx ds n R l a w1 → vals.length = t → (∀ (s k : Nat) v, ts[s]? = some k → vals[s]? = some v → hasD k = true → a.eval (.tmp (ds.getD k 0)) = v) → X t vals w1 w → (∀ v w', X (t + 1) (vals ++ [v]) w1 w' → K (putD (hasD i) a (ds.getD i 0) v) w') → wpOp P ops Q i K a w)
    (hend : ∀ a w1 w vals, SameOut a1 a os → Later wx w1 → Known wx ds n R (fun _ => true) a w1 → vals.length = ts.length → (∀ (s k : Nat) v, ts[s]? = some k → vals[s]? = some v → hasD k = true → a.eval (.tmp (ds.getD k 0)) = v) → X ts.length vals w1 w → Q .normal a w) : (Code.region id ops true).wp P Q a1 wx := by
  refine region_inv hm hg (fun l a w => SameOut a1 a os ∧ Down ops l ∧ ∃ (j : Nat) (w1 : World) (vals : List Value), (∀ (t : Nat) i, ts[t]? = some i → (l i = true ↔ t < j)) ∧ j ≤ ts.length ∧ vals.length = j ∧ (∀ (s k : Nat) v, ts[s]? = some k → vals[s]? = some v → hasD k = true → a.eval (.tmp (ds.getD k 0)) = v) ∧ Later wx w1 ∧ Known wx ds n R l a w1 ∧ X j vals w1 w) ?_ ?_ ?_
  · intro l a w i o ho hl hwait ⟨so, dn, j, w1, vals, hj, hjb, hvl, hvs, hL, hk, hx⟩
    have hi : i < n := by rw [← hn]; exact (Array.getElem?_eq_some_iff.1 ho).1
    have hdn := dn.add ho hwait
    have hother : ∀ k, k < n → k ≠ i → ds.getD k 0 ≠ ds.getD i 0 := fun k hk e => getD_inj hnd (by omega) (by omega) e
    have hkn : ∀ v (w2 w3 : World), Later w1 w2 → Later w1 w3 → Later w2 w3 → R i v w2 → hasD i = true → Known wx ds n R (more l i) (a.put (some (ds.getD i 0)) v) w3 := by
      intro v w2 w3 h12 h13 h23 hr hd q hq hqn
      by_cases e : q = i
      · subst e
        refine ⟨w2, hL.trans h12, h23, ?_⟩
        rw [eval_put_same' _ _ _ (by rw [so.size]; exact hsz q hi hd)]
        exact hr
      · rw [more_other l e] at hq
        obtain ⟨w0, h1, h2, h3⟩ := hk q hq hqn
        refine ⟨w0, h1, h2.trans h13, ?_⟩
        rw [eval_put_other' _ _ (fun e' => hother q hqn e e'.symm)]
        exact h3
    have hvp : ∀ v, isT i = false → ∀ (s k : Nat) u, ts[s]? = some k → vals[s]? = some u → hasD k = true → (a.put (some (ds.getD i 0)) v).eval (.tmp (ds.getD k 0)) = u := fun v hns s k u h1 h2 h3 => by
      have hkt := hTn k (List.mem_of_getElem? h1)
      have hne : k ≠ i := fun e => by rw [← e, hkt.2.1] at hns; cases hns
      rw [eval_put_other' _ _ (fun e => hother k hkt.1 hne e.symm)]
      exact hvs s k u h1 h2 h3
    have hjm : isT i = false → ∀ (t : Nat) k, ts[t]? = some k → (more l i k = true ↔ t < j) := fun hns t k hb => by
      have : k ≠ i := fun e => by rw [← e, (hTn k (List.mem_of_getElem? hb)).2.1] at hns; cases hns
      rw [more_other l this]
      exact hj t k hb
    cases hs : isT i with
    | true =>
      have him := hT i hs
      obtain ⟨t, ht⟩ := List.mem_iff_getElem?.1 him
      have htl := (List.getElem?_eq_some_iff.1 ht).1
      have htj : t = j := by
        have h1 : ¬ t < j := fun h => by rw [(hj t i ht).2 h] at hl; cases hl
        rcases t with _ | t
        · omega
        · have hb' : ts[t]? = some ts[t] := List.getElem?_eq_getElem (by omega)
          have := hord _ hdn t _ i hb' ht (more_same l _)
          rw [more_other l (fun e => by
            have h2 := (List.getElem?_eq_some_iff.1 ht).2
            have h3 := (List.getElem_inj hnod).1 (e.trans h2.symm)
            omega)] at this
          have := (hj t _ hb').1 this
          omega
      subst htj
      refine hturn l a w1 w t i o vals _ ht ho hwait so hL hk hvl hvs hx fun v w' hx' => ?_
      have hso : SameOut a1 (putD (hasD i) a (ds.getD i 0) v) os := by
        unfold putD
        split
        · exact so.put (hos i hi (by assumption)) v
        · exact so
      have hoth : ∀ k, k < n → k ≠ i → (putD (hasD i) a (ds.getD i 0) v).eval (.tmp (ds.getD k 0)) = a.eval (.tmp (ds.getD k 0)) := fun k hkn hne => by
        unfold putD
        split
        · exact eval_put_other' _ _ (fun e => hother k hkn hne e.symm)
        · rfl
      refine ⟨hso, hdn, t + 1, w1, vals ++ [v], fun t' k hk' => ?_, by omega, by simp [hvl], fun s k u h1 h2 h3 => ?_, hL, fun q hq hqn => ?_, hx'⟩
      · by_cases e : k = i
        · subst e
          have h2 := (List.getElem?_eq_some_iff.1 ht).2
          have h4 := (List.getElem?_eq_some_iff.1 hk').2
          have h3 := (List.getElem_inj hnod).1 (h4.trans h2.symm)
          subst h3
          rw [more_same]
          exact ⟨fun _ => Nat.lt_succ_self _, fun _ => rfl⟩
        · rw [more_other l e, hj t' k hk']
          have : t' ≠ t := fun e' => by subst e'; rw [hk'] at ht; cases ht; exact e rfl
          omega
      · have hsl := (List.getElem?_eq_some_iff.1 h2).1
        rw [List.length_append, List.length_singleton, hvl] at hsl
        by_cases e : k = i
        · subst e
          have h4 := (List.getElem?_eq_some_iff.1 h1).2; have h5 := (List.getElem?_eq_some_iff.1 ht).2
          have h6 := (List.getElem_inj hnod).1 (h4.trans h5.symm)
          subst h6
          rw [List.getElem?_append_right (by omega), hvl, Nat.sub_self] at h2
          simp at h2
          subst h2
          unfold putD
          rw [if_pos h3]
          exact eval_put_same' _ _ _ (by rw [so.size]; exact hsz _ hi h3)
        · have hne : s ≠ t := fun e' => by subst e'; rw [h1] at ht; cases ht; exact e rfl
          rw [List.getElem?_append_left (by omega)] at h2
          rw [hoth k (hTn k (List.mem_of_getElem? h1)).1 e]
          exact hvs s k u h1 h2 h3
      · by_cases e : q = i
        · subst e
          exact ⟨w1, hL, Later.refl _, hRT _ hs _ _⟩
        · rw [more_other l e] at hq
          rw [hoth q hqn e]
          exact hk q hq hqn
    | false =>
      have hd := hD i hi hs
      cases hp : pure i with
      | true =>
        refine hpure l a w w1 i o _ ho hi hp hwait so hL hk fun v hr => ?_
        exact ⟨so.put (hos _ hi hd) v, hdn, j, w1, vals, hjm hs, hjb, hvl, hvp v hs, hL, hkn v w1 w1 (Later.refl _) (Later.refl _) (Later.refl _) hr hd, hx⟩
      | false =>
        have h0 : j = 0 := by
          rcases Nat.eq_zero_or_pos j with h | h
          · exact h
          · have hb : ts[0]? = some ts[0] := List.getElem?_eq_getElem (by omega)
            have := hpre l dn _ (List.mem_of_getElem? hb) ((hj 0 _ hb).2 h) i hi hp hs
            rw [hl] at this; cases this
        subst h0
        have hw := (hX0 _ _ _).1 hx
        subst hw
        have hv0 : vals = [] := List.eq_nil_of_length_eq_zero hvl
        subst hv0
        refine hstep l a w i o _ ho hi hp hs hwait so hL hk fun v w' hlw hr => ?_
        exact ⟨so.put (hos _ hi hd) v, hdn, 0, w', [], hjm hs, hjb, rfl, hvp v hs, hL.trans hlw, hkn v w' w' hlw hlw (Later.refl _) hr hd, (hX0 _ _ _).2 rfl⟩
  · intro l a w hall ⟨so, dn, j, w1, vals, hj, hjb, hvl, hvs, hL, hk, hx⟩
    rw [hn] at hall
    have hjl : j = ts.length := by
      rcases Nat.lt_or_ge j ts.length with h | h
      · have hb : ts[j]? = some ts[j] := List.getElem?_eq_getElem h
        have := (hj j _ hb).1 (hall _ (hTn _ (List.mem_of_getElem? hb)).1)
        omega
      · omega
    subst hjl
    exact hend a w1 w vals so hL (fun q _ hqn => hk q (hall q hqn) hqn) hvl hvs hx
  · exact ⟨SameOut.refl _ _, (fun i o _ h => by cases h), 0, { wx with drawn := wx.drawn + 1 }, [], (fun t i _ => ⟨(fun h => by cases h), fun h => by omega⟩), Nat.zero_le _, rfl, (fun s k v _ h => by simp at h), (Later.refl wx).drew, (fun k hk => by cases hk), (hX0 _ _ _).2 rfl⟩

theorem len_two {α : Type} {l : List α} (h : l.length = 2) : ∃ a b, l = [a, b] := by
  match l, h with
  | [a, b], _ => exact ⟨a, b, rfl⟩
theorem len_three {α : Type} {l : List α} (h : l.length = 3) : ∃ a b c, l = [a, b, c] := by
  match l, h with
  | [a, b, c], _ => exact ⟨a, b, c, rfl⟩

section
variable {ops : Array Oper} {Q : Exit → Act → World → Prop} {K : Act → World → Prop} {i : Nat} {dst : Option Tmp} {js : List Nat} {a : Act} {w : World}
theorem OpIs.call1 {f : FuncId} {k : Tmp} {t : TypeId} {v : Value} {Post : Ending → World → Prop} (h : OpIs ops i (.call { callee := .value (.func f), args := #[.tmp k], argTypes := #[t] }) dst js) (hf : ∀ args w, (callFunc f args).run Try.prog w = .ok (.enter f args) w)
    (he : a.eval (.tmp k) = v) (hc : Calls Try.prog f #[v] w Post) (hk : ∀ e w', Post e w' → ∃ u, e = .returned u ∧ K (a.put dst u) w') : wpOp Try.prog ops Q i K a w :=
  h.go fun o h1 h2 => by
    have hr : (execOp a.eval o).run Try.prog w = .ok (.enter f #[v]) w := by
      unfold execOp
      rw [h1]
      simp only [resolve, invoke, Sem.run_bind, List.map_toArray, List.map_cons, List.map_nil, he]
      go_simp
    unfold Oper.wp
    rw [hr]
    show Calls _ _ _ _ _
    refine hc.mono ?_
    intro e w' hp
    obtain ⟨u, rfl, hku⟩ := hk e w' hp
    dsimp only
    rw [h2]
    exact hku
theorem OpIs.call2 {f : FuncId} {k m : Tmp} {t s : TypeId} {v u : Value} {Post : Ending → World → Prop} (h : OpIs ops i (.call { callee := .value (.func f), args := #[.tmp k, .tmp m], argTypes := #[t, s] }) dst js) (hf : ∀ args w, (callFunc f args).run Try.prog w = .ok (.enter f args) w)
    (he : a.eval (.tmp k) = v) (he2 : a.eval (.tmp m) = u) (hc : Calls Try.prog f #[v, u] w Post) (hk : ∀ e w', Post e w' → ∃ r, e = .returned r ∧ K (a.put dst r) w') : wpOp Try.prog ops Q i K a w :=
  h.go fun o h1 h2 => by
    have hr : (execOp a.eval o).run Try.prog w = .ok (.enter f #[v, u]) w := by
      unfold execOp
      rw [h1]
      simp only [resolve, invoke, Sem.run_bind, List.map_toArray, List.map_cons, List.map_nil, he, he2]
      go_simp
    unfold Oper.wp
    rw [hr]
    show Calls _ _ _ _ _
    refine hc.mono ?_
    intro e w' hp
    obtain ⟨r, rfl, hku⟩ := hk e w' hp
    dsimp only
    rw [h2]
    exact hku
theorem OpIs.nilCk {k : Tmp} {b o : Nat} (h : OpIs ops i (.nilCheck (.tmp k)) dst js) (he : a.eval (.tmp k) = .pointer (some ⟨b, o, none⟩)) (hk : K (a.put dst (.pointer (some ⟨b, o, none⟩))) w) : wpOp Try.prog ops Q i K a w :=
  h.go fun op h1 h2 => by
    have hr : (execOp a.eval op).run Try.prog w = .ok (.value (.pointer (some ⟨b, o, none⟩))) w := by
      clear hk
      unfold execOp
      rw [h1]
      dsimp only
      rw [he]
      go_simp
    unfold Oper.wp
    rw [hr]
    show K _ _
    rw [h2]
    exact hk
end

end Go.Proofs.Ytaonfedjilfgjaa

/-
  Steps of a walk: an array out of a row, into a row; bytes copied into a row; a write built.
-/
namespace Go.Proofs.Ytaonfedjilfgjaa
open Go.RowKit

section
variable {P : Program} {ops : Array Oper} {rest : List Oper} {o : Oper} {a : Act} {w : World}
/-- copy, wherever it goes. -/
theorem wpList_copy_mid {Q : Exit → Act → World → Prop} (hgd : o.guard = none) (d s : Operand) (dT sT : TypeId)
    (ho : o.op = .call { callee := .builtin .copy, args := #[d, s], argTypes := #[dT, sT] }) (elem : TypeId) (hu : P.underlying dT = some (.slice elem)) (hsz : (P.info? elem).map (·.size) = some 1)
    (dp sp : Option Addr) (dLen dCap sLen sCap : Nat) (hd : a.eval d = .slice dp dLen dCap) (hs : a.eval s = .slice sp sLen sCap)
    (b k : Nat) (cs : List Value) (hn : cs.length = Nat.min sLen dLen) (hpos : 0 < cs.length → dp = some ⟨b, k, none⟩ ∧ ∃ ad, sp = some ad ∧ ∀ j v, cs[j]? = some v → w.cell? (ad.add j) = some v)
    (hth : w.there b k cs.length) (h1 : ∀ v ∈ cs, v.oneCell' = true)
    (h : ∀ w', w' = w.setCells b k cs → wpList P ops Q rest (a.put o.dst (goInt cs.length)) w') : wpList P ops Q (o :: rest) a w := by
  refine wpList_plain hgd fun K hK => ?_
  have hrun : (Builtin.copy_ #[dT, sT] o.type #[.slice dp dLen dCap, .slice sp sLen sCap]).run P w = .ok (goInt cs.length) (w.setCells b k cs) := by
    by_cases h0 : cs.length = 0
    · obtain rfl : cs = [] := List.eq_nil_of_length_eq_zero h0
      have := run_copy_none (P := P) w dT sT o.type elem dp sp dLen dCap sLen sCap hu hsz (by simpa using hn.symm)
      exact this
    · obtain ⟨rfl, ad, rfl, hsrc⟩ := hpos (by omega)
      exact run_copy_cells (P := P) w dT sT o.type elem b k dLen dCap ad sLen sCap cs hu hsz hn hsrc (fun j hj => (hth j hj).1) (fun j hj => (hth j hj).2) h1
  unfold Oper.wp
  simp [execOp, ho, resolve, invoke, builtin, hd, hs, hrun, Result.andThen]
  exact hK _ _ (h _ rfl)
/-- An array out of a row, where nothing is written ahead of it. -/
theorem wpStill_load_mid {Q : Act → Prop} (hgd : o.guard = none) (ty : TypeId) (x : Operand) (ho : o.op = .load ty x)
    (b k : Nat) (hx : a.eval x = .pointer (some ⟨b, k, none⟩)) (cs : List Value) (d : TypeDesc) (hc : w.rangeAt b k cs)
    (hu : P.underlying ty = some d) (hd : d.isRow = true) (hi : (P.info? ty).map (·.size) = some cs.length)
    (h : wpStill P ops w Q rest (a.put o.dst (.agg cs.toArray))) : wpStill P ops w Q (o :: rest) a := by
  refine wpStill_step fun K hK => ?_
  have hw : Region.wanted o (yielded ops a.tmps) = true := by simp [Region.wanted, hgd]
  rw [if_pos hw]
  unfold Oper.still execOp
  simp only [ho, hx, Instr.loadAt, Instr.sureAddr, Sem.run_bind, Sem.run_pure, Result.andThen_ok, run_loadVar_mid w b k ty cs d hc hu hd hi]
  exact ⟨rfl, hK _ h⟩
theorem wpList_build_of {Q : Exit → Act → World → Prop} (hgd : o.guard = none) (t : TypeId) (parts : Array (Nat × Operand)) (ho : o.op = .build t parts) (vs : List (Nat × Value)) (cells : Array Value) (he : (parts.map fun (i, x) => (i, a.eval x)).toList = vs) (hb : P.built t vs = some cells)
    (h : wpList P ops Q rest (a.put o.dst (.agg cells)) w) : wpList P ops Q (o :: rest) a w :=
  wpList_plain hgd fun K hK => wp_build t parts ho (by rw [he, hb]; rfl) (by rw [he, hb]; exact hK _ _ h)
/-- An array into a row. -/
theorem wpList_store_mids {Q : Exit → Act → World → Prop} (hgd : o.guard = none) (hds : o.dst = none) (ty : TypeId) (x y : Operand) (ho : o.op = .store ty x y)
    (b k : Nat) (cs : List Value) (hx : a.eval x = .pointer (some ⟨b, k, none⟩)) (hy : a.eval y = .agg cs.toArray)
    (ht : w.there b k cs.length) (hi : (P.info? ty).map (·.size) = some cs.length) (h1 : ∀ v ∈ cs, v.oneCell' = true)
    (h : ∀ w', w' = w.setCells b k cs → wpList P ops Q rest a w') : wpList P ops Q (o :: rest) a w := by
  refine wpList_store_mid hgd ty x y ho b k cs.toArray hx hy (by simpa using ht) (by simpa using hi) (all_oneCell_toArray h1) ?_
  rw [hds]
  exact h _ rfl
/-- A variable of its own, laid anew. -/
theorem wp_alloc_new {K : Act → World → Prop} {Q : Exit → Act → World → Prop} (T : TypeId) (ho : o.op = .alloc T) (z : Value) (hz : (P.info? T).map (·.zero) = some (some z))
    (h : ∀ w', CellsAt w' w.heap.size z.cells T → Later w w' → w'.heap.size = w.heap.size + 1 → K (a.put o.dst (.pointer (some ⟨w.heap.size, 0, none⟩))) w') : o.wp P a w K Q := by
  have h0 : (zeroValue T).run P w = .ok z w := by
    cases hq : P.info? T with
    | none => simp [hq] at hz
    | some i =>
      simp [hq] at hz
      simp [zeroValue, typeInfo, hq, hz]
  have hrun : (execOp a.eval o).run P w = .ok (.value (.pointer (some ⟨w.heap.size, 0, none⟩))) (w.alloc (.cells z.cells T)) := by
    unfold execOp
    simp only [ho, Instr.alloc, Sem.run_bind, h0, Result.andThen_ok]
    rfl
  unfold Oper.wp
  rw [hrun]
  exact h _ (CellsAt.made w _ _) ((Later.refl w).alloc _) (World.size_alloc _ _)
theorem wpList_alloc_new {Q : Exit → Act → World → Prop} (hgd : o.guard = none) (T : TypeId) (ho : o.op = .alloc T) (z : Value) (hz : (P.info? T).map (·.zero) = some (some z))
    (h : ∀ w', CellsAt w' w.heap.size z.cells T → Later w w' → w'.heap.size = w.heap.size + 1 → wpList P ops Q rest (a.put o.dst (.pointer (some ⟨w.heap.size, 0, none⟩))) w') : wpList P ops Q (o :: rest) a w :=
  wpList_plain hgd fun _ hK => wp_alloc_new T ho z hz fun w' h1 h2 h3 => hK _ _ (h w' h1 h2 h3)
end

/-! ### append, in a region that draws its order -/
theorem run_append_one {P : Program} {w0 w : World} {e : TypeId} {k : Nat} {v : Value} {olds : List (List Value)} {cs : List Value} {gx c : Nat} (t ty : TypeId) (i : TypeInfo) (z : Value) (bytes : Nat) (ht : P.underlying t = some (.slice e)) (hi : P.info? e = some i) (hz : i.zero = some z) (hsize : i.size = k) (hby : i.bytes = bytes) (hzs : z.cells.size = k) (hk : 0 < k)
    (hown : OwnK e k w0 w v olds) (hx : w.rangeAt gx 0 cs) (hcs : cs.length = k) (hone : ∀ u ∈ cs, u.oneCell' = true) (hb : olds.length + 1 ≤ 1000000) (hbb : bytes ≤ 1000) :
    ∃ v' w', (Builtin.append_ #[t, t] ty #[v, .slice (some ⟨gx, 0, none⟩) 1 c]).run P w = .ok v' w' ∧ OwnK e k w0 w' v' (olds ++ [cs]) ∧ w.grownBy w' v.ownBlock ∧ (v'.ownBlock = v.ownBlock ∨ v'.ownBlock = some w.heap.size) := by
  have hbig : (olds.length + 1) * bytes ≤ 140737488355328 := Nat.le_trans (Nat.mul_le_mul hb hbb) (by omega)
  obtain ⟨v', w', hrun, h2, h3, _, h5⟩ := run_append_own_at (P := P) w w0.heap.size t ty e i z k bytes ht hi hz hsize hby hzs hk v olds.length olds.flatten hown.1 ⟨gx, 0, none⟩ 1 c cs
    (by rw [hcs, Nat.one_mul]) (fun j u hu => by rw [plain_add]; exact hx j u hu) hone (by simp only [maxLen]; omega) hbig hown.2.2.size
  refine ⟨v', w', hrun, ⟨?_, fun x hx => ?_, Below.grown hown.2.2 h3 hown.2.2.size hown.block⟩, h3, h5⟩
  · rw [List.length_append, List.flatten_append]
    simpa using h2
  · rcases List.mem_append.1 hx with h | h
    · exact hown.2.1 x h
    · simp only [List.mem_singleton] at h
      subst h
      exact hcs
theorem step_append_one {P : Program} {ops : Array Oper} {o : Oper} {a : Act} {w w0 : World} {K : Act → World → Prop} {Q : Exit → Act → World → Prop} {E : Prop} (hgd : o.guard = none) (s x : Operand) (t : TypeId)
    (ho : o.op = Op.call { callee := Callee.builtin Builtin.append, args := #[s, x], argTypes := #[t, t] }) {e : TypeId} {k : Nat} {v : Value} {olds : List (List Value)} {cs : List Value} {gx c : Nat} (i : TypeInfo) (z : Value) (bytes : Nat) (ht : P.underlying t = some (.slice e)) (hi : P.info? e = some i) (hz : i.zero = some z) (hsize : i.size = k) (hby : i.bytes = bytes) (hzs : z.cells.size = k) (hk : 0 < k)
    (hs : a.eval s = v) (hx : a.eval x = .slice (some ⟨gx, 0, none⟩) 1 c) (hown : OwnK e k w0 w v olds) (hr : w.rangeAt gx 0 cs) (hcs : cs.length = k) (hone : ∀ u ∈ cs, u.oneCell' = true) (hb : olds.length + 1 ≤ 1000000) (hbb : bytes ≤ 1000)
    (hK : ∀ v' w', OwnK e k w0 w' v' (olds ++ [cs]) → w.grownBy w' v.ownBlock → (v'.ownBlock = v.ownBlock ∨ v'.ownBlock = some w.heap.size) → K (a.put o.dst v') w') :
    if Region.wanted o (yielded ops a.tmps) = true then Oper.wp P o a w K Q else E := by
  have hw : Region.wanted o (yielded ops a.tmps) = true := by simp [Region.wanted, hgd]
  rw [if_pos hw]
  obtain ⟨v', w', hrun, h2, h3, h4⟩ := run_append_one (P := P) (c := c) t o.type i z bytes ht hi hz hsize hby hzs hk hown hr hcs hone hb hbb
  unfold Oper.wp
  simp [execOp, ho, resolve, invoke, builtin, hs, hx, hrun, Result.andThen]
  exact hK _ _ h2 h3 h4

/-! ### A write, built -/
theorem Try.cellSize : (Try.prog.info? 101).map (·.size) = some 64 := by kernel_rfl
theorem Try.writeSize : (Try.prog.info? 103).map (·.size) = some 129 := by kernel_rfl
theorem Try.byteSize : (Try.prog.info? 5).map (·.size) = some 1 := by kernel_rfl
theorem Try.writeZero : (Try.prog.info? 103).map (·.zero) = some (some (.agg (wrL ⟨0, zeros 64, zeros 64⟩).toArray)) := by kernel_rfl
theorem Try.writePlaces : (match Try.prog.underlying 103 with | some (.struct fields) => fields.toList.mapM (fun f => (Try.prog.info? f.type).map fun i => (f.offset, i.size)) | _ => none) = some [(0, 1), (1, 64), (65, 64)] := by kernel_rfl
theorem fold_run (off : Nat) : ∀ (vs : List Value) (k : Nat) (cells : Array Value), (vs.zipIdx k).foldl (fun cs p => cs.setIfInBounds (off + p.2) p.1) cells = setRun cells (off + k) vs
  | [], _, _ => rfl
  | v :: r, k, cells => by
    rw [List.zipIdx_cons, List.foldl_cons, fold_run off r (k + 1), setRun, Nat.add_assoc]
theorem fold_run_arr (off : Nat) (vs : List Value) (cells : Array Value) : vs.toArray.zipIdx.foldl (fun cs (c, j) => cs.setIfInBounds (off + j) c) cells = setRun cells off vs := by
  have := fold_run off vs 0 cells
  rw [Nat.add_zero] at this
  rw [← this]
  simp
theorem fill_step {place : Nat → Option (Nat × Nat)} {cells : Array Value} {i off size : Nat} {v : Value} {vs : List Value} {rest : List (Nat × Value)} (hp : place i = some (off, size)) (hv : v.cells = vs.toArray) (h1 : vs.length = size) (h2 : off + size ≤ cells.size) :
    Instr.fill place cells ((i, v) :: rest) = Instr.fill place (setRun cells off vs) rest := by
  rw [Instr.fill, hp]
  dsimp only
  split
  · rename_i h
    exfalso
    rw [hv] at h
    simp at h
    omega
  · rw [hv, fold_run_arr]
theorem ext_run {A : Array Value} {l : List Value} (h : ∀ i : Nat, A[i]? = l[i]?) : A = l.toArray := by
  apply Array.ext_getElem?
  intro i
  rw [h i]
  simp
theorem arr_get (x : WrP) (i : Nat) : (wrL x).toArray[i]? = (wrL x)[i]? := by simp
theorem bc_one (b : Bs) : ∀ v ∈ Lib.byteCells b, v.oneCell' = true := fun v hv => by
  obtain ⟨x, _, rfl⟩ := List.mem_map.1 hv
  rfl
theorem wrL_one (x : WrP) : ∀ v ∈ wrL x, v.oneCell' = true := fun v hv => by
  rcases List.mem_cons.1 hv with rfl | hv
  · rfl
  · rcases List.mem_append.1 hv with hv | hv
    · exact bc_one _ v hv
    · exact bc_one _ v hv
theorem zeros_drop (n m : Nat) : (zeros n).drop m = zeros (n - m) := by simp [zeros]
theorem Try.writeInfo : (Try.prog.info? 103).map (fun i => (i.zero, i.size, i.bytes)) = some (some (.agg (wrL ⟨0, zeros 64, zeros 64⟩).toArray), 129, 136) := by kernel_rfl
theorem wrL_get0 (x : WrP) : (wrL x)[0]? = some (.int .i64 (x.pl : Nat)) := rfl
theorem wrL_was {x : WrP} (h : x.was.length = 64) {j : Nat} (hj : j < 64) : (wrL x)[1 + j]? = (Lib.byteCells x.was)[j]? := by
  rw [Nat.add_comm, wrL, List.getElem?_cons_succ, List.getElem?_append_left (by rw [bc_len]; omega)]
theorem wrL_is {x : WrP} (h : x.was.length = 64) (j : Nat) : (wrL x)[65 + j]? = (Lib.byteCells x.is)[j]? := by
  rw [show 65 + j = (64 + j) + 1 by omega, wrL, List.getElem?_cons_succ, List.getElem?_append_right (by rw [bc_len]; omega), bc_len, h]
  congr 1
  omega
/-- Cells of a write that are set. -/
theorem set_was {k : Nat} {a b c : Bs} (ha : a.length = 64) (hb : b.length = 64) (hc : c.length = 64) : setRun (wrL ⟨k, a, c⟩).toArray 1 (Lib.byteCells b) = (wrL ⟨k, b, c⟩).toArray := by
  have h1 := wrL_len (x := ⟨k, a, c⟩) ⟨ha, hc⟩
  have h2 := wrL_len (x := ⟨k, b, c⟩) ⟨hb, hc⟩
  have hbl := bc_len b
  apply ext_run
  intro i
  by_cases h0 : i = 0
  · subst h0
    rw [setRun_out _ _ _ _ (.inl (by decide)), arr_get]
    rfl
  · by_cases h : i < 65
    · obtain ⟨j, rfl⟩ : ∃ j, i = 1 + j := ⟨i - 1, by omega⟩
      have hv : (Lib.byteCells b)[j]? = some ((Lib.byteCells b)[j]'(by omega)) := List.getElem?_eq_getElem _
      rw [setRun_in _ _ 1 j _ hv (by simp only [List.size_toArray]; omega), wrL_was hb (by omega), hv]
    · obtain ⟨j, rfl⟩ : ∃ j, i = 65 + j := ⟨i - 65, by omega⟩
      rw [setRun_out _ _ _ _ (.inr (by omega)), arr_get, wrL_is ha, wrL_is hb]
theorem set_is {k : Nat} {a b c : Bs} (ha : a.length = 64) (hb : b.length ≤ 64) (hc : c.length = 64) : setRun (wrL ⟨k, a, c⟩).toArray 65 (Lib.byteCells b) = (wrL ⟨k, a, b ++ c.drop b.length⟩).toArray := by
  have h1 := wrL_len (x := ⟨k, a, c⟩) ⟨ha, hc⟩
  have hbl := bc_len b
  apply ext_run
  intro i
  by_cases h0 : i = 0
  · subst h0
    rw [setRun_out _ _ _ _ (.inl (by decide)), arr_get]
    rfl
  · by_cases h : i < 65
    · obtain ⟨j, rfl⟩ : ∃ j, i = 1 + j := ⟨i - 1, by omega⟩
      rw [setRun_out _ _ _ _ (.inl (by omega)), arr_get, wrL_was ha (by omega), wrL_was ha (by omega)]
    · obtain ⟨j, rfl⟩ : ∃ j, i = 65 + j := ⟨i - 65, by omega⟩
      rw [wrL_is ha]
      have e : Lib.byteCells (b ++ c.drop b.length) = Lib.byteCells b ++ (Lib.byteCells c).drop b.length := by simp [Lib.byteCells]
      rw [e]
      by_cases hj : j < b.length
      · have hv : (Lib.byteCells b)[j]? = some ((Lib.byteCells b)[j]'(by omega)) := List.getElem?_eq_getElem _
        rw [setRun_in _ _ 65 j _ hv (by simp only [List.size_toArray]; omega), List.getElem?_append_left (by omega), hv]
      · rw [setRun_out _ _ _ _ (.inr (by omega)), arr_get, wrL_is ha, List.getElem?_append_right (by omega), List.getElem?_drop]
        congr 1
        omega
/-- All cells that are set. -/
theorem set_all {vs : List Value} {cur : Array Value} (h : vs.length = cur.size) : setRun cur 0 vs = vs.toArray := by
  apply ext_run
  intro i
  by_cases hi : i < vs.length
  · have hv : vs[i]? = some vs[i] := List.getElem?_eq_getElem hi
    have := setRun_in vs cur 0 i _ hv (by omega)
    rw [Nat.zero_add] at this
    rw [this, hv]
  · rw [Array.getElem?_eq_none (by rw [setRun_size]; omega), List.getElem?_eq_none (by omega)]
theorem head_run (m k : Nat) (a c : Bs) : setRun (wrL ⟨m, a, c⟩).toArray 0 [.int .i64 (k : Nat)] = (wrL ⟨k, a, c⟩).toArray := by
  unfold setRun setRun wrL
  simp
theorem built_write (k : Nat) (b : Bs) (hb : b.length = 64) : Try.prog.built 103 [(0, .int .i64 (k : Nat)), (1, .agg (Lib.byteCells b).toArray)] = some (wrL ⟨k, b, zeros 64⟩).toArray := by
  have hp := Try.writePlaces
  have hz := Try.writeZero
  have hbl := bc_len b
  unfold Program.built
  cases hi : Try.prog.info? 103 with
  | none => rw [hi] at hz; cases hz
  | some it =>
    rw [hi] at hz
    simp only [Option.map_some, Option.some.injEq] at hz
    cases hu : Try.prog.underlying 103 with
    | none => rw [hu] at hp; cases hp
    | some dd =>
      rw [hu] at hp
      cases dd with
      | struct fields =>
        dsimp only at hp ⊢
        rw [hz, hp]
        have h129 := wrL_len (x := ⟨0, zeros 64, zeros 64⟩) ⟨zeros_length 64, zeros_length 64⟩
        dsimp only [Value.cells]
        rw [fill_step (off := 0) (size := 1) (vs := [.int .i64 (k : Nat)]) (by rfl) rfl rfl (by simp [h129]), fill_step (off := 1) (size := 64) (vs := Lib.byteCells b) (by rfl) rfl (by omega) (by rw [setRun_size]; simp [h129]), Instr.fill]
        rw [head_run, set_was (zeros_length 64) hb (zeros_length 64)]
      | _ => cases hp

end Go.Proofs.Ytaonfedjilfgjaa
