import Derived.Test.YtnhhdjcbifmfgaaPk8
import Derived.Test.YtnhhdjcbifmfgaaPk1
import Derived.Test.YtnhhdjcbifmfgaaPk4
import Derived.Test.YtnhhdjcbifmfgaaChecked
import Derived.Deep.LoopGhost
import Derived.Deep.QuietTactic
import Derived.BigQuiet
import Derived.Lib.Hide
import Derived.Test.YtnhhdjcbifmfgaaPk5
import Derived.Test.YtnhhdjcbifmfgaaPk3
import Derived.Deep.RegionHeld3

/-
  A region that draws its order, whatever the program: its operations, one by one; the frame behind them; reads and calls in any order; and, at its end, one behind the other, operations that write.
-/
namespace Go.Proofs.Ytnhhdjcbifmfgaa
open Go.RowKit

/-- It waits for these. -/
def needs (o : Oper) (js : List Nat) : Bool := js.all fun j => o.after.any fun e => decide (e.on = j) && Region.binds .any e
/-- Operation i of the region. -/
def OpIs (ops : Array Oper) (i : Nat) (op : Op) (dst : Option Tmp) (js : List Nat) : Prop := ∃ o, ops[i]? = some o ∧ o.op = op ∧ o.dst = dst ∧ o.guard = none ∧ needs o js = true
theorem OpIs.waits {ops : Array Oper} {i : Nat} {op : Op} {dst : Option Tmp} {js : List Nat} (h : OpIs ops i op dst js) {o : Oper} (ho : ops[i]? = some o) {l : Nat → Bool} (hl : ∀ e ∈ o.after, Region.binds .any e = true → l e.on = true) : ∀ j ∈ js, l j = true := by
  obtain ⟨o', h1, -, -, -, h5⟩ := h
  rw [ho] at h1
  cases h1
  intro j hj
  have := List.all_eq_true.1 h5 j hj
  simp only [Array.any_eq_true, Bool.and_eq_true, decide_eq_true_eq] at this
  obtain ⟨k, hk, e1, e2⟩ := this
  rw [← e1]
  exact hl _ (Array.getElem_mem hk) e2

section
variable {P : Program} {ops : Array Oper} {Q : Exit → Act → World → Prop} {K : Act → World → Prop} {i : Nat} {dst : Option Tmp} {js : List Nat} {a : Act} {w : World}
theorem OpIs.go {op : Op} (h : OpIs ops i op dst js) (hk : ∀ o : Oper, o.op = op → o.dst = dst → o.wp P a w K Q) : wpOp P ops Q i K a w := by
  obtain ⟨o, h1, h2, h3, h4, -⟩ := h
  unfold wpOp
  rw [h1]
  dsimp only
  rw [if_pos (by simp [Region.wanted, h4])]
  exact .inl (hk o h2 h3)
theorem OpIs.move {k : Tmp} (h : OpIs ops i (.move (.tmp k)) dst js) (hk : K (a.put dst (a.eval (.tmp k))) w) : wpOp P ops Q i K a w :=
  h.go fun o h1 h2 => by
    unfold Oper.wp execOp
    rw [h1]
    simp only [Sem.run_pure]
    show K _ _
    rw [h2]
    exact hk
theorem OpIs.assign {k : Tmp} (h : OpIs ops i (.assign (.tmp k)) dst js) (hk : K (a.put dst (a.eval (.tmp k))) w) : wpOp P ops Q i K a w :=
  h.go fun o h1 h2 => by
    unfold Oper.wp execOp
    rw [h1]
    simp only [Sem.run_pure]
    show K _ _
    rw [h2]
    exact hk
theorem OpIs.extract {k : Tmp} {n : Nat} {vs : Array Value} {v : Value} (h : OpIs ops i (.extract (.tmp k) n) dst js) (he : a.eval (.tmp k) = .tuple vs) (hv : vs[n]? = some v) (hk : K (a.put dst v) w) : wpOp P ops Q i K a w :=
  h.go fun o h1 h2 => by
    unfold Oper.wp execOp
    rw [h1]
    simp only [he, Instr.extract, hv, Sem.run_bind, Sem.run_pure, Result.andThen_ok]
    show K _ _
    rw [h2]
    exact hk
end

theorem eval_put_same' (a : Act) (k : Tmp) (v : Value) (h : k < a.tmps.size) : (a.put (some k) v).eval (.tmp k) = v := by
  simp [Act.put, Act.eval, h]
theorem eval_put_other' (a : Act) {j k : Tmp} (v : Value) (h : j ≠ k) : (a.put (some j) v).eval (.tmp k) = a.eval (.tmp k) := by
  simp [Act.put, Act.eval, h]

/-- The frame is as it was but for these slots. -/
structure SameOut (a1 a : Act) (ds : List Nat) : Prop where
  defers : a.defers = a1.defers
  size : a.tmps.size = a1.tmps.size
  out : ∀ k, k ∉ ds → a.tmps[k]? = a1.tmps[k]?
theorem SameOut.refl (a : Act) (ds : List Nat) : SameOut a a ds := ⟨rfl, rfl, fun _ _ => rfl⟩
theorem SameOut.put {a1 a : Act} {ds : List Nat} (h : SameOut a1 a ds) {k : Nat} (hk : k ∈ ds) (v : Value) : SameOut a1 (a.put (some k) v) ds :=
  ⟨by simp [Act.put, h.defers], by simp [Act.put, h.size], fun j hj => by
    have hne : k ≠ j := fun e => hj (e ▸ hk)
    simp only [Act.put]
    rw [Array.getElem?_setIfInBounds_ne hne]
    exact h.out j hj⟩
theorem SameOut.is {a1 a : Act} {ds : List Nat} (h : SameOut a1 a ds) : a = ds.foldl (fun b k => b.put (some k) (a.eval (.tmp k))) a1 := by
  obtain ⟨h1, h2, h3⟩ := h
  induction ds generalizing a1 with
  | nil =>
    cases a; cases a1
    simp only [List.foldl_nil] at *
    subst h1
    congr 1
    exact Array.ext h2 fun i hi hj => by
      have := h3 i (by simp)
      rw [Array.getElem?_eq_getElem hi, Array.getElem?_eq_getElem hj] at this
      exact Option.some.inj this
  | cons k ds ih =>
    rw [List.foldl_cons]
    refine ih (by simp [Act.put, h1]) (by simp [Act.put, h2]) fun j hj => ?_
    by_cases e : k = j
    · subst e
      simp only [Act.put, Act.eval]
      by_cases hs : k < a1.tmps.size
      · rw [Array.getElem?_setIfInBounds_self_of_lt hs, Array.getElem?_eq_getElem (by omega)]
        simp [Array.getD, h2, hs]
      · rw [Array.getElem?_eq_none (by omega), Array.getElem?_eq_none (by simp; omega)]
    · simp only [Act.put]
      rw [Array.getElem?_setIfInBounds_ne e]
      exact h3 j (by simp [hj, Ne.symm e])

theorem getD_inj {l : List Nat} (h : l.Nodup) {i j : Nat} (hi : i < l.length) (hj : j < l.length) (hne : i ≠ j) : l.getD i 0 ≠ l.getD j 0 := by
  rw [List.getD, List.getD, List.getElem?_eq_getElem hi, List.getElem?_eq_getElem hj]
  intro e
  exact hne ((List.getElem_inj h).1 e)
theorem getD_mem {l : List Nat} {i : Nat} (hi : i < l.length) : l.getD i 0 ∈ l := by
  rw [List.getD, List.getElem?_eq_getElem hi]
  exact List.getElem_mem hi
/-- What is known of the operations that have come. -/
def Known (wx : World) (ds : List Nat) (n : Nat) (R : Nat → Value → World → Prop) (l : Nat → Bool) (a : Act) (w : World) : Prop := ∀ k, l k = true → k < n → ∃ w0, Later wx w0 ∧ Later w0 w ∧ R k (a.eval (.tmp (ds.getD k 0))) w0
theorem region_reads {P : Program} {ops : Array Oper} {Q : Exit → Act → World → Prop} {id : Nat} {a1 : Act} {wx : World} {n : Nat} (hm : P.follows .mixedOrders = true) (hg : goesBack ops = true) (hn : ops.size = n) (ds : List Nat) (hnd : ds.Nodup) (hlen : ds.length = n) (hsz : ∀ d ∈ ds, d < a1.tmps.size) (R : Nat → Value → World → Prop)
    (hstep : ∀ (l : Nat → Bool) (a : Act) (w : World) (i : Nat) (o : Oper) (K : Act → World → Prop), ops[i]? = some o → i < n → (∀ e ∈ o.after, Region.binds .any e = true → l e.on = true) → SameOut a1 a ds → Later wx w → Known wx ds n R l a w → (∀ v w', Later w w' → R i v w' → K (a.put (some (ds.getD i 0)) v) w') → wpOp P ops Q i K a w)
    (hend : ∀ a w, SameOut a1 a ds → Later wx w → Known wx ds n R (fun _ => true) a w → Q .normal a w) : (Code.region id ops true).wp P Q a1 wx := by
  refine region_inv hm hg (fun l a w => SameOut a1 a ds ∧ Later wx w ∧ Known wx ds n R l a w) ?_ ?_ ?_
  · intro l a w i o ho hl hwait ⟨so, hl0, hf⟩
    have hi : i < n := by rw [← hn]; exact (Array.getElem?_eq_some_iff.1 ho).1
    refine hstep l a w i o _ ho hi hwait so hl0 hf fun v w' hl' hr => ?_
    refine ⟨so.put (getD_mem (by omega)) v, hl0.trans hl', fun k hk hkn => ?_⟩
    by_cases e : k = i
    · subst e
      refine ⟨w', hl0.trans hl', Later.refl w', ?_⟩
      rw [eval_put_same' _ _ _ (by rw [so.size]; exact hsz _ (getD_mem (by omega)))]
      exact hr
    · rw [more_other l e] at hk
      obtain ⟨w0, h1, h2, h3⟩ := hf k hk hkn
      refine ⟨w0, h1, h2.trans hl', ?_⟩
      rw [eval_put_other' _ _ (getD_inj hnd (by omega) (by omega) (fun e' => e e'.symm))]
      exact h3
  · intro l a w hall ⟨so, hl0, hf⟩
    refine hend a w so hl0 fun k _ hkn => hf k (hall k (by rw [hn]; exact hkn)) hkn
  · exact ⟨SameOut.refl _ _, (Later.refl wx).drew, fun k hk => by cases hk⟩

/-- What has come waits for nothing. -/
def Down (ops : Array Oper) (l : Nat → Bool) : Prop := ∀ i o, ops[i]? = some o → l i = true → ∀ e ∈ o.after, Region.binds .any e = true → l e.on = true
theorem Down.add {ops : Array Oper} {l : Nat → Bool} {i : Nat} {o : Oper} (h : Down ops l) (ho : ops[i]? = some o) (hw : ∀ e ∈ o.after, Region.binds .any e = true → l e.on = true) : Down ops (more l i) := by
  have key : ∀ j, l j = true → more l i j = true := fun j hj => by
    by_cases e : j = i
    · subst e; exact more_same l j
    · rw [more_other l e]; exact hj
  intro j o' hj hl e he hb
  by_cases e' : j = i
  · subst e'
    rw [ho] at hj
    cases hj
    exact key _ (hw e he hb)
  · rw [more_other l e'] at hl
    exact key _ (h j o' hj hl e he hb)
theorem OpIs.back {ops : Array Oper} {i : Nat} {op : Op} {dst : Option Tmp} {js : List Nat} (h : OpIs ops i op dst js) {l : Nat → Bool} (hd : Down ops l) (hi : l i = true) : ∀ j ∈ js, l j = true := by
  obtain ⟨o, h1, h2⟩ := h
  exact OpIs.waits ⟨o, h1, h2⟩ h1 (hd i o h1 hi)

/-- What an operation hands on. -/
def putD (hasD : Bool) (a : Act) (k : Tmp) (v : Value) : Act := if hasD = true then a.put (some k) v else a
set_option maxHeartbeats 1600000 in
theorem region_turns {P : Program} {ops : Array Oper} {Q : Exit → Act → World → Prop} {id : Nat} {a1 : Act} {wx : World} {n : Nat} (hm : P.follows .mixedOrders = true) (hg : goesBack ops = true) (hn : ops.size = n) (ds : List Nat) (hnd : ds.Nodup) (hlen : ds.length = n) (os : List Nat) (isT pure hasD : Nat → Bool) (ts : List Nat)
    (hos : ∀ i, i < n → hasD i = true → ds.getD i 0 ∈ os) (hsz : ∀ i, i < n → hasD i = true → ds.getD i 0 < a1.tmps.size) (R : Nat → Value → World → Prop) (X : Nat → List Value → World → World → Prop)
    (hT : ∀ i, isT i = true → i ∈ ts) (hTn : ∀ i ∈ ts, i < n ∧ isT i = true ∧ pure i = false) (hnod : ts.Nodup) (hD : ∀ i, i < n → isT i = false → hasD i = true)
    (hpre : ∀ l, Down ops l → ∀ i ∈ ts, l i = true → ∀ k, k < n → pure k = false → isT k = false → l k = true)
    (hord : ∀ l, Down ops l → ∀ (t : Nat) i i', ts[t]? = some i → ts[t + 1]? = some i' → l i' = true → l i = true)
    (hRT : ∀ i, isT i = true → ∀ v w, R i v w) (hX0 : ∀ vals w1 w, X 0 vals w1 w ↔ w = w1)
    (hstep : ∀ (l : Nat → Bool) (a : Act) (w : World) (i : Nat) (o : Oper) (K : Act → World → Prop), ops[i]? = some o → i < n → pure i = false → isT i = false → (∀ e ∈ o.after, Region.binds .any e = true → l e.on = true) → SameOut a1 a os → Later wx w → Known wx ds n R l a w → (∀ v w', Later w w' → R i v w' → K (a.put (some (ds.getD i 0)) v) w') → wpOp P ops Q i K a w)
    (hpure : ∀ (l : Nat → Bool) (a : Act) (w w1 : World) (i : Nat) (o : Oper) (K : Act → World → Prop), ops[i]? = some o → i < n → pure i = true → (∀ e ∈ o.after, Region.binds .any e = true → l e.on = true) → SameOut a1 a os → Later wx w1 → Known wx ds n R l a w1 → (∀ v, R i v w1 → K (a.put (some (ds.getD i 0)) v) w) → wpOp P ops Q i K a w)
    (hturn : ∀ (l : Nat → Bool) (a : Act) (w1 w : World) (t i : Nat) (o : Oper) (vals : List Value) (K : Act → World → Prop), ts[t]? = some i → ops[i]? = some o → (∀ e ∈ o.after, Region.binds .any e = true → l e.on = true) → SameOut a1 a os → Later wx w1 → Known wx ds n R l a w1 → vals.length = t → (∀ (s k : Nat) v, ts[s]? = some k → vals[s]? = some v → hasD k = true → a.eval (.tmp (ds.getD k 0)) = v) → X t vals w1 w → (∀ v w', X (t + 1) (vals ++ [v]) w1 w' → K (putD (hasD i) a (ds.getD i 0) v) w') → wpOp P ops Q i K a w)
    (hend : ∀ a w1 w vals, SameOut a1 a os → Later wx w1 → Known wx ds n R (fun _ => true) a w1 → vals.length = ts.length → (∀ (s k : Nat) v, ts[s]? = some k → vals[s]? = some v → hasD k = true → a.eval (.tmp (ds.getD k 0)) = v) → X ts.length vals w1 w → Q .normal a w) : (Code.region id ops true).wp P Q a1 wx := by
  refine region_inv hm hg (fun l a w => SameOut a1 a os ∧ Down ops l ∧ ∃ (j : Nat) (w1 : World) (vals : List Value), (∀ (t : Nat) i, ts[t]? = some i → (l i = true ↔ t < j)) ∧ j ≤ ts.length ∧ vals.length = j ∧ (∀ (s k : Nat) v, ts[s]? = some k → vals[s]? = some v → hasD k = true → a.eval (.tmp (ds.getD k 0)) = v) ∧ Later wx w1 ∧ Known wx ds n R l a w1 ∧ X j vals w1 w) ?_ ?_ ?_
  · intro l a w i o ho hl hwait ⟨so, dn, j, w1, vals, hj, hjb, hvl, hvs, hL, hk, hx⟩
    have hi : i < n := by rw [← hn]; exact (Array.getElem?_eq_some_iff.1 ho).1
    have hdn := dn.add ho hwait
    have hother : ∀ k, k < n → k ≠ i → ds.getD k 0 ≠ ds.getD i 0 := fun k hk e => getD_inj hnd (by omega) (by omega) e
    have hkn : ∀ v (w2 w3 : World), Later w1 w2 → Later w1 w3 → Later w2 w3 → R i v w2 → hasD i = true → Known wx ds n R (more l i) (a.put (some (ds.getD i 0)) v) w3 := by
      intro v w2 w3 h12 h13 h23 hr hd q hq hqn
      by_cases e : q = i
      · subst e
        refine ⟨w2, hL.trans h12, h23, ?_⟩
        rw [eval_put_same' _ _ _ (by rw [so.size]; exact hsz q hi hd)]
        exact hr
      · rw [more_other l e] at hq
        obtain ⟨w0, h1, h2, h3⟩ := hk q hq hqn
        refine ⟨w0, h1, h2.trans h13, ?_⟩
        rw [eval_put_other' _ _ (fun e' => hother q hqn e e'.symm)]
        exact h3
    have hvp : ∀ v, isT i = false → ∀ (s k : Nat) u, ts[s]? = some k → vals[s]? = some u → hasD k = true → (a.put (some (ds.getD i 0)) v).eval (.tmp (ds.getD k 0)) = u := fun v hns s k u h1 h2 h3 => by
      have hkt := hTn k (List.mem_of_getElem? h1)
      have hne : k ≠ i := fun e => by rw [← e, hkt.2.1] at hns; cases hns
      rw [eval_put_other' _ _ (fun e => hother k hkt.1 hne e.symm)]
      exact hvs s k u h1 h2 h3
    have hjm : isT i = false → ∀ (t : Nat) k, ts[t]? = some k → (more l i k = true ↔ t < j) := fun hns t k hb => by
      have : k ≠ i := fun e => by rw [← e, (hTn k (List.mem_of_getElem? hb)).2.1] at hns; cases hns
      rw [more_other l this]
      exact hj t k hb
    cases hs : isT i with
    | true =>
      have him := hT i hs
      obtain ⟨t, ht⟩ := List.mem_iff_getElem?.1 him
      have htl := (List.getElem?_eq_some_iff.1 ht).1
      have htj : t = j := by
        have h1 : ¬ t < j := fun h => by rw [(hj t i ht).2 h] at hl; cases hl
        rcases t with _ | t
        · omega
        · have hb' : ts[t]? = some ts[t] := List.getElem?_eq_getElem (by omega)
          have := hord _ hdn t _ i hb' ht (more_same l _)
          rw [more_other l (fun e => by
            have h2 := (List.getElem?_eq_some_iff.1 ht).2
            have h3 := (List.getElem_inj hnod).1 (e.trans h2.symm)
            omega)] at this
          have := (hj t _ hb').1 this
          omega
      subst htj
      refine hturn l a w1 w t i o vals _ ht ho hwait so hL hk hvl hvs hx fun v w' hx' => ?_
      have hso : SameOut a1 (putD (hasD i) a (ds.getD i 0) v) os := by
        unfold putD
        split
        · exact so.put (hos i hi (by assumption)) v
        · exact so
      have hoth : ∀ k, k < n → k ≠ i → (putD (hasD i) a (ds.getD i 0) v).eval (.tmp (ds.getD k 0)) = a.eval (.tmp (ds.getD k 0)) := fun k hkn hne => by
        unfold putD
        split
        · exact eval_put_other' _ _ (fun e => hother k hkn hne e.symm)
        · rfl
      refine ⟨hso, hdn, t + 1, w1, vals ++ [v], fun t' k hk' => ?_, by omega, by simp [hvl], fun s k u h1 h2 h3 => ?_, hL, fun q hq hqn => ?_, hx'⟩
      · by_cases e : k = i
        · subst e
          have h2 := (List.getElem?_eq_some_iff.1 ht).2
          have h4 := (List.getElem?_eq_some_iff.1 hk').2
          have h3 := (List.getElem_inj hnod).1 (h4.trans h2.symm)
          subst h3
          rw [more_same]
          exact ⟨fun _ => Nat.lt_succ_self _, fun _ => rfl⟩
        · rw [more_other l e, hj t' k hk']
          have : t' ≠ t := fun e' => by subst e'; rw [hk'] at ht; cases ht; exact e rfl
          omega
      · have hsl := (List.getElem?_eq_some_iff.1 h2).1
        rw [List.length_append, List.length_singleton, hvl] at hsl
        by_cases e : k = i
        · subst e
          have h4 := (List.getElem?_eq_some_iff.1 h1).2; have h5 := (List.getElem?_eq_some_iff.1 ht).2
          have h6 := (List.getElem_inj hnod).1 (h4.trans h5.symm)
          subst h6
          rw [List.getElem?_append_right (by omega), hvl, Nat.sub_self] at h2
          simp at h2
          subst h2
          unfold putD
          rw [if_pos h3]
          exact eval_put_same' _ _ _ (by rw [so.size]; exact hsz _ hi h3)
        · have hne : s ≠ t := fun e' => by subst e'; rw [h1] at ht; cases ht; exact e rfl
          rw [List.getElem?_append_left (by omega)] at h2
          rw [hoth k (hTn k (List.mem_of_getElem? h1)).1 e]
          exact hvs s k u h1 h2 h3
      · by_cases e : q = i
        · subst e
          exact ⟨w1, hL, Later.refl _, hRT _ hs _ _⟩
        · rw [more_other l e] at hq
          rw [hoth q hqn e]
          exact hk q hq hqn
    | false =>
      have hd := hD i hi hs
      cases hp : pure i with
      | true =>
        refine hpure l a w w1 i o _ ho hi hp hwait so hL hk fun v hr => ?_
        exact ⟨so.put (hos _ hi hd) v, hdn, j, w1, vals, hjm hs, hjb, hvl, hvp v hs, hL, hkn v w1 w1 (Later.refl _) (Later.refl _) (Later.refl _) hr hd, hx⟩
      | false =>
        have h0 : j = 0 := by
          rcases Nat.eq_zero_or_pos j with h | h
          · exact h
          · have hb : ts[0]? = some ts[0] := List.getElem?_eq_getElem (by omega)
            have := hpre l dn _ (List.mem_of_getElem? hb) ((hj 0 _ hb).2 h) i hi hp hs
            rw [hl] at this; cases this
        subst h0
        have hw := (hX0 _ _ _).1 hx
        subst hw
        have hv0 : vals = [] := List.eq_nil_of_length_eq_zero hvl
        subst hv0
        refine hstep l a w i o _ ho hi hp hs hwait so hL hk fun v w' hlw hr => ?_
        exact ⟨so.put (hos _ hi hd) v, hdn, 0, w', [], hjm hs, hjb, rfl, hvp v hs, hL.trans hlw, hkn v w' w' hlw hlw (Later.refl _) hr hd, (hX0 _ _ _).2 rfl⟩
  · intro l a w hall ⟨so, dn, j, w1, vals, hj, hjb, hvl, hvs, hL, hk, hx⟩
    rw [hn] at hall
    have hjl : j = ts.length := by
      rcases Nat.lt_or_ge j ts.length with h | h
      · have hb : ts[j]? = some ts[j] := List.getElem?_eq_getElem h
        have := (hj j _ hb).1 (hall _ (hTn _ (List.mem_of_getElem? hb)).1)
        omega
      · omega
    subst hjl
    exact hend a w1 w vals so hL (fun q _ hqn => hk q (hall q hqn) hqn) hvl hvs hx
  · exact ⟨SameOut.refl _ _, (fun i o _ h => by cases h), 0, { wx with drawn := wx.drawn + 1 }, [], (fun t i _ => ⟨(fun h => by cases h), fun h => by omega⟩), Nat.zero_le _, rfl, (fun s k v _ h => by simp at h), (Later.refl wx).drew, (fun k hk => by cases hk), (hX0 _ _ _).2 rfl⟩

theorem len_two {α : Type} {l : List α} (h : l.length = 2) : ∃ a b, l = [a, b] := by
  match l, h with
  | [a, b], _ => exact ⟨a, b, rfl⟩
theorem len_three {α : Type} {l : List α} (h : l.length = 3) : ∃ a b c, l = [a, b, c] := by
  match l, h with
  | [a, b, c], _ => exact ⟨a, b, c, rfl⟩

section
variable {ops : Array Oper} {Q : Exit → Act → World → Prop} {K : Act → World → Prop} {i : Nat} {dst : Option Tmp} {js : List Nat} {a : Act} {w : World}
theorem OpIs.call1 {f : FuncId} {k : Tmp} {t : TypeId} {v : Value} {Post : Ending → World → Prop} (h : OpIs ops i (.call { callee := .value (.func f), args := #[.tmp k], argTypes := #[t] }) dst js) (hf : ∀ args w, (callFunc f args).run Try.prog w = .ok (.enter f args) w)
    (he : a.eval (.tmp k) = v) (hc : Calls Try.prog f #[v] w Post) (hk : ∀ e w', Post e w' → ∃ u, e = .returned u ∧ K (a.put dst u) w') : wpOp Try.prog ops Q i K a w :=
  h.go fun o h1 h2 => by
    have hr : (execOp a.eval o).run Try.prog w = .ok (.enter f #[v]) w := by
      unfold execOp
      rw [h1]
      simp only [resolve, invoke, Sem.run_bind, List.map_toArray, List.map_cons, List.map_nil, he]
      go_simp
    unfold Oper.wp
    rw [hr]
    show Calls _ _ _ _ _
    refine hc.mono ?_
    intro e w' hp
    obtain ⟨u, rfl, hku⟩ := hk e w' hp
    dsimp only
    rw [h2]
    exact hku
theorem OpIs.call2 {f : FuncId} {k m : Tmp} {t s : TypeId} {v u : Value} {Post : Ending → World → Prop} (h : OpIs ops i (.call { callee := .value (.func f), args := #[.tmp k, .tmp m], argTypes := #[t, s] }) dst js) (hf : ∀ args w, (callFunc f args).run Try.prog w = .ok (.enter f args) w)
    (he : a.eval (.tmp k) = v) (he2 : a.eval (.tmp m) = u) (hc : Calls Try.prog f #[v, u] w Post) (hk : ∀ e w', Post e w' → ∃ r, e = .returned r ∧ K (a.put dst r) w') : wpOp Try.prog ops Q i K a w :=
  h.go fun o h1 h2 => by
    have hr : (execOp a.eval o).run Try.prog w = .ok (.enter f #[v, u]) w := by
      unfold execOp
      rw [h1]
      simp only [resolve, invoke, Sem.run_bind, List.map_toArray, List.map_cons, List.map_nil, he, he2]
      go_simp
    unfold Oper.wp
    rw [hr]
    show Calls _ _ _ _ _
    refine hc.mono ?_
    intro e w' hp
    obtain ⟨r, rfl, hku⟩ := hk e w' hp
    dsimp only
    rw [h2]
    exact hku
theorem OpIs.nilCk {k : Tmp} {b o : Nat} (h : OpIs ops i (.nilCheck (.tmp k)) dst js) (he : a.eval (.tmp k) = .pointer (some ⟨b, o, none⟩)) (hk : K (a.put dst (.pointer (some ⟨b, o, none⟩))) w) : wpOp Try.prog ops Q i K a w :=
  h.go fun op h1 h2 => by
    have hr : (execOp a.eval op).run Try.prog w = .ok (.value (.pointer (some ⟨b, o, none⟩))) w := by
      clear hk
      unfold execOp
      rw [h1]
      dsimp only
      rw [he]
      go_simp
    unfold Oper.wp
    rw [hr]
    show K _ _
    rw [h2]
    exact hk
end

end Go.Proofs.Ytnhhdjcbifmfgaa

/-
  The operations of a region that draws its order, one by one; the frame behind them.
-/
namespace Go.Proofs.Ytnhhdjcbifmfgaa
open Go.RowKit

section
variable {ops : Array Oper} {Q : Exit → Act → World → Prop} {K : Act → World → Prop} {i : Nat} {dst : Option Tmp} {js : List Nat} {a : Act} {w : World}
theorem OpIs.load {ty : TypeId} {k : Tmp} {g : Nat} {x : PrC} {t : TypeId} {fs : Array Field} (h : OpIs ops i (.load ty (.tmp k)) dst js) (hu : Try.prog.underlying ty = some (.struct fs)) (hi : (Try.prog.info? ty).map (·.size) = some 6)
    (he : a.eval (.tmp k) = .pointer (some ⟨g, 0, none⟩)) (hb : BoxAt w g (prL x).toArray t) (hk : K (a.put dst (prV x)) w) : wpOp Try.prog ops Q i K a w :=
  h.go fun o h1 h2 => by
    refine wp_load_row ty (.tmp k) h1 g he t (prL x).toArray (0, 0) _ hb hu rfl hi ?_
    rw [h2]
    exact hk
def zeroL : Array Value := #[.int .i64 0, .string ⟨#[]⟩, .string ⟨#[]⟩, .int .i64 0, .slice none 0 0, .slice none 0 0]
theorem OpIs.alloc (h : OpIs ops i (.alloc 28) dst js) (hk : K (a.put dst (.pointer (some ⟨w.heap.size, 0, none⟩))) (w.alloc (.cells zeroL 28))) : wpOp Try.prog ops Q i K a w :=
  h.go fun o h1 h2 => by
    have hr : (execOp a.eval o).run Try.prog w = .ok (.value (.pointer (some ⟨w.heap.size, 0, none⟩))) (w.alloc (.cells zeroL 28)) := by
      unfold execOp
      rw [h1]
      go_simp
      rfl
    unfold Oper.wp
    rw [hr]
    show K _ _
    rw [h2]
    exact hk
theorem OpIs.store {j k : Tmp} {g : Nat} {x : PrC} {cs : Array Value} (h : OpIs ops i (.store 28 (.tmp j) (.tmp k)) none js) (hj : a.eval (.tmp j) = .pointer (some ⟨g, 0, none⟩)) (hv : a.eval (.tmp k) = prV x) (hb : BoxAt w g cs 28) (hs : cs.size = 6)
    (hk : ∀ w', BoxAt w' g (prL x).toArray 28 → Turned g w w' → K a w') : wpOp Try.prog ops Q i K a w :=
  h.go fun o h1 h2 => by
    match cs, hs with
    | ⟨[x0, x1, x2, x3, x4, x5]⟩, _ =>
      have y0 : w.cell? ⟨g, 0, none⟩ = some x0 := hb.cell rfl
      have y1 : w.cell? ⟨g, 1, none⟩ = some x1 := hb.cell rfl
      have y2 : w.cell? ⟨g, 2, none⟩ = some x2 := hb.cell rfl
      have y3 : w.cell? ⟨g, 3, none⟩ = some x3 := hb.cell rfl
      have y4 : w.cell? ⟨g, 4, none⟩ = some x4 := hb.cell rfl
      have y5 : w.cell? ⟨g, 5, none⟩ = some x5 := hb.cell rfl
      have z0 := hb.frozen 0; have z1 := hb.frozen 1; have z2 := hb.frozen 2; have z3 := hb.frozen 3; have z4 := hb.frozen 4; have z5 := hb.frozen 5
      have hb' := hb.set6 (.int .i64 x.v.kind) (.string x.v.name) (.string x.v.to) (.int .i64 x.v.place) (.slice x.A x.n x.c) (.slice x.B x.m x.d)
      have ht := turned_set6 w g (.int .i64 x.v.kind) (.string x.v.name) (.string x.v.to) (.int .i64 x.v.place) (.slice x.A x.n x.c) (.slice x.B x.m x.d)
      have hr : (execOp a.eval o).run Try.prog w = .ok .skip ((((((w.setCell ⟨g, 0, none⟩ (.int .i64 x.v.kind)).setCell ⟨g, 1, none⟩ (.string x.v.name)).setCell ⟨g, 2, none⟩ (.string x.v.to)).setCell ⟨g, 3, none⟩ (.int .i64 x.v.place)).setCell ⟨g, 4, none⟩ (.slice x.A x.n x.c)).setCell ⟨g, 5, none⟩ (.slice x.B x.m x.d)) := by
        clear hb hb' ht hk
        unfold prV at hv
        unfold execOp
        rw [h1]
        dsimp only
        rw [hj, hv]
        go_simp
      unfold Oper.wp
      rw [hr]
      show K _ _
      rw [h2]
      exact hk _ hb' ht
end

end Go.Proofs.Ytnhhdjcbifmfgaa

/-
  What tree.New, Named, has and Get come to, as calls.
-/
namespace Go.Proofs.Ytnhhdjcbifmfgaa
open Go.RowKit Go.Maps

/-- A new tree. -/
def NewTree (t : Tr) (w : World) (e : Ending) (w' : World) : Prop :=
  ∃ p B, e = .returned (.pointer (some ⟨p, 0, none⟩)) ∧ TreeAt w' p B t ∧ w.heap.size ≤ p ∧ w.heap.size ≤ B ∧ Later w w'

end Go.Proofs.Ytnhhdjcbifmfgaa

/-
  What tree's Add, Remove, Move, Put and Get come to, as calls.
-/
namespace Go.Proofs.Ytnhhdjcbifmfgaa
open Go.RowKit Go.Maps

/-- An error's number; the tree is what the document says; nothing else has turned. -/
def Does (r : Tr × Int) (p B : Nat) (w : World) (e : Ending) (w' : World) : Prop := e = .returned (.int .i64 r.2) ∧ TreeAt w' p B r.1 ∧ Turned B w w'

theorem Does.same {t : Tr} {p B : Nat} {w : World} {k : Int} (h : TreeAt w p B t) : Does (t, k) p B w (.returned (.int .i64 k)) w := ⟨rfl, h, Turned.refl _ _⟩

end Go.Proofs.Ytnhhdjcbifmfgaa

/-
  What tree's Move, Put and Get come to, as calls.
-/
namespace Go.Proofs.Ytnhhdjcbifmfgaa
open Go.RowKit Go.Maps

/-- A row of the call's own, and a flag. -/
def Gets (o : Option (List ByteArray)) (w : World) (e : Ending) (w' : World) : Prop := ∃ v, e = .returned (.tuple #[v, .bool o.isSome]) ∧ Own 9 w w' v (o.getD [])

end Go.Proofs.Ytnhhdjcbifmfgaa

/-
  What tree's Put comes to, as a call, where it is taken: the new row lies behind all that was there.
-/
namespace Go.Proofs.Ytnhhdjcbifmfgaa
open Go.RowKit Go.Maps

/-- The slice does not lie in block g. -/
def Off (g : Nat) (v : Value) : Prop := v.ownBlock ≠ some g

theorem Row.off {w w' : World} {g n c : Nat} {A : Option Addr} {l : List ByteArray} (h : Row w A n l) (hg : Turned g w w') (ho : l ≠ [] → Off g (.slice A n c)) : Row w' A n l :=
  ⟨h.1, fun hn => by
    obtain ⟨b, o, rfl, hc⟩ := h.2 hn
    have hl : l ≠ [] := by
      rintro rfl
      have := h.1
      simp at this; omega
    refine ⟨b, o, rfl, fun j s hs => hg.cell (hc j s hs) ?_⟩
    intro e
    exact ho hl (by simp only [Value.ownBlock]; rw [show b = g from e])⟩
theorem FA.off {w w' : World} {B g : Nat} {z : Fl Held} (h : FA w B z) (hg : Turned g w w') (hB : B ≠ g) (ho : ∀ f ∈ z, f.2.2 ≠ [] → Off g f.2.1) (hne : ∀ cur, w.heap[g]? ≠ some (.cells cur 9)) : FA w' B z :=
  ⟨h.own.kept hg (by simpa using hB), h.rise, (fun f hf => by
    obtain ⟨A, n, c, e, h1, h2⟩ := h.reads f hf
    exact ⟨A, n, c, e, h1, h2.off (c := c) hg (by rw [← e]; exact ho f hf)⟩), fun f hf => (h.typed f hf).off hg hne⟩

/-- The tree with the file's new lines, whose row lies behind all that was there at w. -/
def PutOk (p B : Nat) (z : Fl Held) (nm : ByteArray) (l : List ByteArray) (w : World) (e : Ending) (w' : World) : Prop :=
  ∃ v, e = .returned (.int .i64 0) ∧ w'.cell? ⟨p, 0, none⟩ = some (.map (some B)) ∧ FA w' B (withT z nm (v, l)) ∧ (∀ k, v.ownBlock = some k → w.heap.size ≤ k) ∧ Turned B w w'

end Go.Proofs.Ytnhhdjcbifmfgaa

/-
  What stands in memory while a statement that swaps two prims, and keeps both, goes on in whatever order.
-/
namespace Go.Proofs.Ytnhhdjcbifmfgaa
open Go.RowKit Go.Maps

/-- No row of the prim lies in block g. -/
def Away (g : Nat) (x : PrC) : Prop := (x.v.old ≠ [] → Off g (.slice x.A x.n x.c)) ∧ (x.v.new ≠ [] → Off g (.slice x.B x.m x.d))
/-- Its rows lie behind all that was there. -/
def Fresh (w : World) (x : PrC) : Prop := (∀ k, (Value.slice x.A x.n x.c).ownBlock = some k → w.heap.size ≤ k) ∧ (∀ k, (Value.slice x.B x.m x.d).ownBlock = some k → w.heap.size ≤ k)
theorem PrOk.off {w w' : World} {g : Nat} {x : PrC} (h : PrOk w x) (hg : Turned g w w') (ha : Away g x) : PrOk w' x :=
  ⟨h.old.off (c := x.c) hg ha.1, h.new.off (c := x.d) hg ha.2, h.oroom, h.nroom, h.omost, h.nmost, h.name, h.to, h.lo, h.hi, h.olds, h.news⟩
theorem Row.awayG {w : World} {A : Option Addr} {n c g : Nat} {l : List ByteArray} (h : Row w A n l) (hg : w.heap.size ≤ g) (hl : l ≠ []) : Off g (.slice A n c) := by
  have hn : 0 < n := by
    have := h.1
    cases l with
    | nil => exact absurd rfl hl
    | cons s l => simp at this; omega
  obtain ⟨b, o, rfl, hc⟩ := h.2 hn
  cases l with
  | nil => exact absurd rfl hl
  | cons s l =>
    have h1 := lt_of_cell (hc 0 s rfl)
    intro e
    simp only [Value.ownBlock, Option.some.injEq] at e
    dsimp only at h1
    omega
theorem PrOk.away {w : World} {x : PrC} {g : Nat} (h : PrOk w x) (hg : w.heap.size ≤ g) : Away g x := ⟨h.old.awayG hg, h.new.awayG hg⟩
theorem Fresh.away {w : World} {x : PrC} {g : Nat} (h : Fresh w x) (hg : g < w.heap.size) : Away g x :=
  ⟨fun _ e => by have := h.1 g e; omega, fun _ e => by have := h.2 g e; omega⟩

/-- What the statement has made. -/
structure Dat where
  i : PrC
  j : PrC
  c : PrC
  d : PrC
  g8 : Nat
  g9 : Nat

/-- By which operations have come: two that are undone, the swap, two blocks, two stores. -/
structure Wd (wx : World) (p q r s : Pr) (bi bj bs b8 b9 bt bu : Bool) (D : Dat) (w : World) : Prop where
  later : Later wx w
  wi : bi = true → bs = false → D.i.v = p ∧ PrOk w D.i
  wj : bj = true → bs = false → D.j.v = q ∧ PrOk w D.j
  wc : bs = true → D.c.v = r ∧ D.d.v = s ∧ PrOk w D.c ∧ PrOk w D.d
  w8 : b8 = true → wx.heap.size ≤ D.g8 ∧ ∃ cs, cs.size = 6 ∧ BoxAt w D.g8 cs 28 ∧ (bt = true → cs = (prL D.c).toArray)
  w9 : b9 = true → wx.heap.size ≤ D.g9 ∧ ∃ cs, cs.size = 6 ∧ BoxAt w D.g9 cs 28 ∧ (bu = true → cs = (prL D.d).toArray)
  n : b8 = true → b9 = true → D.g8 ≠ D.g9
  a8 : bs = true → b8 = true → Away D.g8 D.c ∧ Away D.g8 D.d
  a9 : bs = true → b9 = true → Away D.g9 D.c ∧ Away D.g9 D.d

section
variable {wx w w' : World} {p q r s : Pr} {bi bj bs b8 b9 bt bu : Bool} {D : Dat}
theorem Wd.start (D : Dat) (hl : Later wx w) : Wd wx p q r s false false false false false false false D w :=
  ⟨hl, (fun h => by cases h), (fun h => by cases h), (fun h => by cases h), (fun h => by cases h), (fun h => by cases h), (fun h => by cases h), (fun h => by cases h), (fun h => by cases h)⟩
theorem Wd.on (h : Wd wx p q r s bi bj bs b8 b9 bt bu D w) (hl : Later w w') : Wd wx p q r s bi bj bs b8 b9 bt bu D w' :=
  ⟨h.later.trans hl, fun e f => ⟨(h.wi e f).1, (h.wi e f).2.later hl⟩, fun e f => ⟨(h.wj e f).1, (h.wj e f).2.later hl⟩, fun e => ⟨(h.wc e).1, (h.wc e).2.1, (h.wc e).2.2.1.later hl, (h.wc e).2.2.2.later hl⟩,
    (fun e => by obtain ⟨h1, cs, h2, h3, h4⟩ := h.w8 e; exact ⟨h1, cs, h2, h3.later hl, h4⟩), (fun e => by obtain ⟨h1, cs, h2, h3, h4⟩ := h.w9 e; exact ⟨h1, cs, h2, h3.later hl, h4⟩), h.n, h.a8, h.a9⟩
theorem Wd.inv1 (h : Wd wx p q r s bi bj bs b8 b9 bt bu D w) (hl : Later w w') {i : PrC} (hv : i.v = p) (ho : PrOk w' i) : Wd wx p q r s true bj bs b8 b9 bt bu { D with i := i } w' :=
  { h.on hl with wi := fun _ _ => ⟨hv, ho⟩ }
theorem Wd.inv2 (h : Wd wx p q r s bi bj bs b8 b9 bt bu D w) (hl : Later w w') {j : PrC} (hv : j.v = q) (ho : PrOk w' j) : Wd wx p q r s bi true bs b8 b9 bt bu { D with j := j } w' :=
  { h.on hl with wj := fun _ _ => ⟨hv, ho⟩ }
theorem Wd.swap (h : Wd wx p q r s bi bj false b8 b9 false false D w) (hl : Later w w') {c d : PrC} (hc : c.v = r) (hd : d.v = s) (oc : PrOk w' c) (od : PrOk w' d) (fc : Fresh w c) (fd : Fresh w d) : Wd wx p q r s bi bj true b8 b9 false false { D with c := c, d := d } w' :=
  { h.on hl with
    wi := fun _ e => by cases e
    wj := fun _ e => by cases e
    wc := fun _ => ⟨hc, hd, oc, od⟩
    w8 := fun e => by obtain ⟨h1, cs, h2, h3, h4⟩ := (h.on hl).w8 e; exact ⟨h1, cs, h2, h3, fun e => by cases e⟩
    w9 := fun e => by obtain ⟨h1, cs, h2, h3, h4⟩ := (h.on hl).w9 e; exact ⟨h1, cs, h2, h3, fun e => by cases e⟩
    a8 := fun _ e => by obtain ⟨_, _, _, h3, _⟩ := h.w8 e; exact ⟨fc.away h3.lt, fd.away h3.lt⟩
    a9 := fun _ e => by obtain ⟨_, _, _, h3, _⟩ := h.w9 e; exact ⟨fc.away h3.lt, fd.away h3.lt⟩ }
theorem Wd.alloc8 (h : Wd wx p q r s bi bj bs false b9 false bu D w) : Wd wx p q r s bi bj bs true b9 false bu { D with g8 := w.heap.size } (w.alloc (.cells zeroL 28)) :=
  { h.on ((Later.refl w).alloc _) with
    w8 := fun _ => ⟨h.later.le, zeroL, rfl, BoxAt.made w zeroL 28, fun e => by cases e⟩
    n := fun _ e => by obtain ⟨_, _, _, h3, _⟩ := h.w9 e; have := h3.lt; show w.heap.size ≠ D.g9; omega
    a8 := fun e _ => ⟨(h.wc e).2.2.1.away (Nat.le_refl _), (h.wc e).2.2.2.away (Nat.le_refl _)⟩ }
theorem Wd.alloc9 (h : Wd wx p q r s bi bj bs b8 false bt false D w) : Wd wx p q r s bi bj bs b8 true bt false { D with g9 := w.heap.size } (w.alloc (.cells zeroL 28)) :=
  { h.on ((Later.refl w).alloc _) with
    w9 := fun _ => ⟨h.later.le, zeroL, rfl, BoxAt.made w zeroL 28, fun e => by cases e⟩
    n := fun e _ => by obtain ⟨_, _, _, h3, _⟩ := h.w8 e; have := h3.lt; show D.g8 ≠ w.heap.size; omega
    a9 := fun e _ => ⟨(h.wc e).2.2.1.away (Nat.le_refl _), (h.wc e).2.2.2.away (Nat.le_refl _)⟩ }
theorem Wd.st8 (h : Wd wx p q r s bi bj true true true bt bu D w) (hb : BoxAt w' D.g8 (prL D.c).toArray 28) (ht : Turned D.g8 w w') : Wd wx p q r s bi bj true true true true bu D w' :=
  { h with
    later := h.later.turn ht (h.w8 rfl).1
    wi := fun _ e => by cases e
    wj := fun _ e => by cases e
    wc := fun _ => ⟨(h.wc rfl).1, (h.wc rfl).2.1, (h.wc rfl).2.2.1.off ht (h.a8 rfl rfl).1, (h.wc rfl).2.2.2.off ht (h.a8 rfl rfl).2⟩
    w8 := fun _ => ⟨(h.w8 rfl).1, _, rfl, hb, fun _ => rfl⟩
    w9 := fun _ => by obtain ⟨h1, cs, h2, h3, h4⟩ := h.w9 rfl; exact ⟨h1, cs, h2, h3.other ht (Ne.symm (h.n rfl rfl)), h4⟩ }
theorem Wd.st9 (h : Wd wx p q r s bi bj true true true bt bu D w) (hb : BoxAt w' D.g9 (prL D.d).toArray 28) (ht : Turned D.g9 w w') : Wd wx p q r s bi bj true true true bt true D w' :=
  { h with
    later := h.later.turn ht (h.w9 rfl).1
    wi := fun _ e => by cases e
    wj := fun _ e => by cases e
    wc := fun _ => ⟨(h.wc rfl).1, (h.wc rfl).2.1, (h.wc rfl).2.2.1.off ht (h.a9 rfl rfl).1, (h.wc rfl).2.2.2.off ht (h.a9 rfl rfl).2⟩
    w9 := fun _ => ⟨(h.w9 rfl).1, _, rfl, hb, fun _ => rfl⟩
    w8 := fun _ => by obtain ⟨h1, cs, h2, h3, h4⟩ := h.w8 rfl; exact ⟨h1, cs, h2, h3.other ht (h.n rfl rfl), h4⟩ }
theorem Wd.swap' (h : Wd wx p q r s bi bj bs b8 b9 bt bu D w) (e1 : bs = false) (e2 : bt = false) (e3 : bu = false) (hl : Later w w') {c d : PrC} (hc : c.v = r) (hd : d.v = s) (oc : PrOk w' c) (od : PrOk w' d) (fc : Fresh w c) (fd : Fresh w d) : Wd wx p q r s bi bj true b8 b9 bt bu { D with c := c, d := d } w' := by
  subst e1 e2 e3; exact h.swap hl hc hd oc od fc fd
theorem Wd.alloc8' (h : Wd wx p q r s bi bj bs b8 b9 bt bu D w) (e1 : b8 = false) (e2 : bt = false) : Wd wx p q r s bi bj bs true b9 bt bu { D with g8 := w.heap.size } (w.alloc (.cells zeroL 28)) := by
  subst e1 e2; exact h.alloc8
theorem Wd.alloc9' (h : Wd wx p q r s bi bj bs b8 b9 bt bu D w) (e1 : b9 = false) (e2 : bu = false) : Wd wx p q r s bi bj bs b8 true bt bu { D with g9 := w.heap.size } (w.alloc (.cells zeroL 28)) := by
  subst e1 e2; exact h.alloc9
theorem Wd.st8' (h : Wd wx p q r s bi bj bs b8 b9 bt bu D w) (e1 : bs = true) (e2 : b8 = true) (e3 : b9 = true) (hb : BoxAt w' D.g8 (prL D.c).toArray 28) (ht : Turned D.g8 w w') : Wd wx p q r s bi bj bs b8 b9 true bu D w' := by
  subst e1 e2 e3; exact h.st8 hb ht
theorem Wd.st9' (h : Wd wx p q r s bi bj bs b8 b9 bt bu D w) (e1 : bs = true) (e2 : b8 = true) (e3 : b9 = true) (hb : BoxAt w' D.g9 (prL D.d).toArray 28) (ht : Turned D.g9 w w') : Wd wx p q r s bi bj bs b8 b9 bt true D w' := by
  subst e1 e2 e3; exact h.st9 hb ht
end

end Go.Proofs.Ytnhhdjcbifmfgaa
