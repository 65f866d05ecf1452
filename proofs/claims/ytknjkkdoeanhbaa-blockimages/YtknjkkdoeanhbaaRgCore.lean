/-
  A region that draws its order, whatever the program: its operations, one by one; the frame behind them; reads and calls in any order; and, at its end, one behind the other, operations that write.
-/
import Derived.Test.YtknjkkdoeanhbaaRgInv
import Derived.Test.YtknjkkdoeanhbaaBase
namespace Go.Proofs.Ytknjkkdoeanhbaa
open Go.RowKit

/-- It waits for these. -/
def needs (o : Oper) (js : List Nat) : Bool := js.all fun j => o.after.any fun e => decide (e.on = j) && Region.binds .any e
/-- Operation i of the region. -/
def OpIs (ops : Array Oper) (i : Nat) (op : Op) (dst : Option Tmp) (js : List Nat) : Prop := ∃ o, ops[i]? = some o ∧ o.op = op ∧ o.dst = dst ∧ o.guard = none ∧ needs o js = true
theorem OpIs.waits {ops : Array Oper} {i : Nat} {op : Op} {dst : Option Tmp} {js : List Nat} (h : OpIs ops i op dst js) {o : Oper} (ho : ops[i]? = some o) {l : Nat → Bool} (hl : ∀ e ∈ o.after, Region.binds .any e = true → l e.on = true) : ∀ j ∈ js, l j = true := by
  obtain ⟨o', h1, -, -, -, h5⟩ := h
  rw [ho] at h1
  cases h1
  intro j hj
  have := List.all_eq_true.1 h5 j hj
  simp only [Array.any_eq_true, Bool.and_eq_true, decide_eq_true_eq] at this
  obtain ⟨k, hk, e1, e2⟩ := this
  rw [← e1]
  exact hl _ (Array.getElem_mem hk) e2

section
variable {P : Program} {ops : Array Oper} {Q : Exit → Act → World → Prop} {K : Act → World → Prop} {i : Nat} {dst : Option Tmp} {js : List Nat} {a : Act} {w : World}
theorem OpIs.go {op : Op} (h : OpIs ops i op dst js) (hk : ∀ o : Oper, o.op = op → o.dst = dst → o.wp P a w K Q) : wpOp P ops Q i K a w := by
  obtain ⟨o, h1, h2, h3, h4, -⟩ := h
  unfold wpOp
  rw [h1]
  dsimp only
  rw [if_pos (by simp [Region.wanted, h4])]
  exact .inl (hk o h2 h3)
theorem OpIs.move {k : Tmp} (h : OpIs ops i (.move (.tmp k)) dst js) (hk : K (a.put dst (a.eval (.tmp k))) w) : wpOp P ops Q i K a w :=
  h.go fun o h1 h2 => by
    unfold Oper.wp execOp
    rw [h1]
    simp only [Sem.run_pure]
    show K _ _
    rw [h2]
    exact hk
theorem OpIs.assign {k : Tmp} (h : OpIs ops i (.assign (.tmp k)) dst js) (hk : K (a.put dst (a.eval (.tmp k))) w) : wpOp P ops Q i K a w :=
  h.go fun o h1 h2 => by
    unfold Oper.wp execOp
    rw [h1]
    simp only [Sem.run_pure]
    show K _ _
    rw [h2]
    exact hk
theorem OpIs.extract {k : Tmp} {n : Nat} {vs : Array Value} {v : Value} (h : OpIs ops i (.extract (.tmp k) n) dst js) (he : a.eval (.tmp k) = .tuple vs) (hv : vs[n]? = some v) (hk : K (a.put dst v) w) : wpOp P ops Q i K a w :=
  h.go fun o h1 h2 => by
    unfold Oper.wp execOp
    rw [h1]
    simp only [he, Instr.extract, hv, Sem.run_bind, Sem.run_pure, Result.andThen_ok]
    show K _ _
    rw [h2]
    exact hk
end

theorem eval_put_same' (a : Act) (k : Tmp) (v : Value) (h : k < a.tmps.size) : (a.put (some k) v).eval (.tmp k) = v := by
  simp [Act.put, Act.eval, h]
theorem eval_put_other' (a : Act) {j k : Tmp} (v : Value) (h : j ≠ k) : (a.put (some j) v).eval (.tmp k) = a.eval (.tmp k) := by
  simp [Act.put, Act.eval, h]

/-- The frame is as it was but for these slots. -/
structure SameOut (a1 a : Act) (ds : List Nat) : Prop where
  defers : a.defers = a1.defers
  size : a.tmps.size = a1.tmps.size
  out : ∀ k, k ∉ ds → a.tmps[k]? = a1.tmps[k]?
theorem SameOut.refl (a : Act) (ds : List Nat) : SameOut a a ds := ⟨rfl, rfl, fun _ _ => rfl⟩
theorem SameOut.put {a1 a : Act} {ds : List Nat} (h : SameOut a1 a ds) {k : Nat} (hk : k ∈ ds) (v : Value) : SameOut a1 (a.put (some k) v) ds :=
  ⟨by simp [Act.put, h.defers], by simp [Act.put, h.size], fun j hj => by
    have hne : k ≠ j := fun e => hj (e ▸ hk)
    simp only [Act.put]
    rw [Array.getElem?_setIfInBounds_ne hne]
    exact h.out j hj⟩
theorem SameOut.is {a1 a : Act} {ds : List Nat} (h : SameOut a1 a ds) : a = ds.foldl (fun b k => b.put (some k) (a.eval (.tmp k))) a1 := by
  obtain ⟨h1, h2, h3⟩ := h
  induction ds generalizing a1 with
  | nil =>
    cases a; cases a1
    simp only [List.foldl_nil] at *
    subst h1
    congr 1
    exact Array.ext h2 fun i hi hj => by
      have := h3 i (by simp)
      rw [Array.getElem?_eq_getElem hi, Array.getElem?_eq_getElem hj] at this
      exact Option.some.inj this
  | cons k ds ih =>
    rw [List.foldl_cons]
    refine ih (by simp [Act.put, h1]) (by simp [Act.put, h2]) fun j hj => ?_
    by_cases e : k = j
    · subst e
      simp only [Act.put, Act.eval]
      by_cases hs : k < a1.tmps.size
      · rw [Array.getElem?_setIfInBounds_self_of_lt hs, Array.getElem?_eq_getElem (by omega)]
        simp [Array.getD, h2, hs]
      · rw [Array.getElem?_eq_none (by omega), Array.getElem?_eq_none (by simp; omega)]
    · simp only [Act.put]
      rw [Array.getElem?_setIfInBounds_ne e]
      exact h3 j (by simp [hj, Ne.symm e])

theorem getD_inj {l : List Nat} (h : l.Nodup) {i j : Nat} (hi : i < l.length) (hj : j < l.length) (hne : i ≠ j) : l.getD i 0 ≠ l.getD j 0 := by
  rw [List.getD, List.getD, List.getElem?_eq_getElem hi, List.getElem?_eq_getElem hj]
  intro e
  exact hne ((List.getElem_inj h).1 e)
theorem getD_mem {l : List Nat} {i : Nat} (hi : i < l.length) : l.getD i 0 ∈ l := by
  rw [List.getD, List.getElem?_eq_getElem hi]
  exact List.getElem_mem hi
/-- What is known of the operations that have come. -/
def Known (wx : World) (ds : List Nat) (n : Nat) (R : Nat → Value → World → Prop) (l : Nat → Bool) (a : Act) (w : World) : Prop := ∀ k, l k = true → k < n → ∃ w0, Later wx w0 ∧ Later w0 w ∧ R k (a.eval (.tmp (ds.getD k 0))) w0
theorem region_reads {P : Program} {ops : Array Oper} {Q : Exit → Act → World → Prop} {id : Nat} {a1 : Act} {wx : World} {n : Nat} (hm : P.follows .mixedOrders = true) (hg : goesBack ops = true) (hn : ops.size = n) (ds : List Nat) (hnd : ds.Nodup) (hlen : ds.length = n) (hsz : ∀ d ∈ ds, d < a1.tmps.size) (R : Nat → Value → World → Prop)
    (hstep : ∀ (l : Nat → Bool) (a : Act) (w : World) (i : Nat) (o : Oper) (K : Act → World → Prop), ops[i]? = some o → i < n → (∀ e ∈ o.after, Region.binds .any e = true → l e.on = true) → SameOut a1 a ds → Later wx w → Known wx ds n R l a w → (∀ v w', Later w w' → R i v w' → K (a.put (some (ds.getD i 0)) v) w') → wpOp P ops Q i K a w)
    (hend : ∀ a w, SameOut a1 a ds → Later wx w → Known wx ds n R (fun _ => true) a w → Q .normal a w) : (Code.region id ops true).wp P Q a1 wx := by
  refine region_inv hm hg (fun l a w => SameOut a1 a ds ∧ Later wx w ∧ Known wx ds n R l a w) ?_ ?_ ?_
  · intro l a w i o ho hl hwait ⟨so, hl0, hf⟩
    have hi : i < n := by rw [← hn]; exact (Array.getElem?_eq_some_iff.1 ho).1
    refine hstep l a w i o _ ho hi hwait so hl0 hf fun v w' hl' hr => ?_
    refine ⟨so.put (getD_mem (by omega)) v, hl0.trans hl', fun k hk hkn => ?_⟩
    by_cases e : k = i
    · subst e
      refine ⟨w', hl0.trans hl', Later.refl w', ?_⟩
      rw [eval_put_same' _ _ _ (by rw [so.size]; exact hsz _ (getD_mem (by omega)))]
      exact hr
    · rw [more_other l e] at hk
      obtain ⟨w0, h1, h2, h3⟩ := hf k hk hkn
      refine ⟨w0, h1, h2.trans hl', ?_⟩
      rw [eval_put_other' _ _ (getD_inj hnd (by omega) (by omega) (fun e' => e e'.symm))]
      exact h3
  · intro l a w hall ⟨so, hl0, hf⟩
    refine hend a w so hl0 fun k _ hkn => hf k (hall k (by rw [hn]; exact hkn)) hkn
  · exact ⟨SameOut.refl _ _, (Later.refl wx).drew, fun k hk => by cases hk⟩

/-- What has come waits for nothing. -/
def Down (ops : Array Oper) (l : Nat → Bool) : Prop := ∀ i o, ops[i]? = some o → l i = true → ∀ e ∈ o.after, Region.binds .any e = true → l e.on = true
theorem Down.add {ops : Array Oper} {l : Nat → Bool} {i : Nat} {o : Oper} (h : Down ops l) (ho : ops[i]? = some o) (hw : ∀ e ∈ o.after, Region.binds .any e = true → l e.on = true) : Down ops (more l i) := by
  have key : ∀ j, l j = true → more l i j = true := fun j hj => by
    by_cases e : j = i
    · subst e; exact more_same l j
    · rw [more_other l e]; exact hj
  intro j o' hj hl e he hb
  by_cases e' : j = i
  · subst e'
    rw [ho] at hj
    cases hj
    exact key _ (hw e he hb)
  · rw [more_other l e'] at hl
    exact key _ (h j o' hj hl e he hb)
theorem OpIs.back {ops : Array Oper} {i : Nat} {op : Op} {dst : Option Tmp} {js : List Nat} (h : OpIs ops i op dst js) {l : Nat → Bool} (hd : Down ops l) (hi : l i = true) : ∀ j ∈ js, l j = true := by
  obtain ⟨o, h1, h2⟩ := h
  exact OpIs.waits ⟨o, h1, h2⟩ h1 (hd i o h1 hi)

/-- What an operation hands on. -/
def putD (hasD : Bool) (a : Act) (k : Tmp) (v : Value) : Act := if hasD = true then a.put (some k) v else a
set_option maxHeartbeats 1600000 in
theorem region_turns {P : Program} {ops : Array Oper} {Q : Exit → Act → World → Prop} {id : Nat} {a1 : Act} {wx : World} {n : Nat} (hm : P.follows .mixedOrders = true) (hg : goesBack ops = true) (hn : ops.size = n) (ds : List Nat) (hnd : ds.Nodup) (hlen : ds.length = n) (os : List Nat) (isT pure hasD : Nat → Bool) (ts : List Nat)
    (hos : ∀ i, i < n → hasD i = true → ds.getD i 0 ∈ os) (hsz : ∀ i, i < n → hasD i = true → ds.getD i 0 < a1.tmps.size) (R : Nat → Value → World → Prop) (X : Nat → List Value → World → World → Prop)
    (hT : ∀ i, isT i = true → i ∈ ts) (hTn : ∀ i ∈ ts, i < n ∧ isT i = true ∧ pure i = false) (hnod : ts.Nodup) (hD : ∀ i, i < n → isT i = false → hasD i = true)
    (hpre : ∀ l, Down ops l → ∀ i ∈ ts, l i = true → ∀ k, k < n → pure k = false → isT k = false → l k = true)
    (hord : ∀ l, Down ops l → ∀ (t : Nat) i i', ts[t]? = some i → ts[t + 1]? = some i' → l i' = true → l i = true)
    (hRT : ∀ i, isT i = true → ∀ v w, R i v w) (hX0 : ∀ vals w1 w, X 0 vals w1 w ↔ w = w1)
    (hstep : ∀ (l : Nat → Bool) (a : Act) (w : World) (i : Nat) (o : Oper) (K : Act → World → Prop), ops[i]? = some o → i < n → pure i = false → isT i = false → (∀ e ∈ o.after, Region.binds .any e = true → l e.on = true) → SameOut a1 a os → Later wx w → Known wx ds n R l a w → (∀ v w', Later w w' → R i v w' → K (a.put (some (ds.getD i 0)) v) w') → wpOp P ops Q i K a w)
    (hpure : ∀ (l : Nat → Bool) (a : Act) (w w1 : World) (i : Nat) (o : Oper) (K : Act → World → Prop), ops[i]? = some o → i < n → pure i = true → (∀ e ∈ o.after, Region.binds .any e = true → l e.on = true) → SameOut a1 a os → Later wx w1 → Known wx ds n R l a w1 → (∀ v, R i v w1 → K (a.put (some (ds.getD i 0)) v) w) → wpOp P ops Q i K a w)
    (hturn : ∀ (l : Nat → Bool) (a : Act) (w1 w : World) (t i : Nat) (o : Oper) (vals : List Value) (K : Act → World → Prop), ts[t]? = some i → ops[i]? = some o → (∀ e ∈ o.after, Region.binds .any e = true → l e.on = true) → SameOut a1 a os → Later wx w1 → Known wx ds n R l a w1 → vals.length = t → (∀ (s k : Nat) v, ts[s]? = some k → vals[s]? = some v → hasD k = true → a.eval (.tmp (ds.getD k 0)) = v) → X t vals w1 w → (∀ v w', X (t + 1) (vals ++ [v]) w1 w' → K (putD (hasD i) a (ds.getD i 0) v) w') → wpOp P ops Q i K a w)
    (hend : ∀ a w1 w vals, SameOut a1 a os → Later wx w1 → Known wx ds n R (fun _ => true) a w1 → vals.length = ts.length → (∀ (s k : Nat) v, ts[s]? = some k → vals[s]? = some v → hasD k = true → a.eval (.tmp (ds.getD k 0)) = v) → X ts.length vals w1 w → Q .normal a w) : (Code.region id ops true).wp P Q a1 wx := by
  refine region_inv hm hg (fun l a w => SameOut a1 a os ∧ Down ops l ∧ ∃ (j : Nat) (w1 : World) (vals : List Value), (∀ (t : Nat) i, ts[t]? = some i → (l i = true ↔ t < j)) ∧ j ≤ ts.length ∧ vals.length = j ∧ (∀ (s k : Nat) v, ts[s]? = some k → vals[s]? = some v → hasD k = true → a.eval (.tmp (ds.getD k 0)) = v) ∧ Later wx w1 ∧ Known wx ds n R l a w1 ∧ X j vals w1 w) ?_ ?_ ?_
  · intro l a w i o ho hl hwait ⟨so, dn, j, w1, vals, hj, hjb, hvl, hvs, hL, hk, hx⟩
    have hi : i < n := by rw [← hn]; exact (Array.getElem?_eq_some_iff.1 ho).1
    have hdn := dn.add ho hwait
    have hother : ∀ k, k < n → k ≠ i → ds.getD k 0 ≠ ds.getD i 0 := fun k hk e => getD_inj hnd (by omega) (by omega) e
    have hkn : ∀ v (w2 w3 : World), Later w1 w2 → Later w1 w3 → Later w2 w3 → R i v w2 → hasD i = true → Known wx ds n R (more l i) (a.put (some (ds.getD i 0)) v) w3 := by
      intro v w2 w3 h12 h13 h23 hr hd q hq hqn
      by_cases e : q = i
      · subst e
        refine ⟨w2, hL.trans h12, h23, ?_⟩
        rw [eval_put_same' _ _ _ (by rw [so.size]; exact hsz q hi hd)]
        exact hr
      · rw [more_other l e] at hq
        obtain ⟨w0, h1, h2, h3⟩ := hk q hq hqn
        refine ⟨w0, h1, h2.trans h13, ?_⟩
        rw [eval_put_other' _ _ (fun e' => hother q hqn e e'.symm)]
        exact h3
    have hvp : ∀ v, isT i = false → ∀ (s k : Nat) u, ts[s]? = some k → vals[s]? = some u → hasD k = true → (a.put (some (ds.getD i 0)) v).eval (.tmp (ds.getD k 0)) = u := fun v hns s k u h1 h2 h3 => by
      have hkt := hTn k (List.mem_of_getElem? h1)
      have hne : k ≠ i := fun e => by rw [← e, hkt.2.1] at hns; cases hns
      rw [eval_put_other' _ _ (fun e => hother k hkt.1 hne e.symm)]
      exact hvs s k u h1 h2 h3
    have hjm : isT i = false → ∀ (t : Nat) k, ts[t]? = some k → (more l i k = true ↔ t < j) := fun hns t k hb => by
      have : k ≠ i := fun e => by rw [← e, (hTn k (List.mem_of_getElem? hb)).2.1] at hns; cases hns
      rw [more_other l this]
      exact hj t k hb
    cases hs : isT i with
    | true =>
      have him := hT i hs
      obtain ⟨t, ht⟩ := List.mem_iff_getElem?.1 him
      have htl := (List.getElem?_eq_some_iff.1 ht).1
      have htj : t = j := by
        have h1 : ¬ t < j := fun h => by rw [(hj t i ht).2 h] at hl; cases hl
        rcases t with _ | t
        · omega
        · have hb' : ts[t]? = some ts[t] := List.getElem?_eq_getElem (by omega)
          have := hord _ hdn t _ i hb' ht (more_same l _)
          rw [more_other l (fun e => by
            have h2 := (List.getElem?_eq_some_iff.1 ht).2
            have h3 := (List.getElem_inj hnod).1 (e.trans h2.symm)
            omega)] at this
          have := (hj t _ hb').1 this
          omega
      subst htj
      refine hturn l a w1 w t i o vals _ ht ho hwait so hL hk hvl hvs hx fun v w' hx' => ?_
      have hso : SameOut a1 (putD (hasD i) a (ds.getD i 0) v) os := by
        unfold putD
        split
        · exact so.put (hos i hi (by assumption)) v
        · exact so
      have hoth : ∀ k, k < n → k ≠ i → (putD (hasD i) a (ds.getD i 0) v).eval (.tmp (ds.getD k 0)) = a.eval (.tmp (ds.getD k 0)) := fun k hkn hne => by
        unfold putD
        split
        · exact eval_put_other' _ _ (fun e => hother k hkn hne e.symm)
        · rfl
      refine ⟨hso, hdn, t + 1, w1, vals ++ [v], fun t' k hk' => ?_, by omega, by simp [hvl], fun s k u h1 h2 h3 => ?_, hL, fun q hq hqn => ?_, hx'⟩
      · by_cases e : k = i
        · subst e
          have h2 := (List.getElem?_eq_some_iff.1 ht).2
          have h4 := (List.getElem?_eq_some_iff.1 hk').2
          have h3 := (List.getElem_inj hnod).1 (h4.trans h2.symm)
          subst h3
          rw [more_same]
          exact ⟨fun _ => Nat.lt_succ_self _, fun _ => rfl⟩
        · rw [more_other l e, hj t' k hk']
          have : t' ≠ t := fun e' => by subst e'; rw [hk'] at ht; cases ht; exact e rfl
          omega
      · have hsl := (List.getElem?_eq_some_iff.1 h2).1
        rw [List.length_append, List.length_singleton, hvl] at hsl
        by_cases e : k = i
        · subst e
          have h4 := (List.getElem?_eq_some_iff.1 h1).2; have h5 := (List.getElem?_eq_some_iff.1 ht).2
          have h6 := (List.getElem_inj hnod).1 (h4.trans h5.symm)
          subst h6
          rw [List.getElem?_append_right (by omega), hvl, Nat.sub_self] at h2
          simp at h2
          subst h2
          unfold putD
          rw [if_pos h3]
          exact eval_put_same' _ _ _ (by rw [so.size]; exact hsz _ hi h3)
        · have hne : s ≠ t := fun e' => by subst e'; rw [h1] at ht; cases ht; exact e rfl
          rw [List.getElem?_append_left (by omega)] at h2
          rw [hoth k (hTn k (List.mem_of_getElem? h1)).1 e]
          exact hvs s k u h1 h2 h3
      · by_cases e : q = i
        · subst e
          exact ⟨w1, hL, Later.refl _, hRT _ hs _ _⟩
        · rw [more_other l e] at hq
          rw [hoth q hqn e]
          exact hk q hq hqn
    | false =>
      have hd := hD i hi hs
      cases hp : pure i with
      | true =>
        refine hpure l a w w1 i o _ ho hi hp hwait so hL hk fun v hr => ?_
        exact ⟨so.put (hos _ hi hd) v, hdn, j, w1, vals, hjm hs, hjb, hvl, hvp v hs, hL, hkn v w1 w1 (Later.refl _) (Later.refl _) (Later.refl _) hr hd, hx⟩
      | false =>
        have h0 : j = 0 := by
          rcases Nat.eq_zero_or_pos j with h | h
          · exact h
          · have hb : ts[0]? = some ts[0] := List.getElem?_eq_getElem (by omega)
            have := hpre l dn _ (List.mem_of_getElem? hb) ((hj 0 _ hb).2 h) i hi hp hs
            rw [hl] at this; cases this
        subst h0
        have hw := (hX0 _ _ _).1 hx
        subst hw
        have hv0 : vals = [] := List.eq_nil_of_length_eq_zero hvl
        subst hv0
        refine hstep l a w i o _ ho hi hp hs hwait so hL hk fun v w' hlw hr => ?_
        exact ⟨so.put (hos _ hi hd) v, hdn, 0, w', [], hjm hs, hjb, rfl, hvp v hs, hL.trans hlw, hkn v w' w' hlw hlw (Later.refl _) hr hd, (hX0 _ _ _).2 rfl⟩
  · intro l a w hall ⟨so, dn, j, w1, vals, hj, hjb, hvl, hvs, hL, hk, hx⟩
    rw [hn] at hall
    have hjl : j = ts.length := by
      rcases Nat.lt_or_ge j ts.length with h | h
      · have hb : ts[j]? = some ts[j] := List.getElem?_eq_getElem h
        have := (hj j _ hb).1 (hall _ (hTn _ (List.mem_of_getElem? hb)).1)
        omega
      · omega
    subst hjl
    exact hend a w1 w vals so hL (fun q _ hqn => hk q (hall q hqn) hqn) hvl hvs hx
  · exact ⟨SameOut.refl _ _, (fun i o _ h => by cases h), 0, { wx with drawn := wx.drawn + 1 }, [], (fun t i _ => ⟨(fun h => by cases h), fun h => by omega⟩), Nat.zero_le _, rfl, (fun s k v _ h => by simp at h), (Later.refl wx).drew, (fun k hk => by cases hk), (hX0 _ _ _).2 rfl⟩

theorem len_two {α : Type} {l : List α} (h : l.length = 2) : ∃ a b, l = [a, b] := by
  match l, h with
  | [a, b], _ => exact ⟨a, b, rfl⟩
theorem len_three {α : Type} {l : List α} (h : l.length = 3) : ∃ a b c, l = [a, b, c] := by
  match l, h with
  | [a, b, c], _ => exact ⟨a, b, c, rfl⟩

section
variable {ops : Array Oper} {Q : Exit → Act → World → Prop} {K : Act → World → Prop} {i : Nat} {dst : Option Tmp} {js : List Nat} {a : Act} {w : World}
theorem OpIs.call1 {f : FuncId} {k : Tmp} {t : TypeId} {v : Value} {Post : Ending → World → Prop} (h : OpIs ops i (.call { callee := .value (.func f), args := #[.tmp k], argTypes := #[t] }) dst js) (hf : ∀ args w, (callFunc f args).run Try.prog w = .ok (.enter f args) w)
    (he : a.eval (.tmp k) = v) (hc : Calls Try.prog f #[v] w Post) (hk : ∀ e w', Post e w' → ∃ u, e = .returned u ∧ K (a.put dst u) w') : wpOp Try.prog ops Q i K a w :=
  h.go fun o h1 h2 => by
    have hr : (execOp a.eval o).run Try.prog w = .ok (.enter f #[v]) w := by
      unfold execOp
      rw [h1]
      simp only [resolve, invoke, Sem.run_bind, List.map_toArray, List.map_cons, List.map_nil, he]
      go_simp
    unfold Oper.wp
    rw [hr]
    show Calls _ _ _ _ _
    refine hc.mono ?_
    intro e w' hp
    obtain ⟨u, rfl, hku⟩ := hk e w' hp
    dsimp only
    rw [h2]
    exact hku
theorem OpIs.call2 {f : FuncId} {k m : Tmp} {t s : TypeId} {v u : Value} {Post : Ending → World → Prop} (h : OpIs ops i (.call { callee := .value (.func f), args := #[.tmp k, .tmp m], argTypes := #[t, s] }) dst js) (hf : ∀ args w, (callFunc f args).run Try.prog w = .ok (.enter f args) w)
    (he : a.eval (.tmp k) = v) (he2 : a.eval (.tmp m) = u) (hc : Calls Try.prog f #[v, u] w Post) (hk : ∀ e w', Post e w' → ∃ r, e = .returned r ∧ K (a.put dst r) w') : wpOp Try.prog ops Q i K a w :=
  h.go fun o h1 h2 => by
    have hr : (execOp a.eval o).run Try.prog w = .ok (.enter f #[v, u]) w := by
      unfold execOp
      rw [h1]
      simp only [resolve, invoke, Sem.run_bind, List.map_toArray, List.map_cons, List.map_nil, he, he2]
      go_simp
    unfold Oper.wp
    rw [hr]
    show Calls _ _ _ _ _
    refine hc.mono ?_
    intro e w' hp
    obtain ⟨r, rfl, hku⟩ := hk e w' hp
    dsimp only
    rw [h2]
    exact hku
theorem OpIs.nilCk {k : Tmp} {b o : Nat} (h : OpIs ops i (.nilCheck (.tmp k)) dst js) (he : a.eval (.tmp k) = .pointer (some ⟨b, o, none⟩)) (hk : K (a.put dst (.pointer (some ⟨b, o, none⟩))) w) : wpOp Try.prog ops Q i K a w :=
  h.go fun op h1 h2 => by
    have hr : (execOp a.eval op).run Try.prog w = .ok (.value (.pointer (some ⟨b, o, none⟩))) w := by
      clear hk
      unfold execOp
      rw [h1]
      dsimp only
      rw [he]
      go_simp
    unfold Oper.wp
    rw [hr]
    show K _ _
    rw [h2]
    exact hk
end

end Go.Proofs.Ytknjkkdoeanhbaa
