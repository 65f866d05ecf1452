import Derived.Test.YtomboeiaajggoaaGreatPk4
import Derived.Test.YtomboeiaajggoaaGreatChecked
import Derived.OrdersHeld
import Derived.WalkKit
import Derived.Test.YtomboeiaajggoaaGreatPk1
import Derived.Deep.LoopGhost
import Derived.Deep.QuietTactic
import Derived.BigQuiet
import Derived.Lib.Hide
import Derived.Lib.SliceRun
import Derived.Test.YtomboeiaajggoaaGreatPk3

/-
  Patches as plain values: when they are right, in the other order, past others, and the group of the first one. Nothing of any program.
-/
namespace Go.Proofs.YtomboeiaajggoaaGreat
open Go.RowKit

/-- A patch. -/
structure Pa where
  id : Int
  note : ByteArray
  deps : List Int
  l : List Pr

/-- P7.1: numbers that may be, rising. -/
def risingI : List Int → Bool
  | [] => true
  | [_] => true
  | a :: b :: r => decide (a < b) && risingI (b :: r)
def rightN (p : Pa) : Bool :=
  decide (1 ≤ p.id ∧ p.id ≤ 1000000000) && rightB p.note && decide (p.deps.length ≤ 8) && decide (1 ≤ p.l.length ∧ p.l.length ≤ 24) &&
    p.deps.all (fun d => decide (1 ≤ d ∧ d ≤ 1000000000) && decide (d ≠ p.id)) && risingI p.deps && p.l.all rightP
def sameN (p q : Pa) : Bool := decide (p.id = q.id) && decide (p.note = q.note) && decide (p.deps = q.deps) && decide (p.l.length = q.l.length) && (p.l.zip q.l).all fun x => sameP x.1 x.2
/-- P7.2. -/
def swapN (p q : Pa) : Option (Pa × Pa) :=
  if rightN p = true ∧ rightN q = true ∧ p.id ≠ q.id ∧ q.id ∉ p.deps ∧ p.id ∉ q.deps then (swapS p.l q.l).map fun s => ({ q with l := s.1 }, { p with l := s.2 }) else none
/-- P7.3. -/
def pastN : List Pa → Pa → Option (Pa × List Pa)
  | [], q => some (q, [])
  | p :: l, q => (pastN l q).bind fun s => (swapN p s.1).map fun r => (r.1, r.2 :: s.2)
/-- P7.4: one round. -/
def groupStep (s : List Pa × List Pa) (p : Pa) : List Pa × List Pa :=
  match pastN s.1 p with
  | some r => (r.2, s.2 ++ [r.1])
  | none => (s.1 ++ [p], s.2)
def groupN : List Pa → List Pa × List Pa
  | [] => ([], [])
  | p :: l => l.foldl groupStep ([p], [])

theorem zip_same : ∀ {a b : List Pr}, a.length = b.length → ((a.zip b).all fun x => sameP x.1 x.2) = true → a = b
  | [], [], _, _ => rfl
  | [], _ :: _, h, _ => by simp at h
  | _ :: _, [], h, _ => by simp at h
  | x :: a, y :: b, h, k => by
    simp only [List.zip_cons_cons, List.all_cons, Bool.and_eq_true] at k
    rw [sameP_iff.1 k.1, zip_same (by simpa using h) k.2]
theorem sameN_iff {p q : Pa} : sameN p q = true ↔ p = q := by
  obtain ⟨i, n, d, l⟩ := p
  obtain ⟨i', n', d', l'⟩ := q
  simp only [sameN, Bool.and_eq_true, decide_eq_true_eq, Pa.mk.injEq]
  constructor
  · rintro ⟨⟨⟨⟨h1, h2⟩, h3⟩, h4⟩, h5⟩; exact ⟨h1, h2, h3, zip_same h4 h5⟩
  · rintro ⟨rfl, rfl, rfl, rfl⟩
    refine ⟨⟨⟨⟨rfl, rfl⟩, rfl⟩, rfl⟩, List.all_eq_true.2 fun x hx => ?_⟩
    have : ∀ {l : List Pr} {x : Pr × Pr}, x ∈ l.zip l → x.1 = x.2 := by
      intro l
      induction l with
      | nil => intro x h; simp at h
      | cons y l ih =>
        intro x h
        rcases List.mem_cons.1 h with rfl | h
        · rfl
        · exact ih h
    rw [this hx]; exact sameP_self _

section
variable {p q : Pr} {l m a b : List Pr}
theorem swap1_right {m' : List Pr} {p' : Pr} (hp : rightP p = true) (h : swap1 p m = some (m', p')) : m'.all rightP = true ∧ rightP p' = true := by
  induction m generalizing p m' with
  | nil => cases h; exact ⟨rfl, hp⟩
  | cons q m ih =>
    obtain ⟨q', p1, m1, p2, h1, h2, e⟩ := swap1_cons.1 h
    cases e
    obtain ⟨_, _, r1, r2⟩ := swap_right h1
    have := ih r2 h2
    exact ⟨by rw [List.all_cons, r1, this.1]; rfl, this.2⟩
theorem swapS_right (hl : l.all rightP = true) (hm : m.all rightP = true) (h : swapS l m = some (a, b)) : a.all rightP = true ∧ b.all rightP = true := by
  induction l generalizing a b with
  | nil => cases h; exact ⟨hm, rfl⟩
  | cons p l ih =>
    obtain ⟨m1, l', m2, p', h1, h2, e⟩ := swapS_cons.1 h
    cases e
    rw [List.all_cons, Bool.and_eq_true] at hl
    have k1 := ih hl.2 h1
    have k2 := swap1_right hl.1 h2
    exact ⟨k2.1, by rw [List.all_cons, k2.2, k1.2]; rfl⟩
end

section
variable {p q c d : Pa}
theorem rightN_row (h : rightN p = true) : p.l.all rightP = true := by
  simp only [rightN, Bool.and_eq_true] at h; exact h.2
theorem rightN_with {l : List Pr} (h : rightN p = true) (h1 : l.length = p.l.length) (h2 : l.all rightP = true) : rightN { p with l := l } = true := by
  simp only [rightN, Bool.and_eq_true] at h ⊢
  rw [h1]
  exact ⟨h.1, h2⟩
theorem swapN_parts (h : swapN p q = some (c, d)) : rightN p = true ∧ rightN q = true ∧ p.id ≠ q.id ∧ q.id ∉ p.deps ∧ p.id ∉ q.deps ∧ ∃ a b, swapS p.l q.l = some (a, b) ∧ c = { q with l := a } ∧ d = { p with l := b } := by
  unfold swapN at h
  split at h
  · rename_i hc
    obtain ⟨⟨a, b⟩, h1, h2⟩ := Option.map_eq_some_iff.1 h
    cases h2
    exact ⟨hc.1, hc.2.1, hc.2.2.1, hc.2.2.2.1, hc.2.2.2.2, a, b, h1, rfl, rfl⟩
  · cases h
/-- P7.5: swapped again, both are as they were. -/
theorem swapN_back (h : swapN p q = some (c, d)) : swapN c d = some (p, q) := by
  obtain ⟨hp, hq, h1, h2, h3, a, b, hs, rfl, rfl⟩ := swapN_parts h
  have hl := swapS_length hs
  have hr := swapS_right (rightN_row hp) (rightN_row hq) hs
  unfold swapN
  rw [if_pos ⟨rightN_with hq hl.1 hr.1, rightN_with hp hl.2 hr.2, fun e => h1 e.symm, h3, h2⟩]
  simp only [swapS_back hs, Option.map_some]
end

/-- The trees that patches make, one behind the other. -/
def runN (t : Tr) (l : List Pa) : Tr × Int := runS t (l.flatMap (·.l))

section
variable {t u v : Tr} {p q c d : Pa} {l m : List Pa}
theorem runN_cons : runN t (p :: l) = (u, 0) ↔ ∃ s, runS t p.l = (s, 0) ∧ runN s l = (u, 0) := by
  unfold runN; rw [List.flatMap_cons]; exact runS_append
theorem runN_append : runN t (l ++ m) = (u, 0) ↔ ∃ s, runN t l = (s, 0) ∧ runN s m = (u, 0) := by
  unfold runN; rw [List.flatMap_append]; exact runS_append
theorem runN_one : runN t [p] = runS t p.l := by simp [runN]
theorem runN_rising (ht : Rising t) (h : runN t l = (u, 0)) : Rising u := runS_rising ht h
theorem swapN_fits (ht : Rising t) (h1 : runS t p.l = (u, 0)) (h2 : runS u q.l = (v, 0)) (h : swapN p q = some (c, d)) : ∃ u', runS t c.l = (u', 0) ∧ runS u' d.l = (v, 0) := by
  obtain ⟨_, _, _, _, _, a, b, hs, rfl, rfl⟩ := swapN_parts h
  exact swapS_fits ht h1 h2 hs
theorem pastN_cons {r : Pa × List Pa} : pastN (p :: l) q = some r ↔ ∃ q' rest a b, pastN l q = some (q', rest) ∧ swapN p q' = some (a, b) ∧ r = (a, b :: rest) := by
  simp only [pastN]
  constructor
  · intro h
    obtain ⟨⟨q', rest⟩, h1, h⟩ := Option.bind_eq_some_iff.1 h
    obtain ⟨⟨a, b⟩, h2, h⟩ := Option.map_eq_some_iff.1 h
    exact ⟨q', rest, a, b, h1, h2, h.symm⟩
  · rintro ⟨q', rest, a, b, h1, h2, rfl⟩
    simp [h1, h2]
theorem pastN_length {rest : List Pa} (h : pastN l q = some (c, rest)) : rest.length = l.length := by
  induction l generalizing c rest with
  | nil => cases h; rfl
  | cons p l ih =>
    obtain ⟨q', rest', a, b, h1, _, e⟩ := pastN_cons.1 h
    cases e
    simp [ih h1]
/-- P7.5: brought ahead, it makes the same tree. -/
theorem pastN_fits {rest : List Pa} (ht : Rising t) (h1 : runN t l = (u, 0)) (h2 : runS u q.l = (v, 0)) (h : pastN l q = some (c, rest)) : ∃ u', runS t c.l = (u', 0) ∧ runN u' rest = (v, 0) := by
  induction l generalizing c rest t with
  | nil =>
    cases h
    simp only [runN, List.flatMap_nil, runS, Prod.mk.injEq, and_true] at h1
    subst h1
    exact ⟨v, h2, rfl⟩
  | cons p l ih =>
    obtain ⟨q', rest', a, b, g1, g2, e⟩ := pastN_cons.1 h
    cases e
    obtain ⟨s, k1, k2⟩ := runN_cons.1 h1
    obtain ⟨r, r1, r2⟩ := ih (runS_rising ht k1) k2 g1
    obtain ⟨w, w1, w2⟩ := swapN_fits ht k1 r1 g2
    exact ⟨w, w1, runN_cons.2 ⟨r, w2, r2⟩⟩
theorem groupStep_fits {s : List Pa × List Pa} (ht : Rising t) (h : runN t (s.2 ++ s.1 ++ [p]) = (u, 0)) : runN t ((groupStep s p).2 ++ (groupStep s p).1) = (u, 0) := by
  unfold groupStep
  cases hs : pastN s.1 p with
  | none => dsimp only; rw [← List.append_assoc]; exact h
  | some r =>
    obtain ⟨c, rest⟩ := r
    dsimp only
    rw [List.append_assoc] at h
    obtain ⟨x, x1, x2⟩ := runN_append.1 h
    obtain ⟨y, y1, y2⟩ := runN_append.1 x2
    rw [runN_one] at y2
    obtain ⟨z, z1, z2⟩ := pastN_fits (runN_rising ht x1) y1 y2 hs
    rw [List.append_assoc]
    exact runN_append.2 ⟨x, x1, runN_append.2 ⟨z, by rw [runN_one]; exact z1, z2⟩⟩
theorem groupFold_fits (ht : Rising t) (l : List Pa) (s : List Pa × List Pa) (h : runN t (s.2 ++ s.1 ++ l) = (u, 0)) : runN t ((l.foldl groupStep s).2 ++ (l.foldl groupStep s).1) = (u, 0) := by
  induction l generalizing s with
  | nil => simpa using h
  | cons p l ih =>
    refine ih _ ?_
    rw [show s.2 ++ s.1 ++ p :: l = (s.2 ++ s.1 ++ [p]) ++ l by simp] at h
    obtain ⟨x, x1, x2⟩ := runN_append.1 h
    exact runN_append.2 ⟨x, groupStep_fits ht x1, x2⟩
/-- P7.5: the rest, and the group behind it, make the same tree. -/
theorem groupN_fits (ht : Rising t) (h : runN t l = (u, 0)) : runN t ((groupN l).2 ++ (groupN l).1) = (u, 0) := by
  cases l with
  | nil => exact h
  | cons p l => exact groupFold_fits ht l ([p], []) (by simpa using h)
theorem groupStep_length (s : List Pa × List Pa) (p : Pa) : (groupStep s p).1.length + (groupStep s p).2.length = s.1.length + s.2.length + 1 := by
  unfold groupStep
  cases hs : pastN s.1 p with
  | none => simp only [List.length_append, List.length_singleton]; omega
  | some r =>
    obtain ⟨c, rest⟩ := r
    have := pastN_length hs
    simp only [List.length_append, List.length_singleton]
    omega
theorem groupN_length (l : List Pa) : (groupN l).1.length + (groupN l).2.length = l.length := by
  have key : ∀ (l : List Pa) (s : List Pa × List Pa), (l.foldl groupStep s).1.length + (l.foldl groupStep s).2.length = s.1.length + s.2.length + l.length := by
    intro l
    induction l with
    | nil => intro s; rfl
    | cons p l ih =>
      intro s
      rw [List.foldl_cons, ih, groupStep_length, List.length_cons]
      omega
  cases l with
  | nil => rfl
  | cons p l => rw [groupN, key]; simp only [List.length_cons, List.length_nil]; omega
end

end Go.Proofs.YtomboeiaajggoaaGreat

/-
  A region that draws its order, by what stands behind each set of its operations.
-/
namespace Go.Proofs.YtomboeiaajggoaaGreat
open Go.RowKit

/-- An operation more. -/
def more (l : Nat → Bool) (i : Nat) : Nat → Bool := fun j => if j = i then true else l j
theorem more_same (l : Nat → Bool) (i : Nat) : more l i i = true := by simp [more]
theorem more_other (l : Nat → Bool) {i j : Nat} (h : j ≠ i) : more l i j = l j := by simp [more, h]

/-- Each edge that binds goes to an operation ahead. -/
def goesBack (ops : Array Oper) : Bool := (List.range ops.size).all fun i => ((ops[i]?).map (·.after.all fun e => !Region.binds .any e || decide (e.on < i))).getD true
/-- How many are left. -/
def leftN (l : Nat → Bool) : Nat → Nat
  | 0 => 0
  | n + 1 => leftN l n + (if l n then 0 else 1)
theorem left_more (l : Nat → Bool) {i : Nat} : ∀ n, i < n → l i = false → leftN (more l i) n + 1 = leftN l n
  | 0, h, _ => absurd h (Nat.not_lt_zero _)
  | n + 1, h, hi => by
    unfold leftN
    by_cases e : i = n
    · subst e
      have : ∀ k, k ≤ i → leftN (more l i) k = leftN l k := fun k => by
        induction k with
        | zero => intro _; rfl
        | succ k ih => intro hk; unfold leftN; rw [ih (by omega), more_other l (by omega)]
      rw [this i (Nat.le_refl _), more_same, hi]
      simp
    · have := left_more l n (by omega) hi
      rw [more_other l (fun x => e x.symm)]
      omega
theorem left_zero (l : Nat → Bool) : ∀ n, leftN l n = 0 → ∀ i, i < n → l i = true
  | 0, _, i, h => absurd h (Nat.not_lt_zero _)
  | n + 1, h0, i, h => by
    unfold leftN at h0
    by_cases e : i = n
    · subst e
      cases hl : l i
      · rw [hl] at h0; simp at h0
      · rfl
    · exact left_zero l n (by omega) i (by omega)

theorem getD_in {L : Array Bool} {i : Nat} (h : i < L.size) (d : Bool) : L.getD i d = L[i] := by simp [Array.getD, h]
theorem getD_more {L : Array Bool} {i : Nat} (h : i < L.size) : (fun j => (L.setIfInBounds i true).getD j false) = more (fun j => L.getD j false) i := by
  funext j
  unfold more
  by_cases e : j = i
  · subst e
    simp [Array.getD, h]
  · rw [if_neg e]
    by_cases hj : j < L.size
    · simp [Array.getD, hj, Ne.symm e]
    · simp [Array.getD, hj]

theorem ready_parts {ops : Array Oper} {L : Array Bool} (hs : L.size = ops.size) {i : Nat} (h : i ∈ Region.ready .any ops L) : i < ops.size ∧ L.getD i false = false ∧ ∀ o, ops[i]? = some o → ∀ e ∈ o.after, Region.binds .any e = true → L.getD e.on false = true := by
  simp only [Region.ready, List.mem_filter, List.mem_range, Bool.and_eq_true, Bool.not_eq_true'] at h
  obtain ⟨h1, h2, h3⟩ := h
  rw [getD_in (by omega)] at h2
  refine ⟨h1, by rw [getD_in (by omega)]; exact h2, fun o ho e he hb => ?_⟩
  rw [ho] at h3
  simp only [Option.map_some, Option.getD_some, Array.all_eq_true, Bool.or_eq_true, Bool.not_eq_true'] at h3
  obtain ⟨k, hk, rfl⟩ := Array.getElem_of_mem he
  rcases h3 k hk with h | h
  · rw [hb] at h; cases h
  · exact h
theorem ready_none {ops : Array Oper} (hg : goesBack ops = true) {L : Array Bool} (hs : L.size = ops.size) (h : Region.ready .any ops L = []) : ∀ i, i < ops.size → L.getD i false = true := by
  intro i
  induction i using Nat.strongRecOn with
  | ind i ih =>
    intro hi
    cases hl : L.getD i false with
    | true => rfl
    | false =>
      exfalso
      have hm : i ∈ Region.ready .any ops L := by
        simp only [Region.ready, List.mem_filter, List.mem_range, Bool.and_eq_true, Bool.not_eq_true']
        refine ⟨hi, ?_, ?_⟩
        · rw [getD_in (by omega)] at hl ⊢; exact hl
        have h1 := List.all_eq_true.1 hg i (List.mem_range.2 hi)
        rw [Array.getElem?_eq_getElem hi] at h1 ⊢
        simp only [Option.map_some, Option.getD_some, Array.all_eq_true, Bool.or_eq_true, Bool.not_eq_true', decide_eq_true_eq] at h1 ⊢
        intro k hk
        rcases h1 k hk with h2 | h2
        · exact .inl h2
        · exact .inr (ih _ h2 (by omega))
      rw [h] at hm
      cases hm

/-- The region, in whatever order: what stands behind each set of its operations is kept by each that may come. -/
theorem region_inv {P : Program} {ops : Array Oper} {Q : Exit → Act → World → Prop} {id : Nat} {a : Act} {w : World} (hm : P.follows .mixedOrders = true) (hg : goesBack ops = true) (Inv : (Nat → Bool) → Act → World → Prop)
    (hstep : ∀ l a w i o, ops[i]? = some o → l i = false → (∀ e ∈ o.after, Region.binds .any e = true → l e.on = true) → Inv l a w → wpOp P ops Q i (fun a' w' => Inv (more l i) a' w') a w)
    (hend : ∀ l a w, (∀ i, i < ops.size → l i = true) → Inv l a w → Q .normal a w)
    (h0 : Inv (fun _ => false) a { w with drawn := w.drawn + 1 }) : (Code.region id ops true).wp P Q a w := by
  have key : ∀ fuel (L : Array Bool) a w, L.size = ops.size → leftN (fun j => L.getD j false) ops.size ≤ fuel → Inv (fun j => L.getD j false) a w → wpAny P .any ops Q fuel L a w := by
    intro fuel
    induction fuel with
    | zero =>
      intro L a w hs hf h
      have hall := left_zero _ _ (Nat.le_zero.1 hf)
      refine ⟨?_, hend _ _ _ hall h⟩
      cases hr : Region.ready .any ops L with
      | nil => rfl
      | cons i rs =>
        have hi := ready_parts hs (i := i) (by rw [hr]; exact List.mem_cons_self)
        have := hall i hi.1
        rw [hi.2.1] at this
        cases this
    | succ fuel ih =>
      intro L a w hs hf h
      refine ⟨fun hr => hend _ _ _ (ready_none hg hs hr) h, fun i hi => ?_⟩
      obtain ⟨h1, h2, h3⟩ := ready_parts hs hi
      refine wpOp_mono ?_ (hstep _ a w i ops[i] (Array.getElem?_eq_getElem h1) h2 (h3 _ (Array.getElem?_eq_getElem h1)) h)
      intro a' w' h'
      refine ih _ _ _ (by simpa using hs) ?_ ?_
      · rw [getD_more (by omega)]
        have := left_more (fun j => L.getD j false) ops.size h1 h2
        omega
      · rw [getD_more (by omega)]; exact h'
  refine wp_region_any hm (key _ _ _ _ (by simp) ?_ ?_)
  · have : ∀ n (l : Nat → Bool), leftN l n ≤ n := fun n l => by
      induction n with
      | zero => exact Nat.le_refl _
      | succ n ih => unfold leftN; split <;> omega
    exact this _ _
  · have e : (fun j => (Array.replicate ops.size false).getD j false) = fun _ => false := by
      funext j
      simp only [Array.getD]
      split <;> simp
    rw [e]
    exact h0

end Go.Proofs.YtomboeiaajggoaaGreat

/-
  What calls on rows of lines come to, in words: a row, a row and a flag, a bool; what comes in.
-/
namespace Go.Proofs.YtomboeiaajggoaaGreat
open Go.RowKit

/-- A slice of the call's that reads as these lines. -/
def IsRow (ss : List ByteArray) (w : World) (e : Ending) (w' : World) : Prop :=
  ∃ A, e = .returned (.slice A ss.length ss.length) ∧ Row w A ss.length ss ∧ w = w'

/-- A row, and true. -/
def GivesRow2 (ss : List ByteArray) (w : World) (e : Ending) (w' : World) : Prop :=
  ∃ A c, e = .returned (.tuple #[.slice A ss.length c, .bool true]) ∧ ss.length ≤ c ∧ Row w' A ss.length ss ∧ Later w w'

theorem getD_piece {l : List ByteArray} {k j n : Nat} (h : j < n) : ((l.drop k).take n).getD j ByteArray.empty = l.getD (k + j) ByteArray.empty := by
  simp [List.getD, h, List.getElem?_drop]

/-- Nothing, and false, or the row, and true: as the lines stand there or not. -/
def Spl (l : List ByteArray) (k : Int) (m : Nat) (old with_ : List ByteArray) (w : World) (e : Ending) (w' : World) : Prop :=
  (standsB l k old = false ∧ e = .returned (.tuple #[.slice none 0 0, .bool false]) ∧ Later w w') ∨ (standsB l k old = true ∧ GivesRow2 (spliced l k.toNat m with_) w e w')

/-- A row of new memory. -/
def GivesRow (ss : List ByteArray) (w : World) (e : Ending) (w' : World) : Prop :=
  ∃ A c, e = .returned (.slice A ss.length c) ∧ ss.length ≤ c ∧ Row w' A ss.length ss ∧ Later w w'

theorem wrap64_small {x : Int} (h0 : -9223372036854775808 ≤ x) (h1 : x ≤ 9223372036854775807) : wrap64 x = x := by
  unfold wrap64; omega

/-- A bool; if it is true, p holds; the world is as it was. -/
def Tells (p : Prop) (w : World) (e : Ending) (w' : World) : Prop := ∃ b : Bool, e = .returned (.bool b) ∧ (b = true → p) ∧ w = w'

/-- What is asked of a row that comes in: it reads as these lines, and it is no greater than a machine's memory. -/
structure Came (w : World) (A : Option Addr) (n c : Nat) (ss : List ByteArray) : Prop where
  row : Row w A n ss
  room : n ≤ c
  most : n ≤ 140737488355328
  size : ∀ s ∈ ss, s.size ≤ 140737488355328

theorem Came.later {w w' : World} {A : Option Addr} {n c : Nat} {ss : List ByteArray} (h : Came w A n c ss) (hl : Later w w') : Came w' A n c ss := ⟨h.row.later hl, h.room, h.most, h.size⟩

/-- A bool; nothing old has turned. -/
def Says (b : Bool) (w : World) (e : Ending) (w' : World) : Prop := e = .returned (.bool b) ∧ Later w w'

/-- A struct of two rows, laid in memory: its cells stay. -/
theorem box_stays (w : World) (u v : Value) (t : TypeId) : ∀ W, Later (w.alloc (.cells #[u, v] t)) W → W.cell? ⟨w.heap.size, 0, none⟩ = some u ∧ W.cell? ⟨w.heap.size, 1, none⟩ = some v := fun W hW =>
  ⟨hW.cell (by simp), hW.cell (by simp)⟩

theorem drew_n (w : World) (n : Nat) : Drew w (w.drewN n) := ⟨n, rfl⟩

end Go.Proofs.YtomboeiaajggoaaGreat

/-
  Rows of structures in memory, each of k cells: what a slice of them reads as, and one of the call's own that grows by append.
-/
namespace Go.Proofs.YtomboeiaajggoaaGreat
open Go.RowKit

theorem flat_at {α : Type} {k : Nat} : ∀ {css : List (List α)}, (∀ cs ∈ css, cs.length = k) → ∀ {j i : Nat} {cs : List α}, css[j]? = some cs → i < k → css.flatten[j * k + i]? = cs[i]?
  | [], _, _, _, _, h, _ => by simp at h
  | c :: css, hk, 0, i, cs, h, hi => by
    simp at h; subst h
    rw [Nat.zero_mul, Nat.zero_add, List.flatten_cons, List.getElem?_append_left (by rw [hk _ List.mem_cons_self]; exact hi)]
  | c :: css, hk, j + 1, i, cs, h, hi => by
    have hc := hk _ (List.mem_cons_self (a := c) (l := css))
    rw [List.flatten_cons, List.getElem?_append_right (by rw [hc, Nat.add_mul]; omega), hc, show (j + 1) * k + i - k = j * k + i from by rw [Nat.add_mul]; omega]
    exact flat_at (fun cs hcs => hk cs (List.mem_cons_of_mem _ hcs)) (by simpa using h) hi
theorem flat_length {α : Type} {k : Nat} : ∀ {css : List (List α)}, (∀ cs ∈ css, cs.length = k) → css.flatten.length = css.length * k
  | [], _ => by simp
  | c :: css, hk => by
    rw [List.flatten_cons, List.length_append, hk _ List.mem_cons_self, flat_length (fun cs hcs => hk cs (List.mem_cons_of_mem _ hcs)), List.length_cons, Nat.add_mul]; omega

/-- The slice at A of n elements, of k cells each, holds the cells css. -/
def RowK (k : Nat) (w : World) (A : Option Addr) (n : Nat) (css : List (List Value)) : Prop :=
  css.length = n ∧ (∀ cs ∈ css, cs.length = k) ∧ (0 < n → ∃ b o, A = some ⟨b, o, none⟩ ∧ ∀ (j i : Nat) cs v, css[j]? = some cs → cs[i]? = some v → w.cell? ⟨b, o + j * k + i, none⟩ = some v)

section
variable {k n : Nat} {w w' : World} {A : Option Addr} {css : List (List Value)}

theorem RowK.len (h : RowK k w A n css) : css.length = n := h.1
theorem RowK.none : RowK k w A 0 [] := ⟨rfl, (fun _ h => by cases h), fun h => absurd h (by omega)⟩
theorem RowK.later (h : RowK k w A n css) (hl : Later w w') : RowK k w' A n css :=
  ⟨h.1, h.2.1, fun hn => by
    obtain ⟨b, o, e, hc⟩ := h.2.2 hn
    exact ⟨b, o, e, fun j i cs v h1 h2 => hl.cell (hc j i cs v h1 h2)⟩⟩
/-- The place of an element, and its cells. -/
theorem RowK.get (h : RowK k w A n css) {j : Nat} (hj : j < n) : ∃ b o, A = some ⟨b, o, .none⟩ ∧ ∃ cs, css[j]? = some cs ∧ cs.length = k ∧ ∀ (i : Nat) v, cs[i]? = some v → w.cell? ⟨b, o + j * k + i, .none⟩ = some v := by
  obtain ⟨b, o, e, hc⟩ := h.2.2 (by omega)
  have hl : j < css.length := by rw [h.1]; exact hj
  exact ⟨b, o, e, css[j], List.getElem?_eq_getElem hl, h.2.1 _ (List.getElem_mem hl), fun i v hi => hc j i _ v (List.getElem?_eq_getElem hl) hi⟩
end

/-- The value v is a row of the call's own (what it made since w0) of k cells an element. -/
def OwnK (e : TypeId) (k : Nat) (w0 w : World) (v : Value) (css : List (List Value)) : Prop :=
  w.ownsRow w0.heap.size e k v css.length css.flatten ∧ (∀ cs ∈ css, cs.length = k) ∧ Later w0 w

section
variable {e : TypeId} {k : Nat} {w0 w : World} {v : Value} {css : List (List Value)}

theorem OwnK.later (h : OwnK e k w0 w v css) : Later w0 w := h.2.2
theorem OwnK.nil (h : Later w0 w) : OwnK e k w0 w (.slice none 0 0) [] := ⟨World.ownsRow_nil _ _ _ _, (fun _ h => by cases h), h⟩
theorem OwnK.alloc (h : OwnK e k w0 w v css) (o : Obj) : OwnK e k w0 (w.alloc o) v css := ⟨h.1.alloc o, h.2.1, h.2.2.alloc o⟩
theorem OwnK.drew (h : OwnK e k w0 w v css) : OwnK e k w0 w.drew v css := ⟨h.1, h.2.1, h.2.2.drew⟩
theorem OwnK.drewN (h : OwnK e k w0 w v css) (n : Nat) : OwnK e k w0 (w.drewN n) v css := ⟨h.1, h.2.1, h.2.2.drewN n⟩
/-- Nothing that is there has turned since. -/
theorem OwnK.on {w' : World} (h : OwnK e k w0 w v css) (hl : Later w w') : OwnK e k w0 w' v css :=
  ⟨h.1.kept (row := none) ⟨hl.os, hl.tape, hl.output, hl.size, fun i hi _ => hl.block i hi⟩ (by cases v.ownBlock <;> simp), h.2.1, h.2.2.trans hl⟩
theorem OwnK.row (h : OwnK e k w0 w v css) : ∃ A c, v = .slice A css.length c ∧ css.length ≤ c ∧ RowK k w A css.length css := by
  rcases h.1.2 with ⟨hv, h0⟩ | ⟨g, cap, cur, hv, hg, hh, hnc, hm, hs, ht⟩
  · have : css = [] := List.eq_nil_of_length_eq_zero h0
    subst this
    exact ⟨none, 0, hv, Nat.le_refl _, RowK.none⟩
  · refine ⟨some ⟨g, 0, none⟩, cap, hv, hnc, rfl, h.2.1, fun _ => ⟨g, 0, rfl, fun j i cs u hj hi => ?_⟩⟩
    have hik : i < k := by rw [← h.2.1 cs (List.mem_of_getElem? hj)]; exact (List.getElem?_eq_some_iff.1 hi).1
    have hc := h.1.cells (g := g) (by rw [hv]; rfl) (j * k + i) u (by rw [flat_at h.2.1 hj hik]; exact hi)
    rw [plain_add] at hc
    rw [Nat.zero_add] at hc ⊢
    exact hc
theorem OwnK.block (h : OwnK e k w0 w v css) : ∀ b, v.ownBlock = some b → w0.heap.size ≤ b := fun b hb => (h.1.lt b hb).1
end

section
variable {P : Program} {w0 w : World} {e : TypeId} {k : Nat} {v : Value} {olds : List (List Value)}

theorem run_append_rowK (t ty : TypeId) (i : TypeInfo) (z : Value) (bytes : Nat) (ht : P.underlying t = some (.slice e)) (hi : P.info? e = some i) (hz : i.zero = some z) (hsize : i.size = k) (hby : i.bytes = bytes) (hzs : z.cells.size = k) (hk : 0 < k)
    (hown : OwnK e k w0 w v olds) (A : Option Addr) (m c : Nat) (news : List (List Value)) (hr : RowK k w A m news) (hone : ∀ cs ∈ news, ∀ u ∈ cs, u.oneCell' = true) (hb : olds.length + m ≤ 1000000) (hbb : bytes ≤ 1000) :
    ∃ v' w', (Builtin.append_ #[t, t] ty #[v, .slice A m c]).run P w = .ok v' w' ∧ OwnK e k w0 w' v' (olds ++ news) ∧ w.grownBy w' v.ownBlock := by
  have hl := hr.len
  have hbig : (olds.length + m) * bytes ≤ 140737488355328 := Nat.le_trans (Nat.mul_le_mul hb hbb) (by omega)
  rcases Nat.eq_zero_or_pos m with h0 | h0
  · subst h0
    have hn : news = [] := List.eq_nil_of_length_eq_zero hl
    subst hn
    rw [List.append_nil]
    rcases A with _ | ad
    · refine ⟨v, w, ?_, hown, ⟨rfl, rfl, rfl, Nat.le_refl _, fun _ _ _ => rfl⟩⟩
      rcases hown.1.2 with ⟨rfl, _⟩ | ⟨g, cap, cur, rfl, _, _, hnc, _⟩
      · simp [Builtin.append_, run_underlying ht, sizeOf, typeInfo, hi, Builtin.lenOf, Builtin.firstCells]
      · simp [Builtin.append_, run_underlying ht, sizeOf, typeInfo, hi, Builtin.lenOf, Builtin.firstCells, hnc, storeCells]
    · obtain ⟨v', w', hrun, h2, h3, _, _⟩ := run_append_own_at (P := P) w w0.heap.size t ty e i z k bytes ht hi hz hsize hby hzs hk v olds.length olds.flatten hown.1 ad 0 c [] (by simp)
        (fun j u hu => by simp at hu) (fun u hu => by simp at hu) (by simp only [maxLen]; omega) hbig hown.2.2.size
      refine ⟨v', w', hrun, ⟨by simpa using h2, hown.2.1, Below.grown hown.2.2 h3 hown.2.2.size hown.block⟩, h3⟩
  · obtain ⟨b, o, rfl, hc⟩ := hr.2.2 h0
    obtain ⟨v', w', hrun, h2, h3, _, _⟩ := run_append_own_at (P := P) w w0.heap.size t ty e i z k bytes ht hi hz hsize hby hzs hk v olds.length olds.flatten hown.1 ⟨b, o, none⟩ m c news.flatten
      (by rw [flat_length hr.2.1, hl])
      (fun j u hu => by
        have hjl := (List.getElem?_eq_some_iff.1 hu).1
        rw [flat_length hr.2.1] at hjl
        have hq : j / k < news.length := (Nat.div_lt_iff_lt_mul hk).2 hjl
        have hjk : j / k * k + j % k = j := by rw [Nat.mul_comm]; exact Nat.div_add_mod j k
        have hat := flat_at (i := j % k) hr.2.1 (List.getElem?_eq_getElem hq) (Nat.mod_lt _ hk)
        rw [hjk, hu] at hat
        have := hc (j / k) (j % k) _ u (List.getElem?_eq_getElem hq) hat.symm
        rw [plain_add, ← hjk, ← Nat.add_assoc]
        exact this)
      (fun u hu => by
        obtain ⟨cs, hcs, hu⟩ := List.mem_flatten.1 hu
        exact hone cs hcs u hu)
      (by simp only [maxLen]; omega) hbig hown.2.2.size
    refine ⟨v', w', hrun, ⟨?_, fun cs hcs => ?_, Below.grown hown.2.2 h3 hown.2.2.size hown.block⟩, h3⟩
    · rw [List.length_append, List.flatten_append, hl]
      exact h2
    · rcases List.mem_append.1 hcs with h | h
      · exact hown.2.1 cs h
      · exact hr.2.1 cs h

/-- append onto a row of the call's own, whatever the source. -/
theorem wpList_append_rowK {ops : Array Oper} {rest : List Oper} {o : Oper} {a : Act} {Q : Exit → Act → World → Prop} (hgd : o.guard = none) (s x : Operand) (t : TypeId)
    (ho : o.op = .call { callee := .builtin .append, args := #[s, x], argTypes := #[t, t] }) (i : TypeInfo) (z : Value) (bytes : Nat)
    (ht : P.underlying t = some (.slice e)) (hi : P.info? e = some i) (hz : i.zero = some z) (hsize : i.size = k) (hby : i.bytes = bytes) (hzs : z.cells.size = k) (hk : 0 < k)
    (hown : OwnK e k w0 w v olds) (hs : a.eval s = v) (A : Option Addr) (m c : Nat) (news : List (List Value)) (hx : a.eval x = .slice A m c) (hr : RowK k w A m news) (hone : ∀ cs ∈ news, ∀ u ∈ cs, u.oneCell' = true) (hb : olds.length + m ≤ 1000000) (hbb : bytes ≤ 1000)
    (h : ∀ v' w', OwnK e k w0 w' v' (olds ++ news) → w.grownBy w' v.ownBlock → wpList P ops Q rest (a.put o.dst v') w') : wpList P ops Q (o :: rest) a w := by
  refine wpList_plain hgd fun K hK => ?_
  obtain ⟨v', w', hrun, h2, h3⟩ := run_append_rowK (P := P) t o.type i z bytes ht hi hz hsize hby hzs hk hown A m c news hr hone hb hbb
  unfold Oper.wp execOp
  simp only [ho, resolve, invoke, builtin, Sem.run_bind, Sem.run_pure, Result.andThen_ok, List.map_toArray, List.map_cons, List.map_nil, hs, hx, hrun]
  exact hK _ _ (h v' w' h2 h3)
end

/-- A new row of one element. -/
theorem RowK.one (w : World) (cs : List Value) (t : TypeId) : RowK cs.length (w.alloc (.cells cs.toArray t)) (some ⟨w.heap.size, 0, .none⟩) 1 [cs] := by
  refine ⟨rfl, fun c hc => by simp at hc; rw [hc], fun _ => ⟨_, _, rfl, fun j i c v hj hi => ?_⟩⟩
  match j, hj with
  | 0, hj =>
    simp at hj; subst hj
    have hb : (w.alloc (.cells cs.toArray t)).heap[w.heap.size]? = some (.cells cs.toArray t (0, 0)) := heap_alloc_new w _
    simp only [World.cell?, hb, Nat.zero_mul, Nat.zero_add]
    simpa using hi

end Go.Proofs.YtomboeiaajggoaaGreat

/-
  The element type of a row of lines.
-/
namespace Go.Proofs.YtomboeiaajggoaaGreat
open Go.RowKit

theorem Tryz.textInfo : (Tryz.prog.info? 9).map (fun i => (i.zero, i.size, i.bytes)) = some (some (.string ByteArray.empty), 1, 16) := by kernel_rfl

end Go.Proofs.YtomboeiaajggoaaGreat

/-
  What slices.Clone at rows of texts comes to, as a call.
-/
namespace Go.Proofs.YtomboeiaajggoaaGreat
open Go.RowKit

theorem Own.on {e : TypeId} {w0 w w' : World} {v : Value} {ss : List ByteArray} (h : Own e w0 w v ss) (hl : Later w w') : Own e w0 w' v ss :=
  ⟨h.1.kept (row := none) ⟨hl.os, hl.tape, hl.output, hl.size, fun i hi _ => hl.block i hi⟩ (by cases v.ownBlock <;> simp), h.2.trans hl⟩
theorem Own.base {e : TypeId} {w0 w1 w : World} {v : Value} {ss : List ByteArray} (h : Own e w1 w v ss) (hl : Later w0 w1) : Own e w0 w v ss :=
  ⟨by
    obtain ⟨hx, h1 | ⟨g, cap, cur, hv, hg, h2⟩⟩ := h.1
    · exact ⟨hx, .inl h1⟩
    · exact ⟨hx, .inr ⟨g, cap, cur, hv, Nat.le_trans hl.le hg, h2⟩⟩, hl.trans h.2⟩

/-- A row of new memory, the call's own. -/
def GivesOwn (ss : List ByteArray) (w : World) (e : Ending) (w' : World) : Prop := ∃ v, e = .returned v ∧ Own 9 w w' v ss

set_option maxHeartbeats 400000 in
theorem clone_any (A : Option Addr) (n c : Nat) (l : List ByteArray) (w : World) (hx : Row w A n l) (hn : n ≤ 65536) :
    Calls Tryz.prog 45 #[.slice A n c] w (GivesOwn l w) := by
  have q29 : ∀ (w : World) (a : Option Addr) (n c n' c' : Nat), (binOp .eql 67 (.slice a n c) (.slice none n' c')).run Tryz.prog w = .ok (.bool a.isNone) w := fun w a n c n' c' => Lib.run_eql_slice_nil w _ _ a n c n' c' Tryz.underlying67
  cases A with
  | none =>
    have e : l = [] := by
      rcases Nat.eq_zero_or_pos n with h | h
      · exact List.eq_nil_of_length_eq_zero (hx.len.trans h)
      · obtain ⟨_, _, e, _⟩ := hx.2 h; cases e
    subst e
    clear hx
    go_enter Tryz.func45, Tryz.ntmps45
    go_wp2
    go_ret
    exact ⟨_, rfl, Own.nil (Later.refl w)⟩
  | some a =>
    have HX := Lib.hid hx; clear hx
    obtain ⟨i0, hi, hz0, hz1, hz2⟩ := info_parts Tryz.textInfo
    go_enter Tryz.func45, Tryz.ntmps45
    go_wp2_with (at_builtin; refine wpList_append_row (w0 := w) rfl _ _ 67 rfl i0 Tryz.underlying67 hi hz0 hz1 hz2 (Own.empty (Later.refl w)) rfl _ _ _ _ rfl (HX.out.later ((Later.refl w).alloc _)) (by simp; omega) ?_; intro v2 w2 hown2 hg2; have HO2 := Lib.hid hown2; clear hown2 hg2)
    go_ret
    exact ⟨_, rfl, by simpa using HO2.out⟩

end Go.Proofs.YtomboeiaajggoaaGreat

/-
  Prims in memory: a structure of six cells, two of them rows of lines.
-/
namespace Go.Proofs.YtomboeiaajggoaaGreat
open Go.RowKit

theorem list_ne {s : ByteArray} (h : s ≠ ByteArray.empty) : ¬ s.toList = [] := by
  rw [ByteArray.toList_eq]
  intro e
  exact h (ByteArray.ext (Array.ext' e))

/-- A prim, and where its rows stand. -/
structure PrC where
  v : Pr
  A : Option Addr
  n : Nat
  c : Nat
  B : Option Addr
  m : Nat
  d : Nat

/-- The cells of a prim, and its value. -/
def prL (x : PrC) : List Value := [.int .i64 x.v.kind, .string x.v.name, .string x.v.to, .int .i64 x.v.place, .slice x.A x.n x.c, .slice x.B x.m x.d]
def prV (x : PrC) : Value := .agg #[.int .i64 x.v.kind, .string x.v.name, .string x.v.to, .int .i64 x.v.place, .slice x.A x.n x.c, .slice x.B x.m x.d]

/-- The rows stand there, and nothing is too great. -/
structure PrOk (w : World) (x : PrC) : Prop where
  old : Row w x.A x.n x.v.old
  new : Row w x.B x.m x.v.new
  oroom : x.n ≤ x.c
  nroom : x.m ≤ x.d
  omost : x.n ≤ 65536
  nmost : x.m ≤ 65536
  name : x.v.name.size ≤ maxLen
  to : x.v.to.size ≤ maxLen
  lo : -9223372036854775808 ≤ x.v.place
  hi : x.v.place ≤ 9223372036854775807
  olds : ∀ s ∈ x.v.old, s.size ≤ maxLen
  news : ∀ s ∈ x.v.new, s.size ≤ maxLen
theorem PrOk.later {w w' : World} {x : PrC} (h : PrOk w x) (hl : Later w w') : PrOk w' x :=
  ⟨h.old.later hl, h.new.later hl, h.oroom, h.nroom, h.omost, h.nmost, h.name, h.to, h.lo, h.hi, h.olds, h.news⟩

/-- A prim that stands in new memory: its rows are of its own, and apart. -/
structure IsPr (p : Pr) (w w' : World) (u v : Value) : Prop where
  old : Own 9 w w' u p.old
  new : Own 9 w w' v p.new
  apart : ∀ b, u.ownBlock = some b → v.ownBlock ≠ some b
def GivesPr (p : Pr) (w : World) (e : Ending) (w' : World) : Prop :=
  ∃ u v, e = .returned (.agg #[.int .i64 p.kind, .string p.name, .string p.to, .int .i64 p.place, u, v]) ∧ IsPr p w w' u v

theorem IsPr.swap {p q : Pr} {w w' : World} {u v : Value} (h : IsPr p w w' u v) (h1 : q.old = p.new) (h2 : q.new = p.old) : IsPr q w w' v u :=
  ⟨by rw [h1]; exact h.new, by rw [h2]; exact h.old, fun b h3 h4 => h.apart b h4 h3⟩
theorem IsPr.as {p q : Pr} {w w' : World} {u v : Value} (h : IsPr p w w' u v) (h1 : q.old = p.old) (h2 : q.new = p.new) : IsPr q w w' u v :=
  ⟨by rw [h1]; exact h.old, by rw [h2]; exact h.new, h.apart⟩
theorem IsPr.later {p : Pr} {w w' : World} {u v : Value} (h : IsPr p w w' u v) : Later w w' := h.old.later
theorem IsPr.on {p : Pr} {w w' w'' : World} {u v : Value} (h : IsPr p w w' u v) (hl : Later w' w'') : IsPr p w w'' u v := ⟨h.old.on hl, h.new.on hl, h.apart⟩
theorem IsPr.base {p : Pr} {w0 w w' : World} {u v : Value} (h : IsPr p w w' u v) (hl : Later w0 w) : IsPr p w0 w' u v := ⟨h.old.base hl, h.new.base hl, h.apart⟩
theorem Own.lt {e : TypeId} {w0 w : World} {v : Value} {ss : List ByteArray} (h : Own e w0 w v ss) {b : Nat} (hb : v.ownBlock = some b) : b < w.heap.size := (h.1.lt b hb).2
theorem IsPr.of {p : Pr} {w w1 w' : World} {u v : Value} (h1 : Own 9 w w1 u p.old) (h2 : Own 9 w1 w' v p.new) : IsPr p w w' u v :=
  ⟨h1.on h2.later, h2.base h1.later, fun b hu hv => by
    have a1 := h1.lt hu
    have a2 := h2.block b hv
    omega⟩
/-- The value of such a prim, and that its rows stand there. -/
theorem IsPr.ok {p : Pr} {w w' : World} {u v : Value} (h : IsPr p w w' u v) (h1 : p.old.length ≤ 65536) (h2 : p.new.length ≤ 65536) (h3 : p.name.size ≤ maxLen) (h4 : p.to.size ≤ maxLen) (h5 : -9223372036854775808 ≤ p.place) (h6 : p.place ≤ 9223372036854775807)
    (h7 : ∀ s ∈ p.old, s.size ≤ maxLen) (h8 : ∀ s ∈ p.new, s.size ≤ maxLen) : ∃ x : PrC, x.v = p ∧ .agg #[.int .i64 p.kind, .string p.name, .string p.to, .int .i64 p.place, u, v] = prV x ∧ PrOk w' x := by
  obtain ⟨A, c, rfl, hc, hr⟩ := h.old.row
  obtain ⟨B, d, rfl, hd, hs⟩ := h.new.row
  exact ⟨⟨p, A, _, c, B, _, d⟩, rfl, rfl, hr, hs, hc, hd, h1, h2, h3, h4, h5, h6, h7, h8⟩

/-- What a prim weighs. -/
def weightP (p : Pr) : Nat := p.name.size + p.to.size + p.old.length + p.new.length + (p.old.map ByteArray.size).sum + (p.new.map ByteArray.size).sum
def weightPs (xs : List PrC) : Nat := (xs.map fun x => weightP x.v).sum

theorem sizesP_mem {l : List ByteArray} {s : ByteArray} (h : s ∈ l) : s.size ≤ (l.map ByteArray.size).sum := by
  induction l with
  | nil => cases h
  | cons x l ih =>
    simp only [List.map_cons, List.sum_cons]
    rcases List.mem_cons.1 h with rfl | h
    · omega
    · have := ih h; omega

/-- What is asked of a prim that comes in. -/
structure CameP (w : World) (x : PrC) : Prop where
  old : Row w x.A x.n x.v.old
  new : Row w x.B x.m x.v.new
  oroom : x.n ≤ x.c
  nroom : x.m ≤ x.d
  lo : -9223372036854775808 ≤ x.v.place
  hi : x.v.place ≤ 9223372036854775807
  weigh : weightP x.v ≤ 1048576
theorem CameP.later {w w' : World} {x : PrC} (h : CameP w x) (hl : Later w w') : CameP w' x := ⟨h.old.later hl, h.new.later hl, h.oroom, h.nroom, h.lo, h.hi, h.weigh⟩
theorem CameP.ok {w : World} {x : PrC} (h : CameP w x) (hw : weightP x.v ≤ 60000) : PrOk w x := by
  have h1 := h.old.len
  have h2 := h.new.len
  unfold weightP at hw
  refine ⟨h.old, h.new, h.oroom, h.nroom, by omega, by omega, by simp only [maxLen]; omega, by simp only [maxLen]; omega, h.lo, h.hi, fun s hs => ?_, fun s hs => ?_⟩
  · have := sizesP_mem hs; simp only [maxLen]; omega
  · have := sizesP_mem hs; simp only [maxLen]; omega

/-- The slice reads as these prims. -/
structure Prims (w : World) (A : Option Addr) (n : Nat) (xs : List PrC) : Prop where
  row : RowK 6 w A n (xs.map prL)
  each : ∀ x ∈ xs, CameP w x
section
variable {w w' : World} {A : Option Addr} {n : Nat} {xs : List PrC}
theorem Prims.len (h : Prims w A n xs) : xs.length = n := by have := h.row.len; simpa using this
theorem Prims.later (h : Prims w A n xs) (hl : Later w w') : Prims w' A n xs := ⟨h.row.later hl, fun x hx => (h.each x hx).later hl⟩
theorem Prims.get (h : Prims w A n xs) {j : Nat} (hj : j < n) : ∃ b o x, A = some ⟨b, o, .none⟩ ∧ xs[j]? = some x ∧ w.cell? ⟨b, o + j * 6, .none⟩ = some (.int .i64 x.v.kind) ∧ w.cell? ⟨b, o + j * 6 + 1, .none⟩ = some (.string x.v.name) ∧ w.cell? ⟨b, o + j * 6 + 2, .none⟩ = some (.string x.v.to) ∧ w.cell? ⟨b, o + j * 6 + 3, .none⟩ = some (.int .i64 x.v.place) ∧ w.cell? ⟨b, o + j * 6 + 4, .none⟩ = some (.slice x.A x.n x.c) ∧ w.cell? ⟨b, o + j * 6 + 5, .none⟩ = some (.slice x.B x.m x.d) := by
  obtain ⟨b, o, e, cs, hcs, _, hc⟩ := h.row.get hj
  have hl : j < xs.length := by rw [h.len]; exact hj
  have hz := List.getElem?_eq_getElem hl
  simp only [List.getElem?_map, hz, Option.map_some, Option.some.injEq] at hcs
  subst hcs
  exact ⟨b, o, xs[j], e, hz, hc 0 _ rfl, hc 1 _ rfl, hc 2 _ rfl, hc 3 _ rfl, hc 4 _ rfl, hc 5 _ rfl⟩
end
theorem weightPs_take {xs : List PrC} {k : Nat} {x : PrC} (h : xs[k]? = some x) : weightPs (xs.take (k + 1)) = weightPs (xs.take k) + weightP x.v := by
  obtain ⟨hk, rfl⟩ := List.getElem?_eq_some_iff.1 h
  unfold weightPs
  rw [List.take_succ_eq_append_getElem hk, List.map_append, List.sum_append]
  simp
theorem weightPs_take_le (xs : List PrC) (k : Nat) : weightPs (xs.take k) ≤ weightPs xs := by
  have : weightPs xs = weightPs (xs.take k) + weightPs (xs.drop k) := by
    unfold weightPs
    rw [← List.sum_append, ← List.map_append, List.take_append_drop]
  omega
theorem weightPs_mem {xs : List PrC} {x : PrC} (h : x ∈ xs) : weightP x.v ≤ weightPs xs := by
  induction xs with
  | nil => cases h
  | cons y xs ih =>
    simp only [weightPs, List.map_cons, List.sum_cons] at ih ⊢
    rcases List.mem_cons.1 h with rfl | h
    · omega
    · have := ih h; omega

end Go.Proofs.YtomboeiaajggoaaGreat
