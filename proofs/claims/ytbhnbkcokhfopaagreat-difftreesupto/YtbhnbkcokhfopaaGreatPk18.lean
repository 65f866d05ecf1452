import Derived.Test.YtbhnbkcokhfopaaGreatPk16
import Derived.Test.YtbhnbkcokhfopaaGreatPk17
import Derived.Deep.LoopGhost
import Derived.Deep.QuietTactic
import Derived.BigQuiet
import Derived.Lib.Hide
import Derived.Test.YtbhnbkcokhfopaaGreatPk8
import Derived.Test.YtbhnbkcokhfopaaGreatPk10
import Derived.Test.YtbhnbkcokhfopaaGreatPk4

/-
  What the law DiffTurned comes to, as a call.
-/
namespace Go.Proofs.YtbhnbkcokhfopaaGreat
open Go.RowKit Go.Maps

theorem trees_length {a b : Tr} (la : longT a = false) (lb : longT b = false) (na : a.length ≤ 80) (nb : b.length ≤ 80) : (treesP a b).length ≤ 48480 := by
  have h1 := gone_length b a; have h2 := come_length a b; have h3 := stay_length b a
  rw [trees_is la lb, List.length_append, List.length_append]
  omega
theorem long_snoc (l : Tr) (f : ByteArray × List ByteArray) : longT (l ++ [f]) = (longT l || decide (200 < f.2.length)) := by simp [longT]
theorem Sized.mild {k h : Nat} {t : Tr} (hs : Sized k h t) : MildT t := fun f hf => ⟨Nat.le_trans (named_size (hs.each f hf).1).2 (by decide), fun s hm => Nat.le_trans (right_size (hs.each f hf).2.1 hm) (by decide)⟩
theorem lines_le {t : Tr} (h : longT t = false) (hn : t.length ≤ 80) : linesTr t ≤ 1000000 := by
  have key : ∀ l : Tr, (∀ f ∈ l, f.2.length ≤ 200) → linesTr l ≤ l.length * 200 := by
    intro l
    induction l with
    | nil => intro _; simp [linesTr]
    | cons f l ih =>
      intro hf
      have h1 := ih (fun g hg => hf g (List.mem_cons_of_mem _ hg))
      have h2 := hf f List.mem_cons_self
      simp only [linesTr, List.map_cons, List.sum_cons, List.length_cons] at *
      omega
  have := key t (fun f hf => long_no h hf)
  omega

set_option maxRecDepth 100000 in
set_option maxHeartbeats 800000 in
theorem long6_any (v : Value) (t : Tr) (w : World) (ht : RefAt w v t) (hn : t.length ≤ 65536) (hl : ∀ f ∈ t, f.2.length ≤ 65536) :
    Calls Tryz.prog 7 #[v] w fun e w' => ∃ q : Nat, e = .returned (.int .i64 (q : Nat)) ∧ (q ≤ 200 ↔ longT t = false) ∧ q ≤ 65536 ∧ Later w w' := by
  obtain ⟨A, n, c, z, rfl, hc, hr, rfl⟩ := ht
  have hzn := hr.len
  rw [mapT_length] at hn
  have HR := Lib.hid hr; have HL := Lib.hid hl
  clear hr hl
  go_enter Tryz.func7, Tryz.ntmps7
  go_wp2
  go_loopg [3, 8] (n + 1) (fun g s3 s8 wr => ∃ k q : Nat, k ≤ n ∧ n - k ≤ g ∧ s8 = .int .i64 (k : Nat) ∧ s3 = .int .i64 (q : Nat) ∧ q ≤ 65536 ∧ Hid (q ≤ 200 ↔ longT (mapT (·.2) (z.take k)) = false) ∧ Hid (Later w wr))
  case atStart => exact ⟨0, 0, Nat.zero_le _, by omega, rfl, rfl, by omega, by simp [Hid, longT, mapT], Later.refl w⟩
  case round =>
    obtain ⟨k, q, hk, hg, rfl, rfl, hq, hQ, hwr⟩ := hrel
    by_cases hlt : k < n
    · obtain ⟨b, o, f, rfl, hz, c0, c1⟩ := (HR.out.later hwr.out).get hlt
      obtain ⟨Af, nf, cf, hvf, hcf, hrf⟩ := (HR.out.later hwr.out).reads f (List.mem_of_getElem? hz)
      have hfl : f.2.2.length ≤ 65536 := HL.out (f.1, f.2.2) (by simp only [mapT, List.mem_map]; exact ⟨f, List.mem_of_getElem? hz, rfl⟩)
      have hfn := hrf.len
      rw [hvf] at c1
      have hsn : longT (mapT (·.2) (z.take (k + 1))) = (longT (mapT (·.2) (z.take k)) || decide (200 < nf)) := by
        rw [take_snoc hz, show mapT (·.2) (z.take k ++ [f]) = mapT (·.2) (z.take k) ++ [(f.1, f.2.2)] from by simp [mapT], long_snoc, ← hfn]
      have HQ2 : Hid (max q nf ≤ 200 ↔ longT (mapT (·.2) (z.take (k + 1))) = false) := by
        show _ ↔ _
        rw [hsn, Bool.or_eq_false_iff, ← hQ.out, decide_eq_false_iff_not]
        omega
      rw [hfn] at hfl
      have HLB : Hid (Later wr (wr.alloc (.cells #[.string f.1, .slice Af nf cf] 62))) := (Later.refl wr).alloc _
      clear hz hvf hrf hsn hfn
      go_wp2
      go_roundg (n - (k + 1))
      case measure => omega
      case rel => exact ⟨k + 1, max q nf, by omega, Nat.le_refl _, by go_num, by first | rfl | (congr 1; omega) | (congr 1; split <;> omega), by omega, HQ2, hwr.out.trans HLB.out⟩
    · have HE : Hid (q ≤ 200 ↔ longT (mapT (·.2) z) = false) := by
        have := hQ.out
        rw [List.take_of_length_le (by omega)] at this
        exact this
      go_wp2
      go_ret
      exact ⟨q, rfl, HE.out, hq, hwr.out⟩

end Go.Proofs.YtbhnbkcokhfopaaGreat

/-
  Rows of prims as plain lists: when they are the same, how many lines they have, the trees that they make. Nothing of any program.
-/
namespace Go.Proofs.YtbhnbkcokhfopaaGreat
open Go.RowKit

/-- Are two rows the same? -/
def sameS : List Pr → List Pr → Bool
  | [], [] => true
  | p :: a, q :: b => sameP p q && sameS a b
  | _, _ => false
theorem sameS_iff : ∀ {a b : List Pr}, sameS a b = true ↔ a = b
  | [], [] => by simp [sameS]
  | [], q :: b => by simp [sameS]
  | p :: a, [] => by simp [sameS]
  | p :: a, q :: b => by simp only [sameS, Bool.and_eq_true, sameP_iff, sameS_iff (a := a) (b := b), List.cons.injEq]
theorem sameS_self (a : List Pr) : sameS a a = true := sameS_iff.2 rfl
theorem sameS_length {a b : List Pr} (h : a.length ≠ b.length) : sameS a b = false := by
  cases hs : sameS a b
  · rfl
  · exact absurd (congrArg List.length (sameS_iff.1 hs)) h
/-- They differ at a place. -/
theorem sameS_at {a b : List Pr} {k : Nat} {p q : Pr} (h1 : a[k]? = some p) (h2 : b[k]? = some q) (h : sameP p q = false) : sameS a b = false := by
  cases hs : sameS a b
  · rfl
  · rw [sameS_iff.1 hs, h2] at h1
    cases h1
    rw [sameP_self] at h
    cases h
/-- They are the same at all places. -/
theorem sameS_all {a b : List Pr} (hl : a.length = b.length) (h : ∀ (k : Nat) (p q : Pr), a[k]? = some p → b[k]? = some q → sameP p q = true) : sameS a b = true := by
  refine sameS_iff.2 (List.ext_getElem? fun k => ?_)
  rcases Nat.lt_or_ge k a.length with hk | hk
  · rw [List.getElem?_eq_getElem hk, List.getElem?_eq_getElem (by omega)]
    rw [sameP_iff.1 (h k _ _ (List.getElem?_eq_getElem hk) (List.getElem?_eq_getElem (by omega)))]
  · rw [List.getElem?_eq_none hk, List.getElem?_eq_none (by omega)]

/-- How many lines. -/
def linesS (l : List Pr) : Nat := (l.map fun p => p.old.length + p.new.length).sum
theorem linesS_nil : linesS [] = 0 := rfl
theorem linesS_cons (p : Pr) (l : List Pr) : linesS (p :: l) = p.old.length + p.new.length + linesS l := by simp [linesS]
theorem linesS_append (l m : List Pr) : linesS (l ++ m) = linesS l + linesS m := by simp [linesS]
theorem invert_lines (p : Pr) : (invertP p).old.length + (invertP p).new.length = p.old.length + p.new.length := by
  unfold invertP
  repeat' split
  all_goals first | rfl | (dsimp only; omega)
theorem linesS_invert (l : List Pr) : linesS (invertS l) = linesS l := by
  induction l with
  | nil => rfl
  | cons p l ih => rw [invertS_cons, linesS_append, ih, linesS_cons, linesS_cons, linesS_nil, invert_lines]; omega
theorem swap1_lines {p : Pr} {m : List Pr} {r : List Pr × Pr} (h : swap1 p m = some r) : linesS r.1 = linesS m ∧ r.2.old = p.old ∧ r.2.new = p.new := by
  induction m generalizing p r with
  | nil => cases h; exact ⟨rfl, rfl, rfl⟩
  | cons q m ih =>
    obtain ⟨q', p1, m', p', h1, h2, rfl⟩ := swap1_cons.1 h
    obtain ⟨k1, k2, k3⟩ := ih h2
    obtain ⟨-, e1, e2, -, -, e3, e4, -⟩ := swap_keeps h1
    dsimp only at k1 k2 k3 ⊢
    rw [linesS_cons, linesS_cons, e1, e2, k1]
    exact ⟨rfl, k2.trans e3, k3.trans e4⟩
theorem swapS_lines {l m a b : List Pr} (h : swapS l m = some (a, b)) : linesS a = linesS m ∧ linesS b = linesS l := by
  induction l generalizing a b with
  | nil => cases h; exact ⟨rfl, rfl⟩
  | cons p l ih =>
    obtain ⟨m1, l', m2, p', h1, h2, e⟩ := swapS_cons.1 h
    cases e
    obtain ⟨k1, k2⟩ := ih h1
    obtain ⟨j1, j2, j3⟩ := swap1_lines h2
    dsimp only at j1 j2 j3
    rw [linesS_cons, linesS_cons, j2, j3, k2, j1, k1]
    exact ⟨rfl, rfl⟩
theorem rebase_lines {l m a : List Pr} (h : rebaseS m l = some a) : linesS a = linesS m ∧ a.length = m.length := by
  obtain ⟨b, hb⟩ := rebase_iff.1 h
  exact ⟨(swapS_lines hb).1, (swapS_length hb).1⟩
theorem splitStep_lines (w : Bool) (s : List Pr × List Pr) (p : Pr) : linesS (splitStep w s p).1 + linesS (splitStep w s p).2 = linesS s.1 + linesS s.2 + linesS [p] ∧ (splitStep w s p).1.length + (splitStep w s p).2.length = s.1.length + s.2.length + 1 := by
  unfold splitStep
  cases hs : swapS s.2 [p] with
  | none => simp only [linesS_append, List.length_append, List.length_cons, List.length_nil]; omega
  | some r =>
    obtain ⟨a, b⟩ := r
    have h1 := swapS_lines hs
    have h2 := swapS_length hs
    simp only [List.length_cons, List.length_nil] at h2
    dsimp only
    split
    · simp only [linesS_append, List.length_append]; omega
    · simp only [linesS_append, List.length_append, List.length_cons, List.length_nil]; omega
theorem splitS_lines (wanted : Nat → Bool) (l : List Pr) (k : Nat) (s : List Pr × List Pr) : linesS (splitS wanted k s l).1 + linesS (splitS wanted k s l).2 = linesS s.1 + linesS s.2 + linesS l ∧ (splitS wanted k s l).1.length + (splitS wanted k s l).2.length = s.1.length + s.2.length + l.length := by
  induction l generalizing k s with
  | nil => exact ⟨rfl, rfl⟩
  | cons p l ih =>
    have h1 := ih (k + 1) (splitStep (wanted k) s p)
    have h2 := splitStep_lines (wanted k) s p
    simp only [splitS]
    rw [linesS_cons, linesS_nil] at h2
    rw [linesS_cons, List.length_cons]
    omega
/-- What stands behind k rounds. -/
theorem splitS_take (wanted : Nat → Bool) (l : List Pr) (j : Nat) (s : List Pr × List Pr) {k : Nat} {p : Pr} (h : l[k]? = some p) : splitS wanted j s (l.take (k + 1)) = splitStep (wanted (j + k)) (splitS wanted j s (l.take k)) p := by
  induction l generalizing j s k with
  | nil => simp at h
  | cons q l ih =>
    cases k with
    | zero => simp at h; subst h; simp [splitS]
    | succ k =>
      simp only [List.take_succ_cons, splitS]
      rw [ih (j + 1) _ (by simpa using h), show j + 1 + k = j + (k + 1) by omega]

/-- With an error the tree is as it was. -/
theorem apply_errS {t : Tr} {p : Pr} (h : (applyP t p).2 ≠ 0) : (applyP t p).1 = t := by
  revert h
  unfold applyP
  split
  · exact fun _ => rfl
  split
  · unfold hunkT
    split
    · exact fun _ => rfl
    · split
      · exact fun h => absurd rfl h
      · exact fun _ => rfl
  split
  · split
    · exact fun _ => rfl
    · exact fun h => absurd rfl h
  split
  · split
    · exact fun _ => rfl
    · split
      · exact fun _ => rfl
      · exact fun h => absurd rfl h
  · split
    · exact fun _ => rfl
    · split
      · exact fun _ => rfl
      · exact fun h => absurd rfl h

section
variable {k h : Nat} {t u : Tr} {l : List Pr}
theorem runS_sized (hs : Sized k h t) : Sized (k + l.length) (h + linesS l) (runS t l).1 := by
  induction l generalizing k h t with
  | nil => exact hs
  | cons p l ih =>
    have h1 := hs.apply p
    simp only [runS]
    split
    · exact (ih h1).mono (by simp; omega) (by rw [linesS_cons]; omega)
    · exact h1.mono (by simp) (by rw [linesS_cons]; omega)
theorem runS_snoc {p : Pr} (h : runS t l = (u, 0)) : runS t (l ++ [p]) = applyP u p := by
  induction l generalizing t with
  | nil =>
    simp only [runS, Prod.mk.injEq, and_true] at h
    subst h
    simp only [List.nil_append, runS]
    split
    · rename_i e; rw [Prod.ext_iff]; exact ⟨rfl, e.symm⟩
    · rfl
  | cons q l ih =>
    obtain ⟨s, h1, h2⟩ := runS_cons.1 h
    simp only [List.cons_append, runS, h1, if_true]
    exact ih h2
/-- The first error. -/
theorem runS_err {p : Pr} {m : List Pr} (h : runS t l = (u, 0)) (he : (applyP u p).2 ≠ 0) : runS t (l ++ p :: m) = applyP u p := by
  induction l generalizing t with
  | nil =>
    simp only [runS, Prod.mk.injEq, and_true] at h
    subst h
    simp only [List.nil_append, runS]
    rw [if_neg he]
  | cons q l ih =>
    obtain ⟨s, h1, h2⟩ := runS_cons.1 h
    simp only [List.cons_append, runS, h1, if_true]
    exact ih h2
theorem applyS_err {p : Pr} {m : List Pr} (h : runS t l = (u, 0)) (he : (applyP u p).2 ≠ 0) : applyS t (l ++ p :: m) = (t, (applyP u p).2) := by
  unfold applyS
  rw [runS_err h he, if_neg he]
end

end Go.Proofs.YtbhnbkcokhfopaaGreat

/-
  What makes one tree of another one has no more lines than both have.
-/
namespace Go.Proofs.YtbhnbkcokhfopaaGreat
open Go.RowKit Go.Maps

theorem sum_le {α : Type} {c : Nat} (g : α → Nat) : ∀ (l : List α), (∀ x ∈ l, g x ≤ c) → (l.map g).sum ≤ l.length * c
  | [], _ => by simp
  | x :: l, h => by
    have h1 := sum_le g l (fun y hy => h y (List.mem_cons_of_mem _ hy))
    have h2 := h x List.mem_cons_self
    simp only [List.map_cons, List.sum_cons, List.length_cons, Nat.add_mul, Nat.one_mul]
    omega
theorem filter_two {α : Type} (p : α → Bool) : ∀ l : List α, (l.filter p).length + (l.filter (fun x => !p x)).length = l.length
  | [] => rfl
  | x :: l => by
    have h := filter_two p l
    cases hx : p x <;> simp [hx] <;> omega
theorem both_count {a b : Tr} (ha : Rising a) (hb : Rising b) : (a.filter fun f => hasT b f.1).length ≤ (b.filter fun f => hasT a f.1).length := by
  have h := rising_le (a := mapT (fun _ => ()) (a.filter fun f => hasT b f.1)) (b := mapT (fun _ => ()) (b.filter fun f => hasT a f.1)) (rising_map.2 (List.Pairwise.filter _ ha)) (rising_map.2 (List.Pairwise.filter _ hb)) (by
    intro f hf
    obtain ⟨g, hg, rfl⟩ := List.mem_map.1 hf
    obtain ⟨h1, h2⟩ := List.mem_filter.1 hg
    have h3 : (getT b g.1).isSome = true := h2
    obtain ⟨l, hl⟩ := Option.isSome_iff_exists.1 h3
    exact List.mem_map.2 ⟨(g.1, l), List.mem_filter.2 ⟨getT_mem hl, getT_has ((getT_iff ha).2 h1)⟩, rfl⟩)
  simpa [mapT_length] using h
theorem trees_lines {a b : Tr} (ha : Rising a) (hb : Rising b) (la : longT a = false) (lb : longT b = false) (na : a.length ≤ 80) (nb : b.length ≤ 80) : linesS (treesP a b) ≤ 32000 := by
  have h1 : linesS (treesP a b) = _ := trees_cost la lb
  have h2 : linesT (a.filter fun f => !hasT b f.1) ≤ _ := sum_le (c := 200) _ _ (fun f hf => long_no la (List.mem_filter.1 hf).1)
  have h3 : linesT (b.filter fun f => !hasT a f.1) ≤ _ := sum_le (c := 200) _ _ (fun f hf => long_no lb (List.mem_filter.1 hf).1)
  have h4 := sum_le (c := 400) (fun f => costP (bothP b f)) (a.filter fun f => hasT b f.1) (fun f hf => by
    obtain ⟨g1, g2⟩ := List.mem_filter.1 hf
    have g3 : (getT b f.1).isSome = true := g2
    obtain ⟨l, hl⟩ := Option.isSome_iff_exists.1 g3
    have g4 := long_no la g1
    have g5 := long_no lb (getT_mem hl)
    dsimp only at g5
    have g6 := lines_cost (name := f.1) g4 g5
    simp only [bothP, hl, Option.getD_some]
    omega)
  have h5 := both_count ha hb
  have h6 := filter_two (fun f : ByteArray × List ByteArray => hasT b f.1) a
  have h7 := filter_two (fun f : ByteArray × List ByteArray => hasT a f.1) b
  omega

end Go.Proofs.YtbhnbkcokhfopaaGreat

/-
  What the document's own table comes to, as a call, and a row the other way round.
-/
namespace Go.Proofs.YtbhnbkcokhfopaaGreat
open Go.RowKit Go.Maps

/-- The row that is being made beside the table. -/
structure RowM (eo ei : TypeId) (w0 w : World) (v : Value) (i m g : Nat) (T : Nat → Nat → Nat) (f : Nat → Nat) : Prop where
  tt : OwnTt eo ei w0 w v i m g T
  row : NumsAt w g m ei f
  base : w0.heap.size ≤ g
section
variable {eo ei : TypeId} {w0 w w' : World} {v : Value} {i m g : Nat} {T : Nat → Nat → Nat} {f : Nat → Nat}
theorem RowM.on (h : RowM eo ei w0 w v i m g T f) (hl : Later w w') : RowM eo ei w0 w' v i m g T f := ⟨h.tt.on hl, h.row.later hl, h.base⟩
theorem RowM.set (h : RowM eo ei w0 w v i m g T f) {j : Nat} (hj : j < m) (z : Nat) : RowM eo ei w0 (w.setCell ⟨g, j, none⟩ (.int .i64 (z : Nat))) v i m g T (fun x => if x = j then z else f x) :=
  ⟨h.tt.other (turned_set w g j _) (Nat.le_refl _) h.base, h.row.set hj z, h.base⟩
/-- Right up to place k, and nothing from there on. -/
def UpTo (T : Nat → Nat → Nat) (i m k : Nat) (f : Nat → Nat) : Prop := (∀ x, x < k → f x = T i x) ∧ ∀ x, k ≤ x → x < m → f x = 0
theorem UpTo.next {k : Nat} (h : UpTo T i m k f) (hk : f k = T i k) : UpTo T i m (k + 1) f :=
  ⟨fun x hx => by
    by_cases e : x = k
    · rw [e]; exact hk
    · exact h.1 x (by omega), fun x h1 h2 => h.2 x (by omega) h2⟩
theorem UpTo.set {k z : Nat} (h : UpTo T i m k f) (hz : z = T i k) : UpTo T i m (k + 1) (fun x => if x = k then z else f x) :=
  ⟨fun x hx => by
    by_cases e : x = k
    · dsimp only; rw [if_pos e, e]; exact hz
    · dsimp only; rw [if_neg e]; exact h.1 x (by omega), fun x h1 h2 => by dsimp only; rw [if_neg (by omega)]; exact h.2 x (by omega) h2⟩
theorem UpTo.put {k z : Nat} (h : UpTo T i m (k + 1) f) (hz : z = T i k) : UpTo T i m (k + 1) (fun x => if x = k then z else f x) :=
  ⟨fun x hx => by
    by_cases e : x = k
    · dsimp only; rw [if_pos e, e]; exact hz
    · dsimp only; rw [if_neg e]; exact h.1 x hx, fun x h1 h2 => by dsimp only; rw [if_neg (by omega)]; exact h.2 x h1 h2⟩
/-- As it was but for place k. -/
def But (T : Nat → Nat → Nat) (i m k z : Nat) (f : Nat → Nat) : Prop := (∀ x, x < k → f x = T i x) ∧ f k = z ∧ ∀ x, k < x → x < m → f x = 0
theorem UpTo.but {k : Nat} (h : UpTo T i m k f) (z : Nat) : But T i m k z (fun x => if x = k then z else f x) :=
  ⟨fun x hx => by dsimp only; rw [if_neg (by omega)]; exact h.1 x hx, by dsimp only; rw [if_pos rfl], fun x h1 h2 => by dsimp only; rw [if_neg (by omega)]; exact h.2 x (by omega) h2⟩
theorem But.put {k y : Nat} (h : But T i m k y f) (z : Nat) : But T i m k z (fun x => if x = k then z else f x) :=
  ⟨fun x hx => by dsimp only; rw [if_neg (by omega)]; exact h.1 x hx, by dsimp only; rw [if_pos rfl], fun x h1 h2 => by dsimp only; rw [if_neg (by omega)]; exact h.2.2 x h1 h2⟩
theorem But.upTo {k z : Nat} (h : But T i m k z f) (hz : z = T i k) : UpTo T i m (k + 1) f :=
  ⟨fun x hx => by
    by_cases e : x = k
    · rw [e, h.2.1]; exact hz
    · exact h.1 x (by omega), fun x h1 h2 => h.2.2 x (by omega) h2⟩
end

set_option maxRecDepth 100000 in
set_option maxHeartbeats 6400000 in
theorem most_any (A B : Option Addr) (n c m d : Nat) (la lb : List ByteArray) (w : World) (ha : Row w A n la) (hb : Row w B m lb) (hn : n ≤ 65536) (hm : m ≤ 65536) :
    Calls Tryz.prog 69 #[.slice A n c, .slice B m d] w (GivesT6 (n + 1) (m + 1) (tabM la lb) w) := by
  obtain ⟨i1, hi1, hz1, hs1, hy1⟩ := info_parts Tryz.rowInfo
  obtain ⟨i2, hi2, hz2, hs2, hy2⟩ := info_parts Tryz.numInfo
  have HA := Lib.hid ha; have HB := Lib.hid hb
  clear ha hb
  go_enter Tryz.func69, Tryz.ntmps69
  go_wp2
  go_loopg [5, 6] (n + 2) (fun g s5 s6 wr => ∃ (i Bd : Nat) (v : Value), i ≤ n + 1 ∧ n + 1 - i ≤ g ∧ s6 = .int .i64 (i : Nat) ∧ s5 = v ∧ Hid (OwnTt 86 3 w wr v i (m + 1) Bd (tabM la lb)) ∧ Hid (Bd ≤ wr.heap.size))
  case atStart => exact ⟨0, 0, _, by omega, by omega, rfl, rfl, OwnTt.nil (Later.refl w), Nat.zero_le _⟩
  case round =>
    obtain ⟨i, Bd, v, hi, hg, rfl, hv, hT, hS⟩ := hrel
    obtain rfl := hv.symm
    clear hv
    by_cases hlt : i ≤ n
    · go_wp2_with (at_make; refine wpList_make_n rfl _ _ 86 rfl i2 _ Tryz.underlying86 hi2 hz2 hs2 8 hy2 (by decide) .i64 .i64 (m + 1) rfl rfl (by omega) ?_; intro w4 HW4; refine Hid.out ?_)
      have hn0 := NumsAt.made wr (m + 1) 3
      have hlm : Later wr (wr.alloc (.cells (madeCells #[.int .i64 0] (m + 1)) 3)) := (Later.refl wr).alloc _
      rw [show wr.alloc (.cells (madeCells #[.int .i64 0] (m + 1)) 3) = w4 from HW4.out.symm] at hn0 hlm
      have HR0 : Hid (RowM 86 3 w w4 v i (m + 1) wr.heap.size (tabM la lb) (fun _ => 0)) := ⟨(hT.out.up hS.out).on hlm, hn0, hT.out.later.le⟩
      have HU0 : Hid (UpTo (tabM la lb) i (m + 1) 0 (fun _ => 0)) := ⟨fun x hx => absurd hx (Nat.not_lt_zero _), fun x _ _ => rfl⟩
      clear hn0 hlm HW4 hT hS
      refine Lib.hid ?_
      generalize wr.heap.size = g0 at HR0 ⊢
      go_wp2
      go_loopg [8] (m + 2) (fun g s8 wq => ∃ k : Nat, k ≤ m + 1 ∧ m + 1 - k ≤ g ∧ s8 = .int .i64 (k : Nat) ∧ ∃ f, Hid (RowM 86 3 w wq v i (m + 1) g0 (tabM la lb) f) ∧ Hid (UpTo (tabM la lb) i (m + 1) k f))
      case atStart => exact ⟨0, by omega, by omega, rfl, _, HR0, HU0⟩
      case round =>
        obtain ⟨k, hk, hgk, rfl, f, hR, hU⟩ := hrel
        clear HR0 HU0
        by_cases hkm : k ≤ m
        · cases i with
          | zero =>
            have HU2 := Lib.hid (hU.out.next (by rw [hU.out.2 k (Nat.le_refl _) (by omega), tabM_left]))
            go_wp2
            go_roundg (m + 1 - (k + 1))
            case measure => omega
            case rel => exact ⟨k + 1, by omega, Nat.le_refl _, by go_num, f, hR, HU2⟩
          | succ i =>
            cases k with
            | zero =>
              have HU2 := Lib.hid (hU.out.next (by rw [hU.out.2 0 (Nat.le_refl _) (by omega), tabM_right]))
              go_wp2
              go_roundg (m + 1 - (0 + 1))
              case measure => omega
              case rel => exact ⟨0 + 1, by omega, Nat.le_refl _, by go_num, f, hR, HU2⟩
            | succ k =>
              have HST := Lib.hid (tabM_step (a := la) (b := lb) (i := i) (k := k) (by rw [HA.out.len]; omega) (by rw [HB.out.len]; omega))
              have hb1 := tabM_le la lb i (k + 1); have hb2 := tabM_le la lb (i + 1) k; have hb3 := tabM_le la lb i k
              rw [HA.out.len] at hb1 hb2 hb3
              have HQ : Hid (f k = tabM la lb (i + 1) k) := hU.out.1 k (by omega)
              obtain ⟨At, ct, hvt, hct, htab⟩ := hR.out.tt.tab
              subst hvt
              have HTT : Hid (TabAt wr At (i + 1) (m + 1) 0 (tabM la lb)) := htab
              obtain ⟨bt, ot, gt, dt, rfl, t1, t2⟩ := htab i (Nat.zero_le _) (by omega)
              replace t2 := t2 (k + 1) (by omega)
              generalize e1 : tabM la lb i (k + 1) = p1 at t2 HST hb1
              have E1 := Lib.hid e1
              clear e1
              rw [show ((i + 1 : Nat) : Int) = (i : Int) + 1 from by omega, show ((k + 1 : Nat) : Int) = (k : Int) + 1 from by omega]
              go_wp2_with (with_reducible show wpList _ _ _ ({ dst := none, op := Op.store 3 _ _, type := _, pos := _, after := _, guard := _ } :: _) _ _; refine Hid.out ?_)
              refine Lib.hid (wpList_store_cell rfl rfl 3 _ _ rfl Tryz.numSize g0 (k + 1) (.int .i64 (p1 : Nat)) rfl rfl rfl ⟨_, hR.out.row.cell (by omega)⟩ (hR.out.row.frozen _) ?_)
              have HR1 := Lib.hid (hR.out.set (j := k + 1) (by omega) p1)
              have HB1 := Lib.hid (hU.out.but p1)
              have HQ1 : Hid ((fun x => if x = k + 1 then p1 else f x) k = tabM la lb (i + 1) k) := by
                show (if k = k + 1 then p1 else f k) = _
                rw [if_neg (by omega)]; exact HQ.out
              clear hR hU t1 t2 HTT HQ
              generalize wr.setCell ⟨g0, k + 1, none⟩ (.int .i64 (p1 : Nat)) = w6 at HR1 ⊢
              generalize (fun x => if x = k + 1 then p1 else f x) = f1 at HR1 HB1 HQ1
              have c1 := HR1.out.row.cell (j := k) (by omega); have c2 := HR1.out.row.cell (j := k + 1) (by omega)
              rw [HQ1.out] at c1
              rw [HB1.out.2.1] at c2
              generalize e2 : tabM la lb (i + 1) k = p2 at c1 HST hb2
              have E2 := Lib.hid e2
              clear e2 HQ1
              by_cases hgt : p1 < p2
              · go_wp2
                go_region
                have HR7 := Lib.hid (HR1.out.on (Later.refl w6).drew)
                clear HR1
                have c1' : w6.drew.cell? ⟨g0, k, none⟩ = some (.int .i64 (p2 : Nat)) := c1
                clear c1 c2
                generalize w6.drew = w7 at HR7 c1' ⊢
                go_wp2_with (with_reducible show wpList _ _ _ ({ dst := none, op := Op.store 3 _ _, type := _, pos := _, after := _, guard := _ } :: _) _ _; refine Hid.out ?_)
                refine Lib.hid (wpList_store_cell rfl rfl 3 _ _ rfl Tryz.numSize g0 (k + 1) (.int .i64 (p2 : Nat)) rfl rfl rfl ⟨_, HR7.out.row.cell (by omega)⟩ (HR7.out.row.frozen _) ?_)
                have HR8 := Lib.hid (HR7.out.set (j := k + 1) (by omega) p2)
                have HB8 := Lib.hid (HB1.out.put p2)
                clear HR7 HB1 c1'
                generalize w7.setCell ⟨g0, k + 1, none⟩ (.int .i64 (p2 : Nat)) = w8 at HR8 ⊢
                generalize (fun x => if x = k + 1 then p2 else f1 x) = f2 at HR8 HB8
                obtain ⟨q1, hq1⟩ : ∃ q1, q1 = p2 := ⟨_, rfl⟩
                rw [← hq1] at HB8
                have hqm : max p1 p2 = q1 := by omega
                have hqb : q1 ≤ 65536 := by omega
                have d2 := HR8.out.row.cell (j := k + 1) (by omega)
                rw [HB8.out.2.1] at d2
                obtain ⟨At, ct, hvt, hct, htab⟩ := HR8.out.tt.tab
                cases hvt
                obtain ⟨bt', ot', gt', dt', e0, t1, t2⟩ := htab i (Nat.zero_le _) (by omega)
                cases e0
                replace t2 := t2 k (by omega)
                generalize e3 : tabM la lb i k = p3 at t2 HST hb3
                have HP3 := Lib.hid e3
                clear e3
                obtain ⟨ba, oa, rfl, x1⟩ := (HA.out.later HR8.out.tt.later).get (k := i) (by omega)
                obtain ⟨bb, ob, rfl, x2⟩ := (HB.out.later HR8.out.tt.later).get (k := k) (by omega)
                clear htab hct
                by_cases he : la.getD i ByteArray.empty = lb.getD k ByteArray.empty
                · have hq : ((la.getD i ByteArray.empty).toList == (lb.getD k ByteArray.empty).toList) = true := by rw [text_beq]; simp only [he, decide_true]
                  rw [if_pos he] at HST
                  generalize la.getD i ByteArray.empty = xa at x1 hq
                  generalize lb.getD k ByteArray.empty = xb at x2 hq
                  clear he
                  by_cases hgt2 : q1 < p3 + 1
                  · have hd3 : decide ((q1 : Int) < (p3 : Int) + 1) = true := by simp; omega
                    go_wp2
                    go_region
                    have HR9 := Lib.hid (HR8.out.on (Later.refl w8).drew)
                    clear HR8 x1 x2 t1 t2 d2 hq
                    generalize w8.drew = w9 at HR9 ⊢
                    obtain ⟨At, ct, hvt, hct, htab⟩ := HR9.out.tt.tab
                    cases hvt
                    obtain ⟨bt'', ot'', gt'', dt'', e0, t1, t2⟩ := htab i (Nat.zero_le _) (by omega)
                    cases e0
                    replace t2 := t2 k (by omega)
                    clear htab hct
                    rw [HP3.out] at t2
                    go_wp2_with (with_reducible show wpList _ _ _ ({ dst := none, op := Op.store 3 _ _, type := _, pos := _, after := _, guard := _ } :: _) _ _; refine Hid.out ?_)
                    refine Lib.hid (wpList_store_cell rfl rfl 3 _ _ rfl Tryz.numSize g0 (k + 1) (.int .i64 ((p3 + 1 : Nat) : Int)) rfl rfl rfl ⟨_, HR9.out.row.cell (by omega)⟩ (HR9.out.row.frozen _) ?_)
                    have HR10 := Lib.hid (HR9.out.set (j := k + 1) (by omega) (p3 + 1))
                    have HU10 := Lib.hid ((HB8.out.put (p3 + 1)).upTo (by rw [HST.out]; omega))
                    clear HR9 t1 t2
                    generalize w9.setCell ⟨g0, k + 1, none⟩ (.int .i64 ((p3 + 1 : Nat) : Int)) = w10 at HR10 ⊢
                    go_wp2
                    go_roundg (m + 1 - (k + 1 + 1))
                    case measure => omega
                    case rel => exact ⟨k + 1 + 1, by omega, Nat.le_refl _, by go_num, _, HR10, HU10⟩
                  · have hd3 : decide ((q1 : Int) < (p3 : Int) + 1) = false := by simp; omega
                    have HU10 := Lib.hid (HB8.out.upTo (by rw [HST.out]; omega))
                    go_wp2
                    go_region
                    go_wp2
                    go_roundg (m + 1 - (k + 1 + 1))
                    case measure => omega
                    case rel => exact ⟨k + 1 + 1, by omega, Nat.le_refl _, by go_num, _, HR8.out.on (Later.refl _).drew, HU10⟩
                · have hq : ((la.getD i ByteArray.empty).toList == (lb.getD k ByteArray.empty).toList) = false := text_ne he
                  rw [if_neg he] at HST
                  have HU10 := Lib.hid (HB8.out.upTo (by rw [HST.out]; omega))
                  generalize la.getD i ByteArray.empty = xa at x1 hq
                  generalize lb.getD k ByteArray.empty = xb at x2 hq
                  clear he
                  go_wp2
                  go_region
                  go_wp2
                  go_roundg (m + 1 - (k + 1 + 1))
                  case measure => omega
                  case rel => exact ⟨k + 1 + 1, by omega, Nat.le_refl _, by go_num, _, HR8.out.on (Later.refl _).drew, HU10⟩
              · go_wp2
                go_region
                have HR8 := Lib.hid (HR1.out.on (Later.refl w6).drew)
                have HB8 := HB1
                clear HR1 c1 c2 HB1
                generalize w6.drew = w8 at HR8 ⊢
                generalize f1 = f2 at HR8 HB8
                obtain ⟨q1, hq1⟩ : ∃ q1, q1 = p1 := ⟨_, rfl⟩
                rw [← hq1] at HB8
                have hqm : max p1 p2 = q1 := by omega
                have hqb : q1 ≤ 65536 := by omega
                have d2 := HR8.out.row.cell (j := k + 1) (by omega)
                rw [HB8.out.2.1] at d2
                obtain ⟨At, ct, hvt, hct, htab⟩ := HR8.out.tt.tab
                cases hvt
                obtain ⟨bt', ot', gt', dt', e0, t1, t2⟩ := htab i (Nat.zero_le _) (by omega)
                cases e0
                replace t2 := t2 k (by omega)
                generalize e3 : tabM la lb i k = p3 at t2 HST hb3
                have HP3 := Lib.hid e3
                clear e3
                obtain ⟨ba, oa, rfl, x1⟩ := (HA.out.later HR8.out.tt.later).get (k := i) (by omega)
                obtain ⟨bb, ob, rfl, x2⟩ := (HB.out.later HR8.out.tt.later).get (k := k) (by omega)
                clear htab hct
                by_cases he : la.getD i ByteArray.empty = lb.getD k ByteArray.empty
                · have hq : ((la.getD i ByteArray.empty).toList == (lb.getD k ByteArray.empty).toList) = true := by rw [text_beq]; simp only [he, decide_true]
                  rw [if_pos he] at HST
                  generalize la.getD i ByteArray.empty = xa at x1 hq
                  generalize lb.getD k ByteArray.empty = xb at x2 hq
                  clear he
                  by_cases hgt2 : q1 < p3 + 1
                  · have hd3 : decide ((q1 : Int) < (p3 : Int) + 1) = true := by simp; omega
                    go_wp2
                    go_region
                    have HR9 := Lib.hid (HR8.out.on (Later.refl w8).drew)
                    clear HR8 x1 x2 t1 t2 d2 hq
                    generalize w8.drew = w9 at HR9 ⊢
                    obtain ⟨At, ct, hvt, hct, htab⟩ := HR9.out.tt.tab
                    cases hvt
                    obtain ⟨bt'', ot'', gt'', dt'', e0, t1, t2⟩ := htab i (Nat.zero_le _) (by omega)
                    cases e0
                    replace t2 := t2 k (by omega)
                    clear htab hct
                    rw [HP3.out] at t2
                    go_wp2_with (with_reducible show wpList _ _ _ ({ dst := none, op := Op.store 3 _ _, type := _, pos := _, after := _, guard := _ } :: _) _ _; refine Hid.out ?_)
                    refine Lib.hid (wpList_store_cell rfl rfl 3 _ _ rfl Tryz.numSize g0 (k + 1) (.int .i64 ((p3 + 1 : Nat) : Int)) rfl rfl rfl ⟨_, HR9.out.row.cell (by omega)⟩ (HR9.out.row.frozen _) ?_)
                    have HR10 := Lib.hid (HR9.out.set (j := k + 1) (by omega) (p3 + 1))
                    have HU10 := Lib.hid ((HB8.out.put (p3 + 1)).upTo (by rw [HST.out]; omega))
                    clear HR9 t1 t2
                    generalize w9.setCell ⟨g0, k + 1, none⟩ (.int .i64 ((p3 + 1 : Nat) : Int)) = w10 at HR10 ⊢
                    go_wp2
                    go_roundg (m + 1 - (k + 1 + 1))
                    case measure => omega
                    case rel => exact ⟨k + 1 + 1, by omega, Nat.le_refl _, by go_num, _, HR10, HU10⟩
                  · have hd3 : decide ((q1 : Int) < (p3 : Int) + 1) = false := by simp; omega
                    have HU10 := Lib.hid (HB8.out.upTo (by rw [HST.out]; omega))
                    go_wp2
                    go_region
                    go_wp2
                    go_roundg (m + 1 - (k + 1 + 1))
                    case measure => omega
                    case rel => exact ⟨k + 1 + 1, by omega, Nat.le_refl _, by go_num, _, HR8.out.on (Later.refl _).drew, HU10⟩
                · have hq : ((la.getD i ByteArray.empty).toList == (lb.getD k ByteArray.empty).toList) = false := text_ne he
                  rw [if_neg he] at HST
                  have HU10 := Lib.hid (HB8.out.upTo (by rw [HST.out]; omega))
                  generalize la.getD i ByteArray.empty = xa at x1 hq
                  generalize lb.getD k ByteArray.empty = xb at x2 hq
                  clear he
                  go_wp2
                  go_region
                  go_wp2
                  go_roundg (m + 1 - (k + 1 + 1))
                  case measure => omega
                  case rel => exact ⟨k + 1 + 1, by omega, Nat.le_refl _, by go_num, _, HR8.out.on (Later.refl _).drew, HU10⟩
        · have HF : Hid (∀ x, x < m + 1 → f x = tabM la lb i x) := fun x hx => hU.out.1 x (by omega)
          have hrow := hR.out.row.is HF.out
          obtain ⟨gs, ho, hgl, hrs⟩ := hR.out.tt.rows
          have hlow := hR.out.tt.low
          have hbase := hR.out.base
          have hlr : Later wr (wr.alloc (.cells #[.slice (some ⟨g0, 0, none⟩) (m + 1) (m + 1)] 86)) := (Later.refl wr).alloc _
          have HO := Lib.hid (ho.on hlr)
          have HRW : Hid (RowK 1 (wr.alloc (.cells #[.slice (some ⟨g0, 0, none⟩) (m + 1) (m + 1)] 86)) (some ⟨wr.heap.size, 0, none⟩) 1 [[.slice (some ⟨g0, 0, none⟩) (m + 1) (m + 1)]]) := RowK.one wr [.slice (some ⟨g0, 0, none⟩) (m + 1) (m + 1)] 86
          have HRS : Hid (∀ i g, gs[i]? = some g → NumsAt (wr.alloc (.cells #[.slice (some ⟨g0, 0, none⟩) (m + 1) (m + 1)] 86)) g (m + 1) 3 (tabM la lb i) ∧ w.heap.size ≤ g ∧ g < g0 ∧ v.ownBlock ≠ some g) := fun i g hg => by obtain ⟨q1, q2⟩ := hrs i g hg; exact ⟨q1.later hlr, q2⟩
          have HNW := Lib.hid (hrow.later hlr)
          have HLOW := Lib.hid hlow; have HBASE := Lib.hid hbase; have HGL := Lib.hid hgl
          clear hrow ho hrs hlow hbase hlr hR hU HF hgl
          go_wp2_with (at_builtin; refine Hid.out ?_)
          generalize wr.alloc (.cells #[.slice (some ⟨g0, 0, none⟩) (m + 1) (m + 1)] 86) = w6 at HO HRW HRS HNW ⊢
          refine Lib.hid (wpList_append_rowK5 rfl _ _ 84 rfl i1 _ 24 Tryz.underlying84 hi1 hz1 hs1 hy1 rfl (by decide) HO.out rfl _ _ 1 1 _ rfl HRW.out (by decide) (by simp [Value.oneCell']) (by rw [List.length_map, HGL.out]; omega) (by decide) ?_)
          intro v7 w7 ho7 hg7 h57
          have HT7 := Lib.hid (OwnTt.grow HGL.out HRS.out HLOW.out ho7 hg7 h57 (Nat.le_refl _) HBASE.out HNW.out)
          clear ho7 hg7 h57 HO HRW HRS HNW HLOW HBASE HGL
          go_wp2
          go_roundg (n + 1 - (i + 1))
          case measure => omega
          case rel => exact ⟨i + 1, _, v7, by omega, Nat.le_refl _, by go_num, rfl, HT7, Nat.le_refl _⟩
    · obtain rfl : i = n + 1 := by omega
      go_wp2
      go_ret
      obtain ⟨At, ct, hvt, hct, htab⟩ := hT.out.tab
      exact ⟨At, ct, by rw [← hvt]; rfl, hct, htab, hT.out.later⟩

set_option maxHeartbeats 800000 in
theorem turned_any (A : Option Addr) (n c : Nat) (l : List ByteArray) (w : World) (hx : Row w A n l) (hn : n ≤ 65536) :
    Calls Tryz.prog 70 #[.slice A n c] w (GivesOwn l.reverse w) := by
  obtain ⟨i0, hi, hz0, hz1, hz2⟩ := info_parts Tryz.textInfo
  have HX := Lib.hid hx; clear hx
  go_enter Tryz.func70, Tryz.ntmps70
  go_wp2
  go_loopg [3, 4] (n + 1) (fun g s3 s4 wr => ∃ (k : Nat) (v : Value), k ≤ n ∧ k ≤ g ∧ s4 = .int .i64 ((k : Int) - 1) ∧ s3 = v ∧ Hid (Own 9 w wr v (l.drop k).reverse))
  case atStart => exact ⟨n, _, Nat.le_refl _, by omega, rfl, rfl, by show Own _ _ _ _ _; rw [List.drop_of_length_le (by rw [HX.out.len]; exact Nat.le_refl _)]; exact Own.nil (Later.refl w)⟩
  case round =>
    obtain ⟨k, v, hk, hg, rfl, hv, hO⟩ := hrel
    obtain rfl := hv.symm
    clear hv
    cases k with
    | zero =>
      go_wp2
      go_ret
      exact ⟨v, rfl, by have := hO.out; rw [List.drop_zero] at this; exact this⟩
    | succ k =>
      rw [show ((k + 1 : Nat) : Int) - 1 = (k : Int) from by omega]
      have hkl : k < l.length := by rw [HX.out.len]; omega
      obtain ⟨b, o, rfl, g1⟩ := (HX.out.later hO.out.later).get (k := k) (by omega)
      have HD : Hid ((l.drop k).reverse = (l.drop (k + 1)).reverse ++ [l.getD k ByteArray.empty]) := by show _ = _; rw [drop_cons hkl, List.reverse_cons]
      have hdl : (l.drop (k + 1)).reverse.length ≤ 65536 := by rw [List.length_reverse, List.length_drop, HX.out.len]; omega
      generalize l.getD k ByteArray.empty = y at g1 HD
      have HO1 := Lib.hid (hO.out.alloc (.cells #[.string y] 9))
      clear hO hkl
      go_wp2_with (at_builtin; refine wpList_append_row rfl _ _ 45 rfl i0 Tryz.underlying45 hi hz0 hz1 hz2 HO1.out rfl _ _ _ [y] rfl (Row.one _ y 9) (by omega) ?_; intro v4 w4 hown4 hg4; have HO4 := Lib.hid hown4; clear hown4 hg4)
      go_roundg k
      case measure => omega
      case rel => exact ⟨k, v4, by omega, Nat.le_refl _, by go_num, rfl, by show Own _ _ _ _ _; rw [HD.out]; exact HO4.out⟩

end Go.Proofs.YtbhnbkcokhfopaaGreat
