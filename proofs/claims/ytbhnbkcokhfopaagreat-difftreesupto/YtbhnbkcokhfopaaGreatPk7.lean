import Derived.Test.YtbhnbkcokhfopaaGreatPk6

/-
  What makes one tree of another one, as plain rows of prims: it does, and what it costs. Nothing of any program.
-/
namespace Go.Proofs.YtbhnbkcokhfopaaGreat
open Go.RowKit

section
variable {a b : List ByteArray} {name : ByteArray}
theorem common_all (ha : a.length ≤ 200) (hb : b.length ≤ 200) : Pairs a b 0 0 (commonL a b) ∧ (commonL a b).length = lcs a b := by
  unfold commonL
  rw [if_neg (by omega)]
  exact common_pairs (by simp)
theorem lines_go (ha : a.length ≤ 200) (hb : b.length ≤ 200) : linesP name a b = hunksGo name a b (commonL a b) 0 0 := by
  unfold linesP; rw [if_neg (by omega)]
/-- P6.4: what is told makes b of a. -/
theorem lines_run {t : Tr} (ht : Rising t) (hn : namedB name = true) (h1 : allB a = true) (h2 : allB b = true) (ha : a.length ≤ 200) (hb : b.length ≤ 200) (hg : getT t name = some a) : runS t (linesP name a b) = (withT t name b, 0) := by
  rw [lines_go ha hb]
  exact hunks_run (common_all ha hb).1 ht hn h1 h2 (by omega) (Nat.zero_le _) (Nat.zero_le _) (by simpa using hg)
/-- P6.4: no fewer lines can. -/
theorem lines_cost (ha : a.length ≤ 200) (hb : b.length ≤ 200) : costP (linesP name a b) + 2 * lcs a b = a.length + b.length := by
  rw [lines_go ha hb]
  have := hunks_cost (name := name) (common_all ha hb).1 (Nat.zero_le _) (Nat.zero_le _)
  rw [(common_all ha hb).2] at this
  simpa using this
/-- A hunk has lines. -/
theorem hunks_full {l : List (Nat × Nat)} {i k : Nat} (h : Pairs a b i k l) (hi : i ≤ a.length) (hk : k ≤ b.length) : ∀ p ∈ hunksGo name a b l i k, 1 ≤ p.old.length + p.new.length := by
  induction h with
  | nil _ =>
    rename_i i k
    simp only [hunksGo]
    split
    · rename_i hc
      intro p hp
      rw [List.mem_singleton.1 hp]
      simp only [hunkP, gap_length (Nat.le_refl _)]
      omega
    · intro p hp; cases hp
  | cons h1 h2 h3 h4 _ _ _ ih =>
    rename_i i k x y l _ _ _
    intro p hp
    simp only [hunksGo] at hp
    rcases List.mem_append.1 hp with hp | hp
    · split at hp
      · rename_i hc
        rw [List.mem_singleton.1 hp]
        simp only [hunkP, gap_length (Nat.le_of_lt h3), gap_length (Nat.le_of_lt h4)]
        omega
      · cases hp
    · exact ih (by omega) (by omega) p hp
theorem cost_none {l : List Pr} (h : ∀ p ∈ l, 1 ≤ p.old.length + p.new.length) (hc : costP l = 0) : l = [] := by
  cases l with
  | nil => rfl
  | cons p l =>
    have := h p List.mem_cons_self
    simp only [costP, List.map_cons, List.sum_cons] at hc
    omega
/-- P6.4: of the same nothing is told. -/
theorem lines_self (a : List ByteArray) : linesP name a a = [] := by
  by_cases h : a.length ≤ 200
  · refine cost_none ?_ ?_
    · rw [lines_go h h]; exact hunks_full (common_all h h).1 (Nat.zero_le _) (Nat.zero_le _)
    · have := lines_cost (name := name) h h
      rw [lcs_self] at this
      omega
  · unfold linesP; rw [if_pos (by omega)]
theorem cost_turned (ha : a.length ≤ 200) (hb : b.length ≤ 200) (n m : ByteArray) : costP (linesP n a b) = costP (linesP m b a) := by
  have h1 := lines_cost (name := n) ha hb
  have h2 := lines_cost (name := m) hb ha
  rw [lcs_comm] at h2
  omega

/-- Where the hunks stand. -/
theorem hunks_place {l : List (Nat × Nat)} {i k : Nat} (h : Pairs a b i k l) (hk : k ≤ b.length) : ∀ p ∈ hunksGo name a b l i k, p.kind = 0 ∧ p.name = name ∧ (k : Int) ≤ p.place ∧ p.place + p.new.length ≤ b.length ∧ p.old.length ≤ a.length := by
  induction h with
  | nil _ =>
    rename_i i k
    simp only [hunksGo]
    split
    · intro p hp
      rw [List.mem_singleton.1 hp]
      simp only [hunkP, gap_length (Nat.le_refl _), true_and]
      omega
    · intro p hp; cases hp
  | cons h1 h2 h3 h4 _ _ _ ih =>
    rename_i i k x y l _ _ _
    intro p hp
    simp only [hunksGo] at hp
    rcases List.mem_append.1 hp with hp | hp
    · split at hp
      · rw [List.mem_singleton.1 hp]
        simp only [hunkP, gap_length (Nat.le_of_lt h3), gap_length (Nat.le_of_lt h4), true_and]
        omega
      · cases hp
    · have := ih (by omega) p hp
      exact ⟨this.1, this.2.1, by omega, this.2.2.2⟩
/-- Between two of them there is a line at least. -/
theorem hunks_apart {l : List (Nat × Nat)} {i k : Nat} (h : Pairs a b i k l) (hk : k ≤ b.length) : (hunksGo name a b l i k).Pairwise (fun (p q : Pr) => q.place > p.place + p.new.length) := by
  induction h with
  | nil _ =>
    simp only [hunksGo]
    split
    · exact List.pairwise_singleton _ _
    · exact List.Pairwise.nil
  | cons h1 h2 h3 h4 _ _ hp ih =>
    rename_i i k x y l
    simp only [hunksGo]
    split
    · rw [List.singleton_append, List.pairwise_cons]
      refine ⟨fun q hq => ?_, ih (by omega)⟩
      have := (hunks_place hp (by omega) q hq).2.2.1
      simp only [hunkP, gap_length (Nat.le_of_lt h4)]
      omega
    · rw [List.nil_append]; exact ih (by omega)
end

/-- P6.3. -/
def rmP (f : ByteArray × List ByteArray) : List Pr := linesP f.1 f.2 [] ++ [⟨2, f.1, ByteArray.empty, 0, [], []⟩]
def addP (f : ByteArray × List ByteArray) : List Pr := (⟨1, f.1, ByteArray.empty, 0, [], []⟩ : Pr) :: linesP f.1 [] f.2
def bothP (b : Tr) (f : ByteArray × List ByteArray) : List Pr := linesP f.1 f.2 ((getT b f.1).getD [])
def longT (t : Tr) : Bool := t.any fun f => decide (200 < f.2.length)
def treesP (a b : Tr) : List Pr :=
  if longT a = true ∨ longT b = true then []
  else (a.filter fun f => !hasT b f.1).flatMap rmP ++ (b.filter fun f => !hasT a f.1).flatMap addP ++ (a.filter fun f => hasT b f.1).flatMap (bothP b)

section
variable {a b t u : Tr}
theorem long_no (h : longT a = false) {f : ByteArray × List ByteArray} (hf : f ∈ a) : f.2.length ≤ 200 := by
  simp only [longT, List.any_eq_false, decide_eq_true_eq] at h
  have := h f hf
  omega
theorem mem_get (ha : Rising a) {f : ByteArray × List ByteArray} (hf : f ∈ a) : getT a f.1 = some f.2 := (getT_iff ha).2 hf

/-- File by file. -/
theorem each_run {g : ByteArray × List ByteArray → List Pr} {w : ByteArray × List ByteArray → Option (List ByteArray)} {v : ByteArray × List ByteArray → Option (List ByteArray)} (fs : Tr) (hf : Rising fs)
    (step : ∀ f ∈ fs, ∀ s : Tr, Rising s → getT s f.1 = v f → ∃ r, runS s (g f) = (r, 0) ∧ Rising r ∧ getT r = putL (getT s) f.1 (w f))
    (ht : Rising t) (hv : ∀ f ∈ fs, getT t f.1 = v f) : ∃ r, runS t (fs.flatMap g) = (r, 0) ∧ Rising r ∧ (∀ f ∈ fs, getT r f.1 = w f) ∧ ∀ n, hasT fs n = false → getT r n = getT t n := by
  induction fs generalizing t with
  | nil => exact ⟨t, rfl, ht, (fun f h => by cases h), fun n _ => rfl⟩
  | cons f fs ih =>
    obtain ⟨s, s1, s2, s3⟩ := step f List.mem_cons_self t ht (hv f List.mem_cons_self)
    have hne : ∀ x ∈ fs, x.1 ≠ f.1 := fun x hx e => ltN_ne (rising_head hf hx) e.symm
    obtain ⟨r, r1, r2, r3, r4⟩ := ih (rising_tail hf) (fun x hx => step x (List.mem_cons_of_mem _ hx)) s2 (fun x hx => by
      rw [s3, putL_other _ _ (hne x hx)]; exact hv x (List.mem_cons_of_mem _ hx))
    have hno : hasT fs f.1 = false := hasT_no.2 hne
    refine ⟨r, by rw [List.flatMap_cons]; exact runS_append.2 ⟨s, s1, r1⟩, r2, fun x hx => ?_, fun n hn => ?_⟩
    · rcases List.mem_cons.1 hx with rfl | hx
      · rw [r4 _ hno, s3, putL_same]
      · exact r3 x hx
    · have h1 := hasT_no.1 hn
      rw [r4 n (hasT_no.2 fun x hx => h1 x (List.mem_cons_of_mem _ hx)), s3, putL_other _ _ (fun e => h1 f List.mem_cons_self e.symm)]

theorem rm_run {f : ByteArray × List ByteArray} {s : Tr} (hn : namedB f.1 = true) (hl : allB f.2 = true) (h2 : f.2.length ≤ 200) (hs : Rising s) (hg : getT s f.1 = some f.2) : ∃ r, runS s (rmP f) = (r, 0) ∧ Rising r ∧ getT r = putL (getT s) f.1 none := by
  have h1 := lines_run hs hn hl allB_none h2 (by simp) hg
  have hw : Rising (withT s f.1 []) := rising_with hs _ _
  have hr : rightP ⟨2, f.1, ByteArray.empty, 0, [], []⟩ = true := by simp [rightP, hn]
  have h3 : applyP (withT s f.1 []) ⟨2, f.1, ByteArray.empty, 0, [], []⟩ = (withoutT (withT s f.1 []) f.1, 0) := by
    rw [apply_rm hr rfl]
    simp [removeT, get_with_same hs]
  refine ⟨withoutT (withT s f.1 []) f.1, ?_, rising_without hw _, ?_⟩
  · exact runS_append.2 ⟨_, h1, runS_cons.2 ⟨_, h3, rfl⟩⟩
  · rw [getT_without hw, getT_with hs, putL_putL]
theorem add_run {f : ByteArray × List ByteArray} {s : Tr} (hn : namedB f.1 = true) (hl : allB f.2 = true) (h2 : f.2.length ≤ 200) (hs : Rising s) (hg : getT s f.1 = none) : ∃ r, runS s (addP f) = (r, 0) ∧ Rising r ∧ getT r = putL (getT s) f.1 (some f.2) := by
  have hr : rightP ⟨1, f.1, ByteArray.empty, 0, [], []⟩ = true := by simp [rightP, hn]
  have h3 : applyP s ⟨1, f.1, ByteArray.empty, 0, [], []⟩ = (withT s f.1 [], 0) := by
    rw [apply_add hr rfl]
    simp [addT, hn, has_none hg]
  have hw : Rising (withT s f.1 []) := rising_with hs _ _
  have h1 := lines_run hw hn allB_none hl (by simp) h2 (get_with_same hs _ _)
  refine ⟨withT (withT s f.1 []) f.1 f.2, runS_cons.2 ⟨_, h3, h1⟩, rising_with hw _ _, ?_⟩
  rw [getT_with hw, getT_with hs, putL_putL]

/-- P6.4: what is told makes b of a. -/
theorem trees_run {j k h i : Nat} (ha : Rising a) (hb : Rising b) (sa : Sized j h a) (sb : Sized k i b) (la : longT a = false) (lb : longT b = false) : runS a (treesP a b) = (b, 0) := by
  unfold treesP
  rw [if_neg (by simp [la, lb])]
  have fa : ∀ q : ByteArray × List ByteArray → Bool, Rising (a.filter q) := fun q => List.Pairwise.filter _ ha
  have fb : ∀ q : ByteArray × List ByteArray → Bool, Rising (b.filter q) := fun q => List.Pairwise.filter _ hb
  have hasF : ∀ (t : Tr) (q : ByteArray → Bool) (n : ByteArray), hasT (t.filter fun f => q f.1) n = (hasT t n && q n) := fun t q n => by
    rw [Bool.eq_iff_iff, Bool.and_eq_true, hasT_iff, hasT_iff]
    constructor
    · rintro ⟨f, hf, rfl⟩
      have := List.mem_filter.1 hf
      exact ⟨⟨f, this.1, rfl⟩, this.2⟩
    · rintro ⟨⟨f, hf, rfl⟩, hq⟩
      exact ⟨f, List.mem_filter.2 ⟨hf, hq⟩, rfl⟩
  obtain ⟨t1, r1, s1, g1, o1⟩ := each_run (g := rmP) (w := fun _ => none) (v := fun f => some f.2) _ (fa fun f => !hasT b f.1)
    (fun f hf s hs hg => by have hm := (List.mem_filter.1 hf).1; exact rm_run (sa.each f hm).1 (sa.each f hm).2.1 (long_no la hm) hs hg) ha
    (fun f hf => mem_get ha (List.mem_filter.1 hf).1)
  obtain ⟨t2, r2, s2, g2, o2⟩ := each_run (g := addP) (w := fun f => some f.2) (v := fun _ => none) (t := t1) _ (fb fun f => !hasT a f.1)
    (fun f hf s hs hg => by have hm := (List.mem_filter.1 hf).1; exact add_run (sb.each f hm).1 (sb.each f hm).2.1 (long_no lb hm) hs hg) s1
    (fun f hf => by
      have hm := List.mem_filter.1 hf
      have hna : hasT a f.1 = false := by simpa using hm.2
      rw [o1 f.1 (by rw [hasF a (fun n => !hasT b n), hna]; rfl)]
      cases hg : getT a f.1 with
      | none => rfl
      | some l => rw [getT_has hg] at hna; cases hna)
  have k2 : ∀ n, hasT a n = true → hasT b n = true → getT t2 n = getT a n := fun n h1 h2 => by
    rw [o2 n (by rw [hasF b (fun n => !hasT a n), h1]; simp), o1 n (by rw [hasF a (fun n => !hasT b n), h2]; simp)]
  obtain ⟨t3, r3, s3, g3, o3⟩ := each_run (g := bothP b) (w := fun f => some ((getT b f.1).getD [])) (v := fun f => some f.2) (t := t2) _ (fa fun f => hasT b f.1)
    (fun f hf s hs hg => by
      have hm := List.mem_filter.1 hf
      obtain ⟨l, hl⟩ := hasT_get hm.2
      have hml := getT_mem hl
      have := lines_run hs (sa.each f hm.1).1 (sa.each f hm.1).2.1 (sb.each _ hml).2.1 (long_no la hm.1) (long_no lb hml) hg
      refine ⟨withT s f.1 l, by unfold bothP; rw [hl]; exact this, rising_with hs _ _, ?_⟩
      rw [getT_with hs, hl]; rfl) s2
    (fun f hf => by
      have hm := List.mem_filter.1 hf
      rw [k2 f.1 (hasT_iff.2 ⟨f, hm.1, rfl⟩) hm.2]; exact mem_get ha hm.1)
  have : t3 = b := tree_ext s3 hb fun n => by
    cases h1 : hasT a n <;> cases h2 : hasT b n
    · have eb : getT b n = none := by cases hg : getT b n with | none => rfl | some l => rw [getT_has hg] at h2; cases h2
      have ea : getT a n = none := by cases hg : getT a n with | none => rfl | some l => rw [getT_has hg] at h1; cases h1
      rw [o3 n (by rw [hasF a (hasT b), h1]; rfl), o2 n (by rw [hasF b (fun n => !hasT a n), h2]; rfl), o1 n (by rw [hasF a (fun n => !hasT b n), h1]; rfl), ea, eb]
    · obtain ⟨l, hl⟩ := hasT_get h2
      rw [o3 n (by rw [hasF a (hasT b), h1]; rfl), hl]
      exact g2 (n, l) (List.mem_filter.2 ⟨getT_mem hl, by simp [h1]⟩)
    · obtain ⟨l, hl⟩ := hasT_get h1
      have eb : getT b n = none := by cases hg : getT b n with | none => rfl | some l => rw [getT_has hg] at h2; cases h2
      rw [o3 n (by rw [hasF a (hasT b), h2]; simp), o2 n (by rw [hasF b (fun n => !hasT a n), h2]; rfl), eb]
      exact g1 (n, l) (List.mem_filter.2 ⟨getT_mem hl, by simp [h2]⟩)
    · obtain ⟨l, hl⟩ := hasT_get h1
      obtain ⟨l', hl'⟩ := hasT_get h2
      have := g3 (n, l) (List.mem_filter.2 ⟨getT_mem hl, h2⟩)
      rw [this, hl']; rfl
  subst this
  exact runS_append.2 ⟨t2, runS_append.2 ⟨t1, r1, r2⟩, r3⟩
/-- P6.4: of the same nothing is told. -/
theorem trees_self (ha : Rising a) : treesP a a = [] := by
  unfold treesP
  split
  · rfl
  · have h1 : (a.filter fun f => !hasT a f.1) = [] := List.filter_eq_nil_iff.2 fun f hf => by simp [hasT_iff.2 ⟨f, hf, rfl⟩]
    rw [h1, List.flatMap_nil, List.nil_append, List.flatMap_nil, List.nil_append, List.flatMap_eq_nil_iff]
    intro f hf
    unfold bothP
    rw [mem_get ha (List.mem_filter.1 hf).1]
    exact lines_self f.2
end

end Go.Proofs.YtbhnbkcokhfopaaGreat

/-
  What makes one tree of another one costs as much as what makes the other of the one. Nothing of any program.
-/
namespace Go.Proofs.YtbhnbkcokhfopaaGreat
open Go.RowKit

section
variable {a b : Tr}
theorem cost_cons (p : Pr) (l : List Pr) : costP (p :: l) = p.old.length + p.new.length + costP l := by simp [costP]
theorem cost_flat {α : Type} (g : α → List Pr) (l : List α) : costP (l.flatMap g) = (l.map fun x => costP (g x)).sum := by
  induction l with
  | nil => rfl
  | cons x l ih => rw [List.flatMap_cons, cost_append, ih, List.map_cons, List.sum_cons]
theorem lines_from (n : ByteArray) {l : List ByteArray} (h : l.length ≤ 200) : costP (linesP n [] l) = l.length := by
  have := lines_cost (name := n) (a := []) (b := l) (by simp) h
  rw [lcs_nil_left] at this
  simpa using this
theorem lines_gone (n : ByteArray) {l : List ByteArray} (h : l.length ≤ 200) : costP (linesP n l []) = l.length := by
  have := lines_cost (name := n) (a := l) (b := []) h (by simp)
  rw [lcs_nil_right] at this
  simpa using this
theorem rm_cost {f : ByteArray × List ByteArray} (h : f.2.length ≤ 200) : costP (rmP f) = f.2.length := by
  unfold rmP; rw [cost_append, lines_gone _ h]; simp [costP]
theorem add_cost {f : ByteArray × List ByteArray} (h : f.2.length ≤ 200) : costP (addP f) = f.2.length := by
  unfold addP; rw [cost_cons, lines_from _ h]; simp
theorem sum_congr {α : Type} {g h : α → Nat} : ∀ {l : List α}, (∀ x ∈ l, g x = h x) → (l.map g).sum = (l.map h).sum
  | [], _ => rfl
  | x :: l, e => by rw [List.map_cons, List.map_cons, List.sum_cons, List.sum_cons, e x List.mem_cons_self, sum_congr fun y hy => e y (List.mem_cons_of_mem _ hy)]
/-- How many lines all files have. -/
def linesT (t : Tr) : Nat := (t.map fun f => f.2.length).sum
theorem trees_cost (la : longT a = false) (lb : longT b = false) : costP (treesP a b) = linesT (a.filter fun f => !hasT b f.1) + linesT (b.filter fun f => !hasT a f.1) + ((a.filter fun f => hasT b f.1).map fun f => costP (bothP b f)).sum := by
  unfold treesP
  rw [if_neg (by simp [la, lb]), cost_append, cost_append, cost_flat, cost_flat, cost_flat]
  rw [sum_congr (g := fun f => costP (rmP f)) (h := fun f => f.2.length) fun f hf => rm_cost (long_no la (List.mem_filter.1 hf).1)]
  rw [sum_congr (g := fun f => costP (addP f)) (h := fun f => f.2.length) fun f hf => add_cost (long_no lb (List.mem_filter.1 hf).1)]
  rfl
/-- The files that both have, as the one has them, and as the other. -/
theorem both_turned (ha : Rising a) (hb : Rising b) : (a.filter fun f => hasT b f.1).map (fun f => (f.1, (getT b f.1).getD [])) = b.filter fun f => hasT a f.1 := by
  refine rising_ext ?_ (List.Pairwise.filter _ hb) fun f => ?_
  · unfold Rising
    rw [List.pairwise_map]
    exact List.Pairwise.filter _ ha
  · rw [List.mem_map, List.mem_filter]
    constructor
    · rintro ⟨g, hg, rfl⟩
      have hm := List.mem_filter.1 hg
      obtain ⟨l, hl⟩ := hasT_get hm.2
      dsimp only
      rw [hl]
      exact ⟨getT_mem hl, hasT_iff.2 ⟨g, hm.1, rfl⟩⟩
    · rintro ⟨hf, hh⟩
      obtain ⟨l, hl⟩ := hasT_get hh
      refine ⟨(f.1, l), List.mem_filter.2 ⟨getT_mem hl, hasT_iff.2 ⟨f, hf, rfl⟩⟩, ?_⟩
      dsimp only
      rw [mem_get hb hf]; rfl
theorem both_cost (ha : Rising a) (hb : Rising b) (la : longT a = false) (lb : longT b = false) : ((a.filter fun f => hasT b f.1).map fun f => costP (bothP b f)).sum = ((b.filter fun f => hasT a f.1).map fun f => costP (bothP a f)).sum := by
  rw [← both_turned ha hb, List.map_map]
  refine sum_congr fun f hf => ?_
  have hm := List.mem_filter.1 hf
  obtain ⟨l, hl⟩ := hasT_get hm.2
  have e : getT a f.1 = some f.2 := mem_get ha hm.1
  simp only [Function.comp_apply, bothP, hl, e, Option.getD_some]
  exact cost_turned (long_no la hm.1) (long_no (f := (f.1, l)) lb (getT_mem hl)) _ _
/-- P6.4: either way it costs as much. -/
theorem trees_turned (ha : Rising a) (hb : Rising b) : costP (treesP a b) = costP (treesP b a) := by
  cases la : longT a
  · cases lb : longT b
    · rw [trees_cost la lb, trees_cost lb la, both_cost ha hb la lb]; omega
    · unfold treesP; rw [if_pos (by simp [lb]), if_pos (by simp [lb])]
  · unfold treesP; rw [if_pos (by simp [la]), if_pos (by simp [la])]
theorem trees_from (lb : longT b = false) : costP (treesP [] b) = linesT b := by
  rw [trees_cost (by rfl) lb]
  have : (b.filter fun f => !hasT ([] : Tr) f.1) = b := List.filter_eq_self.2 fun f _ => by simp [hasT, getT]
  rw [this]
  simp [linesT]
theorem trees_gone (lb : longT b = false) : costP (treesP b []) = linesT b := by
  rw [trees_cost lb (by rfl)]
  have h1 : (b.filter fun f => !hasT ([] : Tr) f.1) = b := List.filter_eq_self.2 fun f _ => by simp [hasT, getT]
  have h2 : (b.filter fun f => hasT ([] : Tr) f.1) = [] := List.filter_eq_nil_iff.2 fun f _ => by simp [hasT, getT]
  rw [h1, h2]
  simp [linesT]
end

end Go.Proofs.YtbhnbkcokhfopaaGreat

/-
  Tables of how many lines are common at most, and the first pair that loses none. Nothing of any program.
-/
namespace Go.Proofs.YtbhnbkcokhfopaaGreat
open Go.RowKit

section
variable {a b : List ByteArray} {x y : ByteArray}
theorem lcs_one (a b : List ByteArray) (y : ByteArray) : lcs a (y :: b) ≤ lcs a b + 1 := by
  obtain ⟨s, p, q, e⟩ := lcs_some a (y :: b)
  cases q with
  | cons _ q => have := lcs_bound a b s p q; omega
  | cons_cons _ q =>
    rename_i s'
    have := lcs_bound a b s' ((List.sublist_cons_self y s').trans p) q
    rw [List.length_cons] at e
    omega
theorem lcs_one' (a b : List ByteArray) (x : ByteArray) : lcs (x :: a) b ≤ lcs a b + 1 := by
  rw [lcs_comm, lcs_comm a b]; exact lcs_one b a x
theorem lcs_same : lcs (x :: a) (x :: b) = lcs a b + 1 := by
  have h1 := lcs_one a b x
  have h2 := lcs_one' a b x
  rw [lcs_cons, if_pos rfl]; omega
theorem lcs_other (h : x ≠ y) : lcs (x :: a) (y :: b) = max (lcs a (y :: b)) (lcs (x :: a) b) := by rw [lcs_cons, if_neg h]; omega
end

/-- How many from these places on. -/
def tabB (a b : List ByteArray) (i j : Nat) : Nat := lcs (a.drop i) (b.drop j)
/-- How many ahead of these places. -/
def tabM (a b : List ByteArray) (i k : Nat) : Nat := lcs (a.take i).reverse (b.take k).reverse
section
variable {a b : List ByteArray} {i j k : Nat}
theorem tabB_same (hi : i < a.length) (hj : j < b.length) (h : a.getD i ByteArray.empty = b.getD j ByteArray.empty) : tabB a b i j = tabB a b (i + 1) (j + 1) + 1 := by
  unfold tabB
  rw [drop_cons hi, drop_cons hj, h, lcs_same]
theorem tabB_other (hi : i < a.length) (hj : j < b.length) (h : a.getD i ByteArray.empty ≠ b.getD j ByteArray.empty) : tabB a b i j = max (tabB a b (i + 1) j) (tabB a b i (j + 1)) := by
  unfold tabB
  rw [drop_cons hi, drop_cons hj, lcs_other h]
theorem tabB_left (h : a.length ≤ i) : tabB a b i j = 0 := by unfold tabB; rw [List.drop_eq_nil_of_le h, lcs_nil_left]
theorem tabB_right (h : b.length ≤ j) : tabB a b i j = 0 := by unfold tabB; rw [List.drop_eq_nil_of_le h, lcs_nil_right]
theorem tabB_le (a b : List ByteArray) (i j : Nat) : tabB a b i j ≤ a.length := by
  obtain ⟨s, p, _, e⟩ := lcs_some (a.drop i) (b.drop j)
  have := p.length_le
  rw [List.length_drop] at this
  unfold tabB; omega
theorem tabB_whole (a b : List ByteArray) : tabB a b 0 0 = lcs a b := rfl
theorem take_rev {l : List ByteArray} {i : Nat} (h : i < l.length) : (l.take (i + 1)).reverse = l.getD i ByteArray.empty :: (l.take i).reverse := by
  rw [List.take_succ_eq_append_getElem h, List.reverse_append]
  simp [List.getD, List.getElem?_eq_getElem h]
theorem tabM_step (hi : i < a.length) (hk : k < b.length) : tabM a b (i + 1) (k + 1) = max (max (tabM a b i (k + 1)) (tabM a b (i + 1) k)) (if a.getD i ByteArray.empty = b.getD k ByteArray.empty then tabM a b i k + 1 else 0) := by
  unfold tabM
  rw [take_rev hi, take_rev hk, lcs_cons]
theorem tabM_left : tabM a b 0 k = 0 := by unfold tabM; rw [List.take_zero, List.reverse_nil, lcs_nil_left]
theorem tabM_right : tabM a b i 0 = 0 := by unfold tabM; rw [List.take_zero, List.reverse_nil, lcs_nil_right]
theorem tabM_le (a b : List ByteArray) (i k : Nat) : tabM a b i k ≤ a.length := by
  obtain ⟨s, p, _, e⟩ := lcs_some (a.take i).reverse (b.take k).reverse
  have := p.length_le
  rw [List.length_reverse, List.length_take] at this
  unfold tabM; omega
theorem tabM_whole (a b : List ByteArray) : tabM a b a.length b.length = lcs a b := by
  unfold tabM
  rw [List.take_of_length_le (Nat.le_refl _), List.take_of_length_le (Nat.le_refl _), lcs_reverse]
theorem rev_take (l : List ByteArray) (i : Nat) : (l.reverse.take i).reverse = l.drop (l.length - i) := by
  rw [List.take_reverse, List.reverse_reverse]
theorem tabM_turned (a b : List ByteArray) (i k : Nat) : tabM a.reverse b.reverse i k = tabB a b (a.length - i) (b.length - k) := by
  unfold tabM tabB
  rw [rev_take, rev_take]
end

theorem findSome_range {α : Type} {f : Nat → Option α} {x : Nat} {v : α} (hv : f x = some v) (hno : ∀ y, y < x → f y = none) : ∀ n, x < n → (List.range n).findSome? f = some v
  | 0, h => absurd h (Nat.not_lt_zero _)
  | n + 1, h => by
    rw [List.range_succ, List.findSome?_append]
    by_cases e : x < n
    · rw [findSome_range hv hno n e]; rfl
    · obtain rfl : x = n := by omega
      rw [List.findSome?_eq_none_iff.2 (fun y hy => hno y (List.mem_range.1 hy))]
      simp [hv]
theorem find_range {p : Nat → Bool} {x : Nat} (hv : p x = true) (hno : ∀ y, y < x → p y = false) : ∀ n, x < n → (List.range n).find? p = some x
  | 0, h => absurd h (Nat.not_lt_zero _)
  | n + 1, h => by
    rw [List.range_succ, List.find?_append]
    by_cases e : x < n
    · rw [find_range hv hno n e]; rfl
    · obtain rfl : x = n := by omega
      rw [List.find?_eq_none.2 (fun y hy => by simp [hno y (List.mem_range.1 hy)])]
      simp [hv]

/-- None of the pairs ahead of x and y will do. -/
def NoneYet (a b : List ByteArray) (left i k x y : Nat) : Prop := ∀ x' y', i ≤ x' → k ≤ y' → y' < b.length → (x' < x ∨ (x' = x ∧ y' < y)) → goodAt a b left x' y' = false
section
variable {a b : List ByteArray} {left i k x y : Nat}
theorem NoneYet.start : NoneYet a b left i k i k := by
  rintro x' y' h1 h2 _ (h3 | ⟨rfl, h3⟩) <;> omega
theorem NoneYet.step (h : NoneYet a b left i k x y) (hg : goodAt a b left x y = false) : NoneYet a b left i k x (y + 1) := by
  intro x' y' h1 h2 h3 h4
  by_cases e : x' = x ∧ y' = y
  · rw [e.1, e.2]; exact hg
  · exact h x' y' h1 h2 h3 (by omega)
theorem NoneYet.next (h : NoneYet a b left i k x y) (hy : b.length ≤ y) : NoneYet a b left i k (x + 1) k := by
  intro x' y' h1 h2 h3 h4
  exact h x' y' h1 h2 h3 (by omega)
theorem next_is (h : NoneYet a b left i k x y) (hi : i ≤ x) (hk : k ≤ y) (hx : x < a.length) (hy : y < b.length) (hg : goodAt a b left x y = true) : nextPair a b left i k = some (x, y) := by
  unfold nextPair
  refine findSome_range ?_ ?_ _ hx
  · rw [if_pos hi]
    unfold rowPair
    rw [find_range (x := y) (by simp [hk, hg]) (fun y' h' => ?_) _ hy]
    · rfl
    · by_cases e : k ≤ y'
      · simp [h x y' hi e (by omega) (.inr ⟨rfl, h'⟩)]
      · simp [e]
  · intro x' hx'
    split
    · rename_i hi'
      unfold rowPair
      rw [List.find?_eq_none.2]
      · rfl
      · intro y' hy'
        by_cases e : k ≤ y'
        · simp [h x' y' hi' e (List.mem_range.1 hy') (.inl hx')]
        · simp [e]
    · rfl
/-- There is one as long as some are left. -/
theorem NoneYet.more (h : NoneYet a b (left + 1) i k x y) (ht : tabB a b i k = left + 1) : x < a.length ∧ (b.length ≤ y → x + 1 < a.length) := by
  obtain ⟨x0, y0, c1, c2, c3, c4, c5⟩ := good_some _ i k rfl ht
  have h1 : ¬ (x0 < x ∨ (x0 = x ∧ y0 < y)) := fun e => by rw [h x0 y0 c1 c2 c4 e] at c5; cases c5
  constructor
  · omega
  · intro hy; omega
end

end Go.Proofs.YtbhnbkcokhfopaaGreat
