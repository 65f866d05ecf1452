import Derived.Test.YtomboeiaajggoaaGreatPk3

/-
  Two prims in the other order make the same tree. Nothing of any program.
-/
namespace Go.Proofs.YtomboeiaajggoaaGreat
open Go.RowKit

/-- Trees that have the same files are one. -/
theorem tree_ext {a b : Tr} (ha : Rising a) (hb : Rising b) (h : ∀ n, getT a n = getT b n) : a = b :=
  rising_ext ha hb fun f => by
    obtain ⟨n, l⟩ := f
    rw [← getT_iff ha, ← getT_iff hb, h]
theorem get_with {t : Tr} (ht : Rising t) (n m : ByteArray) (l : List ByteArray) : getT (withT t n l) m = if m = n then some l else getT t m := by
  by_cases e : m = n
  · subst e; rw [if_pos rfl, get_with_same ht]
  · rw [if_neg e, get_with_other ht l e]
theorem get_without {t : Tr} (ht : Rising t) (n m : ByteArray) : getT (withoutT t n) m = if m = n then none else getT t m := by
  by_cases e : m = n
  · subst e; rw [if_pos rfl, get_without_same]
  · rw [if_neg e]
    cases hg : getT t m with
    | none => exact getT_none.2 fun f hf => getT_none.1 hg f (mem_without.1 hf).1
    | some l => exact (getT_iff (rising_without ht n)).2 (mem_without.2 ⟨getT_mem hg, e⟩)
theorem has_none {t : Tr} {n : ByteArray} (h : getT t n = none) : hasT t n = false := by simp [hasT, h]

/-- A tree as what each name has. -/
abbrev Look := ByteArray → Option (List ByteArray)
def putL (g : Look) (n : ByteArray) (o : Option (List ByteArray)) : Look := fun m => if m = n then o else g m

/-- What a prim asks of a tree, and what it makes of it. -/
structure Makes (p : Pr) (g g' : Look) : Prop where
  hunk : p.kind = 0 → ∃ l, g p.name = some l ∧ standsB l p.place p.old = true ∧ g' = putL g p.name (some (spliced l p.place.toNat p.old.length p.new))
  add : p.kind = 1 → g p.name = none ∧ g' = putL g p.name (some [])
  rm : p.kind = 2 → g p.name = some [] ∧ g' = putL g p.name none
  move : p.kind = 3 → ∃ l, g p.name = some l ∧ g p.to = none ∧ g' = putL (putL g p.name none) p.to (some l)

theorem getT_with {t : Tr} (ht : Rising t) (n : ByteArray) (l : List ByteArray) : getT (withT t n l) = putL (getT t) n (some l) := funext fun m => get_with ht n m l
theorem getT_without {t : Tr} (ht : Rising t) (n : ByteArray) : getT (withoutT t n) = putL (getT t) n none := funext fun m => get_without ht n m

theorem apply_makes {t u : Tr} {p : Pr} (ht : Rising t) (h : applyP t p = (u, 0)) : rightP p = true ∧ Rising u ∧ Makes p (getT t) (getT u) := by
  have hr : rightP p = true := by
    cases e : rightP p
    · simp [applyP, e] at h
    · rfl
  refine ⟨hr, by have := rising_apply ht p; rwa [h] at this, ?_⟩
  simp only [applyP, hr, Bool.true_eq_false, if_false] at h
  rcases (right_parts hr).2.1 with e | e | e | e
  · simp only [e, if_true, hunkT] at h
    cases hg : getT t p.name with
    | none => simp [hg] at h
    | some l =>
      simp only [hg] at h
      by_cases hs : standsB l p.place p.old = true
      · simp only [hs, if_true, Prod.mk.injEq, and_true] at h
        subst h
        exact ⟨fun _ => ⟨l, hg, hs, getT_with ht _ _⟩, fun x => by omega, fun x => by omega, fun x => by omega⟩
      · simp [hs] at h
  · simp only [e, Int.reduceEq, if_false, if_true] at h
    cases hg : getT t p.name with
    | some l => simp [getT_has hg] at h
    | none =>
      simp only [has_none hg, Bool.false_eq_true, if_false, Prod.mk.injEq, and_true] at h
      subst h
      exact ⟨fun x => by omega, fun _ => ⟨hg, getT_with ht _ _⟩, fun x => by omega, fun x => by omega⟩
  · simp only [e, Int.reduceEq, if_false, if_true] at h
    cases hg : getT t p.name with
    | none => simp [hg] at h
    | some l =>
      simp only [hg] at h
      cases l with
      | cons x l => simp at h
      | nil =>
        simp only [List.length_nil, Nat.lt_irrefl, if_false, Prod.mk.injEq, and_true] at h
        subst h
        exact ⟨fun x => by omega, fun x => by omega, fun _ => ⟨hg, getT_without ht _⟩, fun x => by omega⟩
  · simp only [e, Int.reduceEq, if_false] at h
    cases hg : getT t p.name with
    | none => simp [hg] at h
    | some l =>
      simp only [hg] at h
      cases hh : getT t p.to with
      | some l' => simp [getT_has hh] at h
      | none =>
        simp only [has_none hh, Bool.false_eq_true, if_false, Prod.mk.injEq, and_true] at h
        subst h
        exact ⟨fun x => by omega, fun x => by omega, fun x => by omega, fun _ => ⟨l, hg, hh, by rw [getT_with (rising_without ht _), getT_without ht]⟩⟩

theorem makes_apply {t : Tr} {p : Pr} {g : Look} (ht : Rising t) (hr : rightP p = true) (h : Makes p (getT t) g) : ∃ u, applyP t p = (u, 0) ∧ Rising u ∧ getT u = g := by
  simp only [applyP, hr, Bool.true_eq_false, if_false]
  rcases (right_parts hr).2.1 with e | e | e | e
  · obtain ⟨l, hg, hs, rfl⟩ := h.hunk e
    exact ⟨_, by simp only [e, if_true, hunkT, hg, hs], rising_with ht _ _, getT_with ht _ _⟩
  · obtain ⟨hg, rfl⟩ := h.add e
    exact ⟨_, by simp only [e, Int.reduceEq, if_false, if_true, has_none hg, Bool.false_eq_true], rising_with ht _ _, getT_with ht _ _⟩
  · obtain ⟨hg, rfl⟩ := h.rm e
    exact ⟨_, by simp only [e, Int.reduceEq, if_false, if_true, hg, List.length_nil, Nat.lt_irrefl], rising_without ht _, getT_without ht _⟩
  · obtain ⟨l, hg, hh, rfl⟩ := h.move e
    exact ⟨withT (withoutT t p.name) p.to l, by simp only [e, Int.reduceEq, if_false, hg, has_none hh, Bool.false_eq_true], rising_with (rising_without ht _) _ _, by rw [getT_with (rising_without ht _), getT_without ht]⟩

section
variable {p q a b : Pr} {g g' : Look}
theorem putL_same (g : Look) (n : ByteArray) (o) : putL g n o n = o := by simp [putL]
theorem putL_other (g : Look) {n m : ByteArray} (o) (h : m ≠ n) : putL g n o m = g m := by simp [putL, h]
theorem putL_putL (g : Look) (n : ByteArray) (o o') : putL (putL g n o) n o' = putL g n o' := by
  funext m; by_cases h : m = n <;> simp [putL, h]
theorem putL_comm (g : Look) {n m : ByteArray} (o o') (h : n ≠ m) : putL (putL g n o) m o' = putL (putL g m o') n o := by
  funext k
  by_cases h1 : k = n
  · subst h1; simp [putL, h]
  · by_cases h2 : k = m
    · subst h2; simp [putL, h1]
    · simp [putL, h1, h2]

/-- It changes nothing else. -/
theorem Makes.other (h : Makes p g g') (hk : p.kind = 0 ∨ p.kind = 1 ∨ p.kind = 2 ∨ p.kind = 3) {n : ByteArray} (hn : n ∉ namesP p) : g' n = g n := by
  rw [mem_names] at hn
  have hn1 : n ≠ p.name := fun e => hn (.inl e)
  rcases hk with e | e | e | e
  · obtain ⟨l, _, _, rfl⟩ := h.hunk e; exact putL_other _ _ hn1
  · obtain ⟨_, rfl⟩ := h.add e; exact putL_other _ _ hn1
  · obtain ⟨_, rfl⟩ := h.rm e; exact putL_other _ _ hn1
  · obtain ⟨l, _, _, rfl⟩ := h.move e
    rw [putL_other _ _ (fun x => hn (.inr ⟨e, x⟩)), putL_other _ _ hn1]
/-- It looks at nothing else. -/
theorem Makes.local_ (h : Makes p g g') (hk : p.kind = 0 ∨ p.kind = 1 ∨ p.kind = 2 ∨ p.kind = 3) {k : Look} (hg : ∀ n ∈ namesP p, k n = g n) : ∃ k', Makes p k k' ∧ ∀ n ∈ namesP p, k' n = g' n := by
  have h1 : k p.name = g p.name := hg _ (mem_names.2 (.inl rfl))
  rcases hk with e | e | e | e
  · obtain ⟨l, a1, a2, rfl⟩ := h.hunk e
    refine ⟨_, ⟨fun _ => ⟨l, h1.trans a1, a2, rfl⟩, fun x => by omega, fun x => by omega, fun x => by omega⟩, fun n hn => ?_⟩
    by_cases en : n = p.name
    · subst en; rw [putL_same, putL_same]
    · rw [putL_other _ _ en, putL_other _ _ en, hg n hn]
  · obtain ⟨a1, rfl⟩ := h.add e
    refine ⟨_, ⟨fun x => by omega, fun _ => ⟨h1.trans a1, rfl⟩, fun x => by omega, fun x => by omega⟩, fun n hn => ?_⟩
    by_cases en : n = p.name
    · subst en; rw [putL_same, putL_same]
    · rw [putL_other _ _ en, putL_other _ _ en, hg n hn]
  · obtain ⟨a1, rfl⟩ := h.rm e
    refine ⟨_, ⟨fun x => by omega, fun x => by omega, fun _ => ⟨h1.trans a1, rfl⟩, fun x => by omega⟩, fun n hn => ?_⟩
    by_cases en : n = p.name
    · subst en; rw [putL_same, putL_same]
    · rw [putL_other _ _ en, putL_other _ _ en, hg n hn]
  · obtain ⟨l, a1, a2, rfl⟩ := h.move e
    have h2 : k p.to = g p.to := hg _ (mem_names.2 (.inr ⟨e, rfl⟩))
    refine ⟨_, ⟨fun x => by omega, fun x => by omega, fun x => by omega, fun _ => ⟨l, h1.trans a1, h2.trans a2, rfl⟩⟩, fun n hn => ?_⟩
    by_cases et : n = p.to
    · subst et; rw [putL_same, putL_same]
    · rw [putL_other _ _ et, putL_other _ _ et]
      by_cases en : n = p.name
      · subst en; rw [putL_same, putL_same]
      · rw [putL_other _ _ en, putL_other _ _ en, hg n hn]

/-- Two that name no common file. -/
theorem apart_fits {t u v : Tr} (ht : Rising t) (hc : commonP p q = false) (h1 : applyP t p = (u, 0)) (h2 : applyP u q = (v, 0)) : ∃ u', applyP t q = (u', 0) ∧ applyP u' p = (v, 0) := by
  obtain ⟨hp, hu, m1⟩ := apply_makes ht h1
  obtain ⟨hq, hv, m2⟩ := apply_makes hu h2
  have kp := (right_parts hp).2.1
  have kq := (right_parts hq).2.1
  have dis := common_no.1 hc
  obtain ⟨k1, n1, e1⟩ := m2.local_ kq (k := getT t) fun n hn => (m1.other kp (fun h => dis n h hn)).symm
  obtain ⟨u', hu', ru', gu'⟩ := makes_apply ht hq n1
  subst gu'
  obtain ⟨k2, n2, e2⟩ := m1.local_ kp (k := getT u') fun n hn => n1.other kq (dis n hn)
  obtain ⟨v', hv', rv', gv'⟩ := makes_apply ru' hp n2
  subst gv'
  have : v' = v := tree_ext rv' hv fun n => by
    by_cases hnp : n ∈ namesP p
    · rw [e2 n hnp, m2.other kq (dis n hnp)]
    · rw [n2.other kp hnp]
      by_cases hnq : n ∈ namesP q
      · exact e1 n hnq
      · rw [n1.other kq hnq, m2.other kq hnq, m1.other kp hnp]
  subst this
  exact ⟨u', hu', hv'⟩
end

theorem stands_parts {l part : List ByteArray} {k : Nat} (h : standsB l k part = true) : ∃ A B, l = A ++ (part ++ B) ∧ A.length = k := by
  obtain ⟨h1, h2⟩ := stands_eq h
  refine ⟨l.take k, l.drop (k + part.length), ?_, by rw [List.length_take]; omega⟩
  rw [← List.drop_drop]
  conv => lhs; rw [← List.take_append_drop k l, ← List.take_append_drop part.length (l.drop k), h2]
theorem parts_stands (A part B : List ByteArray) : standsB (A ++ (part ++ B)) (A.length : Nat) part = true := by
  rw [standsB_in (by simp only [List.length_append]; omega)]
  exact sameB_yes (by rw [List.drop_left, List.take_left])
theorem parts_spliced (A part B w : List ByteArray) : spliced (A ++ (part ++ B)) A.length part.length w = A ++ (w ++ B) := by
  unfold spliced
  rw [← List.drop_drop, List.drop_left, List.drop_left, List.take_left, List.append_assoc]

/-- Two Hunks of one file, the second one behind the first. -/
theorem behind_lines {l po pn qo qn : List ByteArray} {i j : Nat} (h1 : standsB l i po = true) (h2 : standsB (spliced l i po.length pn) j qo = true) (hj : i + pn.length < j) :
    standsB l (j - pn.length + po.length : Nat) qo = true ∧ standsB (spliced l (j - pn.length + po.length) qo.length qn) i po = true ∧
    spliced (spliced l (j - pn.length + po.length) qo.length qn) i po.length pn = spliced (spliced l i po.length pn) j qo.length qn := by
  obtain ⟨A, B, rfl, rfl⟩ := stands_parts h1
  rw [parts_spliced] at h2
  obtain ⟨C, D, e, rfl⟩ := stands_parts h2
  have hC : ∃ E, C = A ++ (pn ++ E) := by
    refine ⟨C.drop (A.length + pn.length), ?_⟩
    have h3 : (A ++ (pn ++ B)).take (A.length + pn.length) = A ++ pn := by rw [← List.append_assoc]; exact List.take_left' (by simp)
    have h4 : (C ++ (qo ++ D)).take (A.length + pn.length) = C.take (A.length + pn.length) := List.take_append_of_le_length (by omega)
    rw [e, h4] at h3
    rw [← List.append_assoc, ← h3, List.take_append_drop]
  obtain ⟨E, rfl⟩ := hC
  have hB : B = E ++ (qo ++ D) := by
    have : A ++ (pn ++ B) = A ++ (pn ++ (E ++ (qo ++ D))) := by rw [e]; simp only [List.append_assoc]
    exact List.append_cancel_left (List.append_cancel_left this)
  subst hB
  have el : (A ++ (pn ++ E)).length - pn.length + po.length = (A ++ (po ++ E)).length := by simp only [List.length_append]; omega
  have ea : A ++ (po ++ (E ++ (qo ++ D))) = (A ++ (po ++ E)) ++ (qo ++ D) := by simp only [List.append_assoc]
  have eb : A ++ (pn ++ (E ++ (qo ++ D))) = (A ++ (pn ++ E)) ++ (qo ++ D) := by simp only [List.append_assoc]
  rw [el]
  refine ⟨by rw [ea]; exact parts_stands _ _ _, ?_, ?_⟩
  · rw [ea, parts_spliced]
    have : A ++ (po ++ E) ++ (qn ++ D) = A ++ (po ++ (E ++ (qn ++ D))) := by simp only [List.append_assoc]
    rw [this]; exact parts_stands _ _ _
  · rw [parts_spliced, eb, parts_spliced]
    have : spliced (A ++ (po ++ (E ++ (qo ++ D)))) (A ++ (po ++ E)).length qo.length qn = A ++ (po ++ (E ++ (qn ++ D))) := by
      rw [ea, parts_spliced]; simp only [List.append_assoc]
    rw [this, parts_spliced]; simp only [List.append_assoc]

section
variable {p q a b : Pr} {t u v : Tr}
theorem behind_fits (ht : Rising t) (kp : p.kind = 0) (kq : q.kind = 0) (e : p.name = q.name) (hb : q.place > p.place + p.new.length)
    (hr : rightP (placed q (q.place - p.new.length + p.old.length)) = true) (h1 : applyP t p = (u, 0)) (h2 : applyP u q = (v, 0)) :
    ∃ u', applyP t (placed q (q.place - p.new.length + p.old.length)) = (u', 0) ∧ applyP u' p = (v, 0) := by
  obtain ⟨hp, hu, m1⟩ := apply_makes ht h1
  obtain ⟨hq, hv, m2⟩ := apply_makes hu h2
  obtain ⟨l, g1, s1, e1⟩ := m1.hunk kp
  obtain ⟨l', g2, s2, e2⟩ := m2.hunk kq
  rw [e1, ← e, putL_same] at g2
  cases g2
  have pp := place_in hp kp
  have qq := place_in hq kq
  obtain ⟨i, hi⟩ := Int.eq_ofNat_of_zero_le pp.1
  obtain ⟨j, hj⟩ := Int.eq_ofNat_of_zero_le qq.1
  rw [hi] at s1
  rw [hj, hi, Int.toNat_natCast] at s2
  obtain ⟨c1, c2, c3⟩ := behind_lines (qn := q.new) s1 s2 (by omega)
  have ej : q.place - p.new.length + p.old.length = ((j - p.new.length + p.old.length : Nat) : Int) := by omega
  have n1 : Makes (placed q (q.place - p.new.length + p.old.length)) (getT t) (putL (getT t) q.name (some (spliced l (j - p.new.length + p.old.length) q.old.length q.new))) :=
    ⟨fun _ => ⟨l, by rw [← g1, e]; rfl, by rw [ej]; exact c1, by rw [ej]; rfl⟩, fun x => by have : q.kind = 1 := x; omega, fun x => by have : q.kind = 2 := x; omega, fun x => by have : q.kind = 3 := x; omega⟩
  obtain ⟨u', hu', ru', gu'⟩ := makes_apply ht hr n1
  have n2 : Makes p (getT u') (putL (getT u') p.name (some (spliced (spliced l (j - p.new.length + p.old.length) q.old.length q.new) i p.old.length p.new))) :=
    ⟨fun _ => ⟨_, by rw [gu', e, putL_same], by rw [hi]; exact c2, by rw [hi]; rfl⟩, fun x => by omega, fun x => by omega, fun x => by omega⟩
  obtain ⟨v', hv', rv', gv'⟩ := makes_apply ru' hp n2
  have : v' = v := tree_ext rv' hv fun n => by
    rw [gv', gu', e2, e1, e, putL_putL, putL_putL, c3, hj, hi]; rfl
  subst this
  exact ⟨u', hu', hv'⟩

/-- A Hunk in a file that is moved behind it. -/
theorem moved_fits (ht : Rising t) (kp : p.kind = 0) (kq : q.kind = 3) (e : p.name = q.name) (hr : rightP (inFile p q.to) = true) (h1 : applyP t p = (u, 0)) (h2 : applyP u q = (v, 0)) :
    ∃ u', applyP t q = (u', 0) ∧ applyP u' (inFile p q.to) = (v, 0) := by
  obtain ⟨hp, hu, m1⟩ := apply_makes ht h1
  obtain ⟨hq, hv, m2⟩ := apply_makes hu h2
  obtain ⟨l, g1, s1, e1⟩ := m1.hunk kp
  obtain ⟨l', g2, g3, e2⟩ := m2.move kq
  have hne := move_else hq kq
  rw [e1, ← e, putL_same] at g2
  cases g2
  rw [e1, e, putL_other _ _ hne] at g3
  have n1 : Makes q (getT t) (putL (putL (getT t) q.name none) q.to (some l)) :=
    ⟨fun x => by omega, fun x => by omega, fun x => by omega, fun _ => ⟨l, by rw [← e]; exact g1, g3, rfl⟩⟩
  obtain ⟨u', hu', ru', gu'⟩ := makes_apply ht hq n1
  have n2 : Makes (inFile p q.to) (getT u') (putL (getT u') q.to (some (spliced l p.place.toNat p.old.length p.new))) :=
    ⟨fun _ => ⟨l, by rw [gu']; exact putL_same _ _ _, s1, rfl⟩, fun x => by have : p.kind = 1 := x; omega, fun x => by have : p.kind = 2 := x; omega, fun x => by have : p.kind = 3 := x; omega⟩
  obtain ⟨v', hv', rv', gv'⟩ := makes_apply ru' hr n2
  have : v' = v := tree_ext rv' hv fun n => by
    rw [gv', gu', e2, e1, e, putL_putL, putL_putL]
  subst this
  exact ⟨u', hu', hv'⟩

/-- P4.3, where p is a Hunk, or neither is, and q does not stand ahead of p in its file. -/
theorem swap_fits_first (ht : Rising t) (h1 : applyP t p = (u, 0)) (h2 : applyP u q = (v, 0)) (h : swapP p q = some (a, b)) (hk : p.kind = 0 ∨ q.kind ≠ 0) (ho : p.kind = 0 → q.kind = 0 → p.name = q.name → ¬ q.place + q.old.length < p.place) :
    ∃ u', applyP t a = (u', 0) ∧ applyP u' b = (v, 0) := by
  obtain ⟨hp, hq, ha, hb⟩ := swap_right h
  have apart : commonP p q = false → a = q → b = p → ∃ u', applyP t a = (u', 0) ∧ applyP u' b = (v, 0) := by
    rintro hc rfl rfl; exact apart_fits ht hc h1 h2
  by_cases kp : p.kind = 0
  · by_cases kq : q.kind = 0
    · rw [swap_HH hp hq kp kq] at h
      rcases swapHH_cases h with ⟨e, ea, eb⟩ | ⟨e, g1, g2, rfl, rfl⟩ | ⟨e, g1, _, _, _⟩
      · refine apart (common_no.2 fun n x y => ?_) ea eb
        rw [mem_names] at x y
        simp only [kp, kq, Int.reduceEq, false_and, or_false] at x y
        exact e (x.symm.trans y)
      · exact behind_fits ht kp kq e g1 ha h1 h2
      · exact absurd g1 (ho kp kq e)
    · rw [swap_HN hp hq kp kq] at h
      by_cases k3 : q.kind = 3 ∧ p.name = q.name
      · simp only [fwdN, k3.1, k3.2, if_true, Option.map_some, Option.some.injEq, Prod.mk.injEq] at h
        obtain ⟨rfl, rfl⟩ := h
        exact moved_fits ht kp k3.1 k3.2 hb h1 h2
      · obtain ⟨n, hf, hab⟩ := Option.map_eq_some_iff.1 h
        have hne : p.name ≠ q.name ∧ (q.kind = 3 → p.name ≠ q.to) ∧ n = p.name := by
          unfold fwdN at hf
          split at hf
          · rename_i e3
            rw [if_neg (fun x => k3 ⟨e3, x⟩)] at hf
            split at hf
            · cases hf
            · rename_i e4; cases hf; exact ⟨fun x => k3 ⟨e3, x⟩, fun _ => e4, rfl⟩
          · rename_i e3
            split at hf
            · cases hf
            · rename_i e4; cases hf; exact ⟨e4, fun x => absurd x e3, rfl⟩
        obtain ⟨x1, x2, rfl⟩ := hne
        cases hab
        refine apart (common_no.2 fun n x y => ?_) rfl rfl
        rw [mem_names] at x y
        simp only [kp, Int.reduceEq, false_and, or_false] at x
        subst x
        rcases y with y | y
        · exact x1 y
        · exact x2 y.1 y.2
  · have kq : q.kind ≠ 0 := hk.resolve_left kp
    rw [swap_NN hp hq kp kq] at h
    split at h
    · cases h
    · rename_i hc
      cases h
      exact apart (by simpa using hc) rfl rfl

/-- P4.3: of a tree that p fits, and then q, first fits it, and then second, and the tree is the same one. -/
theorem swap_fits (ht : Rising t) (h1 : applyP t p = (u, 0)) (h2 : applyP u q = (v, 0)) (h : swapP p q = some (a, b)) : ∃ u', applyP t a = (u', 0) ∧ applyP u' b = (v, 0) := by
  by_cases hc : (p.kind = 0 ∨ q.kind ≠ 0) ∧ (p.kind = 0 → q.kind = 0 → p.name = q.name → ¬ q.place + q.old.length < p.place)
  · exact swap_fits_first ht h1 h2 h hc.1 hc.2
  · obtain ⟨_, hu, _⟩ := apply_makes ht h1
    obtain ⟨_, hv, _⟩ := apply_makes hu h2
    have i1 := apply_back hu h2
    have i2 := apply_back ht h1
    have hi := swap_inverts_some h
    have : (invertP q).kind = 0 ∧ ((invertP q).kind = 0 → (invertP p).kind = 0 → (invertP q).name = (invertP p).name → ¬ (invertP p).place + (invertP p).old.length < (invertP q).place) := by
      rw [inv_kind0, inv_kind0]
      by_cases kq : q.kind = 0
      · refine ⟨kq, fun _ kp e => ?_⟩
        have e' : p.name = q.name := by rw [inv_name (by omega), inv_name (by omega)] at e; exact e.symm
        rw [inv_hunk kp, inv_hunk kq]
        simp only
        have : q.place + q.old.length < p.place := by
          rcases Int.lt_or_le (q.place + q.old.length) p.place with x | x
          · exact x
          · exact absurd ⟨.inl kp, fun _ _ _ => by omega⟩ hc
        omega
      · exact absurd ⟨.inr kq, fun _ x => absurd x kq⟩ hc
    obtain ⟨w, w1, w2⟩ := swap_fits_first hv i1 i2 hi (.inl this.1) this.2
    obtain ⟨_, hw, _⟩ := apply_makes hv w1
    refine ⟨w, ?_, ?_⟩
    · have := apply_back hw w2; rwa [invert_twice] at this
    · have := apply_back hv w1; rwa [invert_twice] at this
end

end Go.Proofs.YtomboeiaajggoaaGreat

/-
  Rows of prims as plain lists: what undoes them, what they make of a tree, and one row behind another one. Nothing of any program.
-/
namespace Go.Proofs.YtomboeiaajggoaaGreat
open Go.RowKit

/-- P5.1: what undoes a row. -/
def invertS (l : List Pr) : List Pr := (l.map invertP).reverse
/-- The trees that a row makes, one prim behind the other, and the first error. -/
def runS : Tr → List Pr → Tr × Int
  | t, [] => (t, 0)
  | t, p :: l => if (applyP t p).2 = 0 then runS (applyP t p).1 l else applyP t p
/-- P5.1: with an error the tree is as it was. -/
def applyS (t : Tr) (l : List Pr) : Tr × Int := if (runS t l).2 = 0 then runS t l else (t, (runS t l).2)

/-- A prim goes behind all of a row. -/
def swap1 : Pr → List Pr → Option (List Pr × Pr)
  | p, [] => some ([], p)
  | p, q :: m => (swapP p q).bind fun s => (swap1 s.2 m).map fun r => (s.1 :: r.1, r.2)
/-- P5.2: from the last one of l on, each goes behind all of m. -/
def swapS : List Pr → List Pr → Option (List Pr × List Pr)
  | [], m => some (m, [])
  | p :: l, m => (swapS l m).bind fun s => (swap1 p s.1).map fun r => (r.1, r.2 :: s.2)
/-- P5.3. -/
def rebaseS (m l : List Pr) : Option (List Pr) := (swapS (invertS l) m).map (·.1)
/-- P5.4, of places that are wanted: one round. -/
def splitStep (w : Bool) (s : List Pr × List Pr) (p : Pr) : List Pr × List Pr :=
  match swapS s.2 [p] with
  | some r => if w = true then (s.1 ++ r.1, r.2) else (s.1, s.2 ++ [p])
  | none => (s.1, s.2 ++ [p])
def splitS (wanted : Nat → Bool) : Nat → List Pr × List Pr → List Pr → List Pr × List Pr
  | _, s, [] => s
  | k, s, p :: l => splitS wanted (k + 1) (splitStep (wanted k) s p) l

theorem invertS_nil : invertS [] = [] := rfl
theorem invertS_cons (p : Pr) (l : List Pr) : invertS (p :: l) = invertS l ++ [invertP p] := by simp [invertS]
theorem invertS_append (l m : List Pr) : invertS (l ++ m) = invertS m ++ invertS l := by simp [invertS]
theorem invertS_one (p : Pr) : invertS [p] = [invertP p] := rfl
theorem invertS_twice (l : List Pr) : invertS (invertS l) = l := by
  induction l with
  | nil => rfl
  | cons p l ih => rw [invertS_cons, invertS_append, ih, invertS_one, invert_twice]; rfl
theorem invertS_length (l : List Pr) : (invertS l).length = l.length := by simp [invertS]

section
variable {p q : Pr} {l m a b : List Pr}
theorem swap1_cons {r : List Pr × Pr} : swap1 p (q :: m) = some r ↔ ∃ q' p1 m' p', swapP p q = some (q', p1) ∧ swap1 p1 m = some (m', p') ∧ r = (q' :: m', p') := by
  simp only [swap1]
  constructor
  · intro h
    obtain ⟨⟨q', p1⟩, h1, h⟩ := Option.bind_eq_some_iff.1 h
    obtain ⟨⟨m', p'⟩, h2, h⟩ := Option.map_eq_some_iff.1 h
    exact ⟨q', p1, m', p', h1, h2, h.symm⟩
  · rintro ⟨q', p1, m', p', h1, h2, rfl⟩
    simp [h1, h2]
theorem swapS_cons {r : List Pr × List Pr} : swapS (p :: l) m = some r ↔ ∃ m1 l' m2 p', swapS l m = some (m1, l') ∧ swap1 p m1 = some (m2, p') ∧ r = (m2, p' :: l') := by
  simp only [swapS]
  constructor
  · intro h
    obtain ⟨⟨m1, l'⟩, h1, h⟩ := Option.bind_eq_some_iff.1 h
    obtain ⟨⟨m2, p'⟩, h2, h⟩ := Option.map_eq_some_iff.1 h
    exact ⟨m1, l', m2, p', h1, h2, h.symm⟩
  · rintro ⟨q', p1, m', p', h1, h2, rfl⟩
    simp [h1, h2]
theorem swap1_length {r : List Pr × Pr} : ∀ {m : List Pr} {p : Pr}, swap1 p m = some r → r.1.length = m.length := by
  intro m
  induction m generalizing r with
  | nil => intro p h; cases h; rfl
  | cons q m ih =>
    intro p h
    obtain ⟨q', p1, m', p', _, h2, rfl⟩ := swap1_cons.1 h
    have := ih h2
    simp only [List.length_cons] at *
    omega
theorem swapS_length (h : swapS l m = some (a, b)) : a.length = m.length ∧ b.length = l.length := by
  induction l generalizing a b with
  | nil => cases h; exact ⟨rfl, rfl⟩
  | cons p l ih =>
    obtain ⟨m1, l', m2, p', h1, h2, e⟩ := swapS_cons.1 h
    cases e
    have k1 := ih h1
    have k2 := swap1_length h2
    simp only [List.length_cons] at *
    omega
theorem swapS_nil_right (l : List Pr) : swapS l [] = some ([], l) := by
  induction l with
  | nil => rfl
  | cons p l ih => simp [swapS, ih, swap1]
theorem swapS_one (p : Pr) (m : List Pr) : swapS [p] m = (swap1 p m).map fun r => (r.1, [r.2]) := by
  simp [swapS]
theorem swapS_ones (p q : Pr) : swapS [p] [q] = (swapP p q).map fun s => ([s.1], [s.2]) := by
  rw [swapS_one]
  simp only [swap1]
  cases swapP p q <;> rfl

/-- A prim behind two rows. -/
theorem swap1_append : swap1 p (l ++ m) = (swap1 p l).bind fun s => (swap1 s.2 m).map fun r => (s.1 ++ r.1, r.2) := by
  induction l generalizing p with
  | nil => simp [swap1]
  | cons q l ih =>
    simp only [List.cons_append, swap1]
    cases swapP p q with
    | none => rfl
    | some s =>
      simp only [Option.bind_some, ih]
      cases swap1 s.2 l with
      | none => rfl
      | some r =>
        simp only [Option.bind_some, Option.map_some]
        cases swap1 r.2 m <;> rfl
/-- A row behind two rows. -/
theorem swapS_append_right {k : List Pr} : swapS k (l ++ m) = (swapS k l).bind fun s => (swapS s.2 m).map fun r => (s.1 ++ r.1, r.2) := by
  induction k generalizing l m with
  | nil => simp [swapS]
  | cons p k ih =>
    simp only [swapS, ih]
    cases h1 : swapS k l with
    | none => rfl
    | some s =>
      simp only [Option.bind_some]
      cases h2 : swapS s.2 m with
      | none =>
        simp only [Option.map_none, Option.bind_none]
        cases h3 : swap1 p s.1 with
        | none => rfl
        | some r => simp only [Option.map_some, Option.bind_some, swapS, h2, Option.bind_none, Option.map_none]
      | some r =>
        simp only [Option.map_some, Option.bind_some, swap1_append]
        cases h3 : swap1 p s.1 with
        | none => rfl
        | some u =>
          simp only [Option.map_some, Option.bind_some, swapS, h2]
          cases swap1 u.2 r.1 <;> rfl
/-- Two rows behind a row. -/
theorem swapS_append_left {k : List Pr} : swapS (l ++ k) m = (swapS k m).bind fun s => (swapS l s.1).map fun r => (r.1, r.2 ++ s.2) := by
  induction l with
  | nil => simp only [List.nil_append, swapS]; cases swapS k m <;> rfl
  | cons p l ih =>
    simp only [List.cons_append, swapS, ih]
    cases swapS k m with
    | none => rfl
    | some s =>
      simp only [Option.bind_some]
      cases swapS l s.1 with
      | none => rfl
      | some r =>
        simp only [Option.map_some, Option.bind_some]
        cases swap1 p r.1 <;> rfl
theorem swapS_cons_right {q : Pr} : swapS l (q :: m) = (swapS l [q]).bind fun s => (swapS s.2 m).map fun r => (s.1 ++ r.1, r.2) := swapS_append_right (l := [q])

theorem swap1_back {m' : List Pr} {p' : Pr} (h : swap1 p m = some (m', p')) : swapS m' [p'] = some ([p], m) := by
  induction m generalizing p m' with
  | nil => cases h; rfl
  | cons q m ih =>
    obtain ⟨q', p1, m1, p2, h1, h2, e⟩ := swap1_cons.1 h
    cases e
    have k := ih h2
    have := swap_back h1
    simp only [swapS, k, Option.bind_some, swap1, this, Option.map_some]
/-- P5.5: swapped again, both are as they were. -/
theorem swapS_back (h : swapS l m = some (a, b)) : swapS a b = some (l, m) := by
  induction l generalizing a b with
  | nil => cases h; exact swapS_nil_right _
  | cons p l ih =>
    obtain ⟨m1, l', m2, p', h1, h2, e⟩ := swapS_cons.1 h
    cases e
    rw [swapS_cons_right, swap1_back h2]
    simp only [Option.bind_some, ih h1, Option.map_some]
    rfl
theorem swap1_inverts {m' : List Pr} {p' : Pr} (h : swap1 p m = some (m', p')) : swapS (invertS m) [invertP p] = some ([invertP p'], invertS m') := by
  induction m generalizing p m' with
  | nil => cases h; rfl
  | cons q m ih =>
    obtain ⟨q', p1, m1, p2, h1, h2, e⟩ := swap1_cons.1 h
    cases e
    rw [invertS_cons, swapS_append_left, swapS_ones, swap_inverts_some h1]
    simp only [Option.map_some, Option.bind_some, ih h2, invertS_cons]
/-- P5.5: what undoes m, and what undoes l. -/
theorem swapS_inverts_some (h : swapS l m = some (a, b)) : swapS (invertS m) (invertS l) = some (invertS b, invertS a) := by
  induction l generalizing a b with
  | nil => cases h; rw [invertS_nil, swapS_nil_right]
  | cons p l ih =>
    obtain ⟨m1, l', m2, p', h1, h2, e⟩ := swapS_cons.1 h
    cases e
    rw [invertS_cons, swapS_append_right, ih h1]
    simp only [Option.bind_some, swap1_inverts h2, Option.map_some, invertS_cons]
theorem swapS_inverts (l m : List Pr) : swapS (invertS m) (invertS l) = (swapS l m).map fun r => (invertS r.2, invertS r.1) := by
  cases h : swapS l m with
  | some r => exact swapS_inverts_some h
  | none =>
    cases k : swapS (invertS m) (invertS l) with
    | none => rfl
    | some r =>
      have := swapS_inverts_some k
      rw [invertS_twice, invertS_twice, h] at this
      cases this
end

section
variable {t u v : Tr} {p : Pr} {l m a b : List Pr}
theorem runS_cons : runS t (p :: l) = (u, 0) ↔ ∃ s, applyP t p = (s, 0) ∧ runS s l = (u, 0) := by
  simp only [runS]
  constructor
  · intro h
    split at h
    · rename_i e; exact ⟨_, by rw [← e], h⟩
    · rename_i e; rw [h] at e; exact absurd rfl e
  · rintro ⟨s, h1, h2⟩
    rw [h1]; simp [h2]
theorem runS_append : runS t (l ++ m) = (u, 0) ↔ ∃ s, runS t l = (s, 0) ∧ runS s m = (u, 0) := by
  induction l generalizing t with
  | nil => simp [runS]
  | cons p l ih =>
    rw [List.cons_append, runS_cons]
    simp only [runS_cons, ih]
    constructor
    · rintro ⟨s, h1, r, h2, h3⟩; exact ⟨r, ⟨s, h1, h2⟩, h3⟩
    · rintro ⟨r, ⟨s, h1, h2⟩, h3⟩; exact ⟨s, h1, r, h2, h3⟩
theorem applyS_ok : applyS t l = (u, 0) ↔ runS t l = (u, 0) := by
  unfold applyS
  constructor
  · intro h
    split at h
    · exact h
    · rename_i e; simp only [Prod.mk.injEq] at h; exact absurd h.2 e
  · intro h; rw [h]; rfl
theorem applyS_no (h : (applyS t l).2 ≠ 0) : (applyS t l).1 = t := by
  unfold applyS at *
  split
  · rename_i e; rw [if_pos e] at h; exact absurd e h
  · rfl
theorem runS_rising (ht : Rising t) (h : runS t l = (u, 0)) : Rising u := by
  induction l generalizing t with
  | nil => simp only [runS, Prod.mk.injEq, and_true] at h; exact h ▸ ht
  | cons p l ih =>
    obtain ⟨s, h1, h2⟩ := runS_cons.1 h
    exact ih (apply_makes ht h1).2.1 h2
/-- P5.5: what was applied can be undone. -/
theorem runS_back (ht : Rising t) (h : runS t l = (u, 0)) : runS u (invertS l) = (t, 0) := by
  induction l generalizing t with
  | nil => simp only [runS, Prod.mk.injEq, and_true] at h; subst h; rfl
  | cons p l ih =>
    obtain ⟨s, h1, h2⟩ := runS_cons.1 h
    rw [invertS_cons, runS_append]
    refine ⟨s, ih (apply_makes ht h1).2.1 h2, ?_⟩
    rw [runS_cons]
    exact ⟨t, apply_back ht h1, rfl⟩
theorem swap1_fits {m' : List Pr} {p' : Pr} (ht : Rising t) (h1 : applyP t p = (u, 0)) (h2 : runS u m = (v, 0)) (h : swap1 p m = some (m', p')) : ∃ u', runS t m' = (u', 0) ∧ applyP u' p' = (v, 0) := by
  induction m generalizing p m' t u with
  | nil =>
    cases h
    simp only [runS, Prod.mk.injEq, and_true] at h2
    subst h2
    exact ⟨t, rfl, h1⟩
  | cons q m ih =>
    obtain ⟨q', p1, m1, p2, g1, g2, e⟩ := swap1_cons.1 h
    cases e
    obtain ⟨s, k1, k2⟩ := runS_cons.1 h2
    obtain ⟨r, r1, r2⟩ := swap_fits ht h1 k1 g1
    obtain ⟨w, w1, w2⟩ := ih (apply_makes ht r1).2.1 r2 k2 g2
    exact ⟨w, runS_cons.2 ⟨r, r1, w1⟩, w2⟩
/-- P5.5: rows that were swapped make what these made. -/
theorem swapS_fits (ht : Rising t) (h1 : runS t l = (u, 0)) (h2 : runS u m = (v, 0)) (h : swapS l m = some (a, b)) : ∃ u', runS t a = (u', 0) ∧ runS u' b = (v, 0) := by
  induction l generalizing a b t with
  | nil =>
    cases h
    simp only [runS, Prod.mk.injEq, and_true] at h1
    subst h1
    exact ⟨v, h2, rfl⟩
  | cons p l ih =>
    obtain ⟨m1, l', m2, p', g1, g2, e⟩ := swapS_cons.1 h
    cases e
    obtain ⟨s, k1, k2⟩ := runS_cons.1 h1
    obtain ⟨r, r1, r2⟩ := ih (apply_makes ht k1).2.1 k2 g1
    obtain ⟨w, w1, w2⟩ := swap1_fits ht k1 r1 g2
    exact ⟨w, w1, runS_cons.2 ⟨r, w2, r2⟩⟩

theorem rebase_iff : rebaseS m l = some a ↔ ∃ b, swapS (invertS l) m = some (a, b) := by
  unfold rebaseS
  constructor
  · intro h
    obtain ⟨⟨x, b⟩, h1, rfl⟩ := Option.map_eq_some_iff.1 h
    exact ⟨b, h1⟩
  · rintro ⟨b, h⟩; rw [h]; rfl
/-- P5.5: either can be, if one can. -/
theorem rebase_other (h : swapS (invertS l) m = some (a, b)) : rebaseS l m = some (invertS b) := by
  have := swapS_inverts_some h
  rw [invertS_twice] at this
  exact rebase_iff.2 ⟨_, this⟩
theorem rebase_some (l m : List Pr) : (rebaseS m l).isSome = (rebaseS l m).isSome := by
  have key : ∀ l m : List Pr, (rebaseS m l).isSome = true → (rebaseS l m).isSome = true := fun l m h => by
    obtain ⟨x, hx⟩ := Option.isSome_iff_exists.1 h
    obtain ⟨b, hb⟩ := rebase_iff.1 hx
    rw [rebase_other hb]; rfl
  rw [Bool.eq_iff_iff]
  exact ⟨key l m, key m l⟩
/-- P5.5: both orders of merging make the same tree. -/
theorem merges {t1 u1 : Tr} {c : List Pr} (ht : Rising t) (h1 : runS t l = (t1, 0)) (h2 : runS t m = (u1, 0)) (h : rebaseS m l = some a) (k : rebaseS l m = some c) : ∃ v, runS t1 a = (v, 0) ∧ runS u1 c = (v, 0) := by
  obtain ⟨b, hb⟩ := rebase_iff.1 h
  rw [rebase_other hb] at k
  cases k
  have r1 := runS_rising ht h1
  obtain ⟨w, w1, w2⟩ := swapS_fits r1 (runS_back ht h1) h2 hb
  exact ⟨w, w1, runS_back (runS_rising r1 w1) w2⟩

theorem splitStep_fits {s : List Pr × List Pr} (ht : Rising t) (w : Bool) (h : runS t (s.1 ++ s.2 ++ [p]) = (u, 0)) : runS t ((splitStep w s p).1 ++ (splitStep w s p).2) = (u, 0) := by
  unfold splitStep
  have same : runS t (s.1 ++ (s.2 ++ [p])) = (u, 0) := by rw [← List.append_assoc]; exact h
  cases hs : swapS s.2 [p] with
  | none => exact same
  | some r =>
    obtain ⟨a, b⟩ := r
    dsimp only
    split
    · obtain ⟨x, x1, x2⟩ := runS_append.1 same
      obtain ⟨y, y1, y2⟩ := runS_append.1 x2
      obtain ⟨z, z1, z2⟩ := swapS_fits (runS_rising ht x1) y1 y2 hs
      rw [List.append_assoc]
      exact runS_append.2 ⟨x, x1, runS_append.2 ⟨z, z1, z2⟩⟩
    · exact same
/-- P5.5: what is brought ahead, and the rest, make the tree that the row made. -/
theorem splitS_fits (ht : Rising t) (wanted : Nat → Bool) (l : List Pr) (k : Nat) (s : List Pr × List Pr) (h : runS t (s.1 ++ s.2 ++ l) = (u, 0)) : runS t ((splitS wanted k s l).1 ++ (splitS wanted k s l).2) = (u, 0) := by
  induction l generalizing k s with
  | nil => simpa [splitS] using h
  | cons p l ih =>
    refine ih (k + 1) _ ?_
    rw [show s.1 ++ s.2 ++ p :: l = (s.1 ++ s.2 ++ [p]) ++ l by simp] at h
    obtain ⟨x, x1, x2⟩ := runS_append.1 h
    exact runS_append.2 ⟨x, splitStep_fits ht _ x1, x2⟩
end

end Go.Proofs.YtomboeiaajggoaaGreat
