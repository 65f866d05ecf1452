import Derived.Test.YtbhnbkcokhfopaaGreatPk4
import Derived.Test.YtbhnbkcokhfopaaGreatPk3
import Derived.Test.YtbhnbkcokhfopaaGreatPk7
import Derived.Deep.MidRow
import Derived.Lib.Hide
import Derived.Test.YtbhnbkcokhfopaaGreatChecked
import Derived.Deep.LoopGhost
import Derived.Deep.QuietTactic
import Derived.BigQuiet

/-
  Tables of numbers in memory: rows of rows.
-/
namespace Go.Proofs.YtbhnbkcokhfopaaGreat
open Go.RowKit Go.Maps

/-- Block g holds m numbers. -/
def NumsAt (w : World) (g m : Nat) (e : TypeId) (f : Nat → Nat) : Prop := ∃ cs, BoxAt w g cs e ∧ cs.size = m ∧ ∀ j, j < m → cs[j]? = some (.int .i64 (f j : Nat))
section
variable {w w' : World} {g m : Nat} {e : TypeId} {f : Nat → Nat}
theorem NumsAt.lt (h : NumsAt w g m e f) : g < w.heap.size := by obtain ⟨cs, hb, _⟩ := h; exact hb.lt
theorem NumsAt.later (h : NumsAt w g m e f) (hl : Later w w') : NumsAt w' g m e f := by obtain ⟨cs, hb, hs, hc⟩ := h; exact ⟨cs, hb.later hl, hs, hc⟩
theorem NumsAt.other {b : Nat} (h : NumsAt w g m e f) (hg : Turned b w w') (hne : g ≠ b) : NumsAt w' g m e f := by obtain ⟨cs, hb, hs, hc⟩ := h; exact ⟨cs, hb.other hg hne, hs, hc⟩
theorem NumsAt.cell (h : NumsAt w g m e f) {j : Nat} (hj : j < m) : w.cell? ⟨g, j, none⟩ = some (.int .i64 (f j : Nat)) := by obtain ⟨cs, hb, hs, hc⟩ := h; exact hb.cell (hc j hj)
theorem NumsAt.frozen (h : NumsAt w g m e f) (j : Nat) : w.frozen? ⟨g, j, none⟩ = false := by obtain ⟨cs, hb, hs, hc⟩ := h; exact hb.frozen j
theorem NumsAt.set (h : NumsAt w g m e f) {j : Nat} (hj : j < m) (n : Nat) : NumsAt (w.setCell ⟨g, j, none⟩ (.int .i64 (n : Nat))) g m e (fun x => if x = j then n else f x) := by
  obtain ⟨cs, hb, hs, hc⟩ := h
  refine ⟨_, hb.set j _, by simpa using hs, fun i hi => ?_⟩
  by_cases e : i = j
  · subst e
    rw [Array.getElem?_setIfInBounds_self_of_lt (by omega)]
    simp
  · rw [Array.getElem?_setIfInBounds_ne (fun h => e h.symm), hc i hi]
    simp [e]
theorem NumsAt.is {f' : Nat → Nat} (h : NumsAt w g m e f) (he : ∀ j, j < m → f j = f' j) : NumsAt w g m e f' := by
  obtain ⟨cs, hb, hs, hc⟩ := h
  exact ⟨cs, hb, hs, fun j hj => by rw [hc j hj, he j hj]⟩
/-- A new row. -/
theorem NumsAt.made (w : World) (m : Nat) (e : TypeId) : NumsAt (w.alloc (.cells (madeCells #[.int .i64 0] m) e)) w.heap.size m e (fun _ => 0) := by
  refine ⟨_, BoxAt.made w _ e, size_madeCells _ _, fun j hj => ?_⟩
  unfold madeCells
  rw [Array.getElem?_map, Array.getElem?_range, if_pos hj]
  simp [Nat.mod_one]
end

/-- The slice at A reads as a table, from row lo on. -/
def TabAt (w : World) (A : Option Addr) (n m lo : Nat) (T : Nat → Nat → Nat) : Prop :=
  ∀ i, lo ≤ i → i < n → ∃ b o g c, A = some ⟨b, o, none⟩ ∧ w.cell? ⟨b, o + i, none⟩ = some (.slice (some ⟨g, 0, none⟩) m c) ∧ ∀ j, j < m → w.cell? ⟨g, j, none⟩ = some (.int .i64 (T i j : Nat))
section
variable {w w' w0 : World} {A : Option Addr} {n m lo : Nat} {T : Nat → Nat → Nat}
theorem TabAt.later (h : TabAt w A n m lo T) (hl : Later w w') : TabAt w' A n m lo T := by
  intro i h1 h2
  obtain ⟨b, o, g, c, hA, hc, hr⟩ := h i h1 h2
  exact ⟨b, o, g, c, hA, hl.cell hc, fun j hj => hl.cell (hr j hj)⟩
end

/-- A table of the call's own (what it made since w0), its rows from lo on; all blocks below B. -/
structure OwnTab (eo ei : TypeId) (w0 w : World) (O n m lo B : Nat) (T : Nat → Nat → Nat) : Prop where
  later : Later w0 w
  base : w0.heap.size ≤ O
  below : O < B
  outer : ∃ cs, BoxAt w O cs eo ∧ cs.size = n ∧ ∀ i, lo ≤ i → i < n → ∃ g, cs[i]? = some (.slice (some ⟨g, 0, none⟩) m m) ∧ O < g ∧ g < B ∧ NumsAt w g m ei (T i)
section
variable {eo ei : TypeId} {w0 w w' : World} {O n m lo B : Nat} {T : Nat → Nat → Nat}
theorem OwnTab.on (h : OwnTab eo ei w0 w O n m lo B T) (hl : Later w w') : OwnTab eo ei w0 w' O n m lo B T := by
  obtain ⟨cs, hb, hs, hc⟩ := h.outer
  exact ⟨h.later.trans hl, h.base, h.below, cs, hb.later hl, hs, fun i h1 h2 => by obtain ⟨g, q1, q2, q3, q4⟩ := hc i h1 h2; exact ⟨g, q1, q2, q3, q4.later hl⟩⟩
theorem OwnTab.up (h : OwnTab eo ei w0 w O n m lo B T) {B' : Nat} (hB : B ≤ B') : OwnTab eo ei w0 w O n m lo B' T := by
  obtain ⟨cs, hb, hs, hc⟩ := h.outer
  exact ⟨h.later, h.base, Nat.lt_of_lt_of_le h.below hB, cs, hb, hs, fun i h1 h2 => by obtain ⟨g, q1, q2, q3, q4⟩ := hc i h1 h2; exact ⟨g, q1, q2, Nat.lt_of_lt_of_le q3 hB, q4⟩⟩
/-- A block behind them all has turned. -/
theorem OwnTab.other {b : Nat} (h : OwnTab eo ei w0 w O n m lo B T) (ht : Turned b w w') (hB : B ≤ b) : OwnTab eo ei w0 w' O n m lo B T := by
  obtain ⟨cs, hb, hs, hc⟩ := h.outer
  have h1 := h.base; have h2 := h.below
  exact ⟨h.later.turn ht (by omega), h1, h2, cs, hb.other ht (by omega), hs, fun i h1 h2 => by obtain ⟨g, q1, q2, q3, q4⟩ := hc i h1 h2; exact ⟨g, q1, q2, q3, q4.other ht (by omega)⟩⟩
theorem OwnTab.tab (h : OwnTab eo ei w0 w O n m lo B T) : TabAt w (some ⟨O, 0, none⟩) n m lo T := by
  obtain ⟨cs, hb, hs, hc⟩ := h.outer
  intro i h1 h2
  obtain ⟨g, q1, q2, q3, q4⟩ := hc i h1 h2
  exact ⟨O, 0, g, m, rfl, by rw [Nat.zero_add]; exact hb.cell q1, fun j hj => q4.cell hj⟩
theorem OwnTab.frozen (h : OwnTab eo ei w0 w O n m lo B T) (j : Nat) : w.frozen? ⟨O, j, none⟩ = false := by
  obtain ⟨cs, hb, _⟩ := h.outer
  exact hb.frozen j
theorem OwnTab.there (h : OwnTab eo ei w0 w O n m lo B T) {i : Nat} (hi : i < n) : ∃ v, w.cell? ⟨O, i, none⟩ = some v := by
  obtain ⟨cs, hb, hs, _⟩ := h.outer
  exact ⟨cs[i]'(by omega), hb.cell (Array.getElem?_eq_getElem (by omega))⟩
/-- The row that is being made: its block g stands at place i, and is right from place j on. -/
structure RowIn (eo ei : TypeId) (w0 w : World) (O n m i g j : Nat) (T : Nat → Nat → Nat) : Prop where
  tab : OwnTab eo ei w0 w O n m (i + 1) g T
  at_ : w.cell? ⟨O, i, none⟩ = some (.slice (some ⟨g, 0, none⟩) m m)
  row : ∃ f, NumsAt w g m ei f ∧ ∀ x, j ≤ x → x < m → f x = T i x
variable {i g j : Nat}
/-- A new row is put at place i. -/
theorem OwnTab.put (h : OwnTab eo ei w0 w O n m (i + 1) B T) (hi : i < n) (hg : B ≤ g) {f : Nat → Nat} (hr : NumsAt w g m ei f) (hf : ∀ x, j ≤ x → x < m → f x = T i x) :
    RowIn eo ei w0 (w.setCell ⟨O, i, none⟩ (.slice (some ⟨g, 0, none⟩) m m)) O n m i g j T := by
  have ht := turned_set w O i (.slice (some ⟨g, 0, none⟩) m m)
  have h2 := h.below
  obtain ⟨cs, hb, hs, hc⟩ := h.outer
  have hb' := hb.set i (.slice (some ⟨g, 0, none⟩) m m)
  refine ⟨⟨h.later.turn ht h.base, h.base, by omega, _, hb', by simpa using hs, fun x h3 h4 => ?_⟩, ?_, f, hr.other ht (by omega), hf⟩
  · obtain ⟨g', q1, q2, q3, q4⟩ := hc x h3 h4
    exact ⟨g', by rw [Array.getElem?_setIfInBounds_ne (by omega)]; exact q1, q2, by omega, q4.other ht (by omega)⟩
  · exact hb'.cell (by rw [Array.getElem?_setIfInBounds_self_of_lt (by omega)])
/-- A number is put into the row. -/
theorem RowIn.set (h : RowIn eo ei w0 w O n m i g (j + 1) T) (hj : j < m) (z : Nat) : RowIn eo ei w0 (w.setCell ⟨g, j, none⟩ (.int .i64 (z : Nat))) O n m i g (j + 1) T ∧ (z = T i j → RowIn eo ei w0 (w.setCell ⟨g, j, none⟩ (.int .i64 (z : Nat))) O n m i g j T) := by
  have ht := turned_set w g j (.int .i64 (z : Nat))
  obtain ⟨f, hr, hf⟩ := h.row
  have h2 := h.tab.below
  have hat : (w.setCell ⟨g, j, none⟩ (.int .i64 (z : Nat))).cell? ⟨O, i, none⟩ = some (.slice (some ⟨g, 0, none⟩) m m) := by
    obtain ⟨cs, hb, hs, hc⟩ := h.tab.outer
    have := h.at_
    unfold World.cell? at this ⊢
    rw [(hb.other ht (by omega)), hb] at *
    exact this
  refine ⟨⟨h.tab.other ht (Nat.le_refl _), hat, _, hr.set hj z, fun x h3 h4 => ?_⟩, fun hz => ⟨h.tab.other ht (Nat.le_refl _), hat, _, hr.set hj z, fun x h3 h4 => ?_⟩⟩
  · rw [if_neg (by omega)]; exact hf x h3 h4
  · by_cases e : x = j
    · subst e; rw [if_pos rfl]; exact hz
    · rw [if_neg e]; exact hf x (by omega) h4
theorem RowIn.cell (h : RowIn eo ei w0 w O n m i g j T) {x : Nat} (h1 : j ≤ x) (h2 : x < m) : w.cell? ⟨g, x, none⟩ = some (.int .i64 (T i x : Nat)) := by
  obtain ⟨f, hr, hf⟩ := h.row
  rw [← hf x h1 h2]
  exact hr.cell h2
theorem RowIn.there (h : RowIn eo ei w0 w O n m i g j T) {x : Nat} (h2 : x < m) : ∃ v, w.cell? ⟨g, x, none⟩ = some v := by
  obtain ⟨f, hr, hf⟩ := h.row
  exact ⟨_, hr.cell h2⟩
theorem RowIn.frozen (h : RowIn eo ei w0 w O n m i g j T) (x : Nat) : w.frozen? ⟨g, x, none⟩ = false := by
  obtain ⟨f, hr, hf⟩ := h.row
  exact hr.frozen x
/-- A row of the table ahead. -/
theorem RowIn.next (h : RowIn eo ei w0 w O n m i g j T) (hi : i + 1 < n) : ∃ g', w.cell? ⟨O, i + 1, none⟩ = some (.slice (some ⟨g', 0, none⟩) m m) ∧ g' < g ∧ ∀ x, x < m → w.cell? ⟨g', x, none⟩ = some (.int .i64 (T (i + 1) x : Nat)) := by
  obtain ⟨cs, hb, hs, hc⟩ := h.tab.outer
  obtain ⟨g', q1, q2, q3, q4⟩ := hc (i + 1) (Nat.le_refl _) hi
  exact ⟨g', hb.cell q1, q3, fun x hx => q4.cell hx⟩
theorem RowIn.done (h : RowIn eo ei w0 w O n m i g 0 T) : OwnTab eo ei w0 w O n m i (g + 1) T := by
  obtain ⟨f, hr, hf⟩ := h.row
  obtain ⟨cs, hb, hs, hc⟩ := h.tab.outer
  have h2 := h.tab.below
  refine ⟨h.tab.later, h.tab.base, by omega, cs, hb, hs, fun x h3 h4 => ?_⟩
  by_cases e : x = i
  · subst e
    have := h.at_
    unfold World.cell? at this
    rw [show w.heap[O]? = some (.cells cs eo (0, 0)) from hb] at this
    exact ⟨g, this, h2, by omega, hr.is (fun j hj => hf j (Nat.zero_le _) hj)⟩
  · obtain ⟨g', q1, q2, q3, q4⟩ := hc x (by omega) h4
    exact ⟨g', q1, q2, by omega, q4⟩
theorem RowIn.from_ (h : RowIn eo ei w0 w O n m i g j T) {k : Nat} (hk : j ≤ k) : RowIn eo ei w0 w O n m i g k T := by
  obtain ⟨f, hr, hf⟩ := h.row
  exact ⟨h.tab, h.at_, f, hr, fun x h1 h2 => hf x (by omega) h2⟩
theorem RowIn.on (h : RowIn eo ei w0 w O n m i g j T) (hl : Later w w') : RowIn eo ei w0 w' O n m i g j T := by
  obtain ⟨f, hr, hf⟩ := h.row
  exact ⟨h.tab.on hl, hl.cell h.at_, f, hr.later hl, hf⟩
/-- A new table, with no row yet. -/
theorem OwnTab.made (hl : Later w0 w) (cs : Array Value) (m : Nat) : OwnTab eo ei w0 (w.alloc (.cells cs eo)) w.heap.size cs.size m cs.size (w.heap.size + 1) T :=
  ⟨hl.alloc _, hl.le, by omega, cs, BoxAt.made w cs eo, rfl, fun i h1 h2 => by omega⟩
end

/-- A table that grows by append: n rows, all blocks below B. -/
structure OwnTt (eo ei : TypeId) (w0 w : World) (v : Value) (n m B : Nat) (T : Nat → Nat → Nat) : Prop where
  rows : ∃ gs : List Nat, OwnK eo 1 w0 w v (gs.map fun g => [.slice (some ⟨g, 0, none⟩) m m]) ∧ gs.length = n ∧ ∀ i g, gs[i]? = some g → NumsAt w g m ei (T i) ∧ w0.heap.size ≤ g ∧ g < B ∧ v.ownBlock ≠ some g
  low : ∀ b, v.ownBlock = some b → b < B
section
variable {eo ei : TypeId} {w0 w w' : World} {v : Value} {n m B : Nat} {T : Nat → Nat → Nat}
theorem OwnTt.nil (hl : Later w0 w) : OwnTt eo ei w0 w (.slice none 0 0) 0 m B T := ⟨⟨[], OwnK.nil hl, rfl, fun i g h => by simp at h⟩, fun b h => by cases h⟩
theorem OwnTt.later (h : OwnTt eo ei w0 w v n m B T) : Later w0 w := by obtain ⟨gs, ho, _⟩ := h.rows; exact ho.later
theorem OwnTt.on (h : OwnTt eo ei w0 w v n m B T) (hl : Later w w') : OwnTt eo ei w0 w' v n m B T := by
  obtain ⟨gs, ho, hn, hr⟩ := h.rows
  exact ⟨⟨gs, ho.on hl, hn, fun i g hg => by obtain ⟨q1, q2⟩ := hr i g hg; exact ⟨q1.later hl, q2⟩⟩, h.low⟩
theorem OwnTt.up (h : OwnTt eo ei w0 w v n m B T) {B' : Nat} (hB : B ≤ B') : OwnTt eo ei w0 w v n m B' T := by
  obtain ⟨gs, ho, hn, hr⟩ := h.rows
  exact ⟨⟨gs, ho, hn, fun i g hg => by obtain ⟨q1, q2, q3, q4⟩ := hr i g hg; exact ⟨q1, q2, by omega, q4⟩⟩, fun b hb => by have := h.low b hb; omega⟩
theorem OwnTt.other {b : Nat} (h : OwnTt eo ei w0 w v n m B T) (ht : Turned b w w') (hB : B ≤ b) (hb : w0.heap.size ≤ b) : OwnTt eo ei w0 w' v n m B T := by
  obtain ⟨gs, ho, hn, hr⟩ := h.rows
  refine ⟨⟨gs, ⟨ho.1.kept ht ?_, ho.2.1, ho.later.turn ht hb⟩, hn, fun i g hg => by obtain ⟨q1, q2, q3, q4⟩ := hr i g hg; exact ⟨q1.other ht (by omega), q2, q3, q4⟩⟩, h.low⟩
  cases hv : v.ownBlock with
  | none => exact .inl rfl
  | some c =>
    right
    have := h.low c hv
    intro e
    cases e
    omega
theorem OwnTt.tab (h : OwnTt eo ei w0 w v n m B T) : ∃ A c, v = .slice A n c ∧ n ≤ c ∧ TabAt w A n m 0 T := by
  obtain ⟨gs, ho, hn, hr⟩ := h.rows
  obtain ⟨A, c, hv, hc, hrow⟩ := ho.row
  rw [List.length_map, hn] at hv hc hrow
  refine ⟨A, c, hv, hc, fun i _ hi => ?_⟩
  obtain ⟨b, o, e, hcell⟩ := hrow.2.2 (by omega)
  have hl : i < gs.length := by omega
  obtain ⟨q1, _⟩ := hr i gs[i] (List.getElem?_eq_getElem hl)
  have := hcell i 0 [.slice (some ⟨gs[i], 0, none⟩) m m] _ (by simp [List.getElem?_eq_getElem hl]) rfl
  rw [Nat.mul_one, Nat.add_zero] at this
  exact ⟨b, o, gs[i], m, e, this, fun j hj => q1.cell hj⟩
/-- A row is put behind the others. -/
theorem OwnTt.grow {v' : Value} {g : Nat} {gs : List Nat} (hn : gs.length = n) (hr : ∀ i g, gs[i]? = some g → NumsAt w g m ei (T i) ∧ w0.heap.size ≤ g ∧ g < B ∧ v.ownBlock ≠ some g) (hlow : ∀ b, v.ownBlock = some b → b < B)
    (ho : OwnK eo 1 w0 w' v' (gs.map (fun g => [.slice (some ⟨g, 0, none⟩) m m]) ++ [[.slice (some ⟨g, 0, none⟩) m m]])) (hg : w.grownBy w' v.ownBlock) (h5 : v'.ownBlock = v.ownBlock ∨ v'.ownBlock = some w.heap.size)
    (hB : B ≤ g) (hgb : w0.heap.size ≤ g) (hrow : NumsAt w g m ei (T n)) : OwnTt eo ei w0 w' v' (n + 1) m w'.heap.size T := by
  have keep : ∀ {x : Nat} {f : Nat → Nat}, NumsAt w x m ei f → v.ownBlock ≠ some x → NumsAt w' x m ei f := by
    rintro x f ⟨cs, hb, hs, hc⟩ hne
    exact ⟨cs, (hg.block x hb.lt (fun e => hne e.symm)).trans hb, hs, hc⟩
  have hvg : v.ownBlock ≠ some g := fun e => by have := hlow g e; omega
  have off : ∀ {x : Nat} {f : Nat → Nat}, NumsAt w x m ei f → v.ownBlock ≠ some x → v'.ownBlock ≠ some x := by
    intro x f hx hne
    rcases h5 with e | e
    · rw [e]; exact hne
    · rw [e]; intro e2; cases e2; have := hx.lt; omega
  refine ⟨⟨gs ++ [g], by rw [List.map_append]; exact ho, by rw [List.length_append, hn]; rfl, fun i x hx => ?_⟩, fun b hb => ?_⟩
  · rcases Nat.lt_or_ge i gs.length with hi | hi
    · rw [List.getElem?_append_left hi] at hx
      obtain ⟨q1, q2, q3, q4⟩ := hr i x hx
      exact ⟨keep q1 q4, q2, (keep q1 q4).lt, off q1 q4⟩
    · rw [List.getElem?_append_right hi] at hx
      have h0 : i - gs.length = 0 := by
        rcases Nat.eq_zero_or_pos (i - gs.length) with h | h
        · exact h
        · rw [List.getElem?_eq_none (by simp; omega)] at hx; cases hx
      rw [h0] at hx
      cases hx
      obtain rfl : i = n := by omega
      exact ⟨keep hrow hvg, hgb, (keep hrow hvg).lt, off hrow hvg⟩
  · exact (ho.1.lt b hb).2
end

section
variable {P : Program} {w0 w : World} {e : TypeId} {k : Nat} {v : Value} {olds : List (List Value)}
/-- append, and where the row lies then. -/
theorem run_append_rowK5 (t ty : TypeId) (i : TypeInfo) (z : Value) (bytes : Nat) (ht : P.underlying t = some (.slice e)) (hi : P.info? e = some i) (hz : i.zero = some z) (hsize : i.size = k) (hby : i.bytes = bytes) (hzs : z.cells.size = k) (hk : 0 < k)
    (hown : OwnK e k w0 w v olds) (b o m c : Nat) (news : List (List Value)) (hr : RowK k w (some ⟨b, o, none⟩) m news) (hm : 0 < m) (hone : ∀ cs ∈ news, ∀ u ∈ cs, u.oneCell' = true) (hb : olds.length + m ≤ 1000000) (hbb : bytes ≤ 1000) :
    ∃ v' w', (Builtin.append_ #[t, t] ty #[v, .slice (some ⟨b, o, none⟩) m c]).run P w = .ok v' w' ∧ OwnK e k w0 w' v' (olds ++ news) ∧ w.grownBy w' v.ownBlock ∧ (v'.ownBlock = v.ownBlock ∨ v'.ownBlock = some w.heap.size) := by
  have hl := hr.len
  have hbig : (olds.length + m) * bytes ≤ 140737488355328 := Nat.le_trans (Nat.mul_le_mul hb hbb) (by omega)
  obtain ⟨b', o', e1, hc⟩ := hr.2.2 hm
  cases e1
  obtain ⟨v', w', hrun, h2, h3, _, h5⟩ := run_append_own_at (P := P) w w0.heap.size t ty e i z k bytes ht hi hz hsize hby hzs hk v olds.length olds.flatten hown.1 ⟨b, o, none⟩ m c news.flatten
    (by rw [flat_length hr.2.1, hl])
    (fun j u hu => by
      have hjl := (List.getElem?_eq_some_iff.1 hu).1
      rw [flat_length hr.2.1] at hjl
      have hq : j / k < news.length := (Nat.div_lt_iff_lt_mul hk).2 hjl
      have hjk : j / k * k + j % k = j := by rw [Nat.mul_comm]; exact Nat.div_add_mod j k
      have hat := flat_at (i := j % k) hr.2.1 (List.getElem?_eq_getElem hq) (Nat.mod_lt _ hk)
      rw [hjk, hu] at hat
      have := hc (j / k) (j % k) _ u (List.getElem?_eq_getElem hq) hat.symm
      rw [plain_add, ← hjk, ← Nat.add_assoc]
      exact this)
    (fun u hu => by
      obtain ⟨cs, hcs, hu⟩ := List.mem_flatten.1 hu
      exact hone cs hcs u hu)
    (by simp only [maxLen]; omega) hbig hown.2.2.size
  refine ⟨v', w', hrun, ⟨?_, fun cs hcs => ?_, Below.grown hown.2.2 h3 hown.2.2.size hown.block⟩, h3, h5⟩
  · rw [List.length_append, List.flatten_append, hl]
    exact h2
  · rcases List.mem_append.1 hcs with h | h
    · exact hown.2.1 cs h
    · exact hr.2.1 cs h
theorem wpList_append_rowK5 {ops : Array Oper} {rest : List Oper} {o : Oper} {a : Act} {Q : Exit → Act → World → Prop} (hgd : o.guard = none) (s x : Operand) (t : TypeId)
    (ho : o.op = .call { callee := .builtin .append, args := #[s, x], argTypes := #[t, t] }) (i : TypeInfo) (z : Value) (bytes : Nat)
    (ht : P.underlying t = some (.slice e)) (hi : P.info? e = some i) (hz : i.zero = some z) (hsize : i.size = k) (hby : i.bytes = bytes) (hzs : z.cells.size = k) (hk : 0 < k)
    (hown : OwnK e k w0 w v olds) (hs : a.eval s = v) (b p m c : Nat) (news : List (List Value)) (hx : a.eval x = .slice (some ⟨b, p, none⟩) m c) (hr : RowK k w (some ⟨b, p, none⟩) m news) (hm : 0 < m) (hone : ∀ cs ∈ news, ∀ u ∈ cs, u.oneCell' = true) (hb : olds.length + m ≤ 1000000) (hbb : bytes ≤ 1000)
    (h : ∀ v' w', OwnK e k w0 w' v' (olds ++ news) → w.grownBy w' v.ownBlock → (v'.ownBlock = v.ownBlock ∨ v'.ownBlock = some w.heap.size) → wpList P ops Q rest (a.put o.dst v') w') : wpList P ops Q (o :: rest) a w := by
  refine wpList_plain hgd fun K hK => ?_
  obtain ⟨v', w', hrun, h2, h3, h5⟩ := run_append_rowK5 (P := P) t o.type i z bytes ht hi hz hsize hby hzs hk hown b p m c news hr hm hone hb hbb
  unfold Oper.wp execOp
  simp only [ho, resolve, invoke, builtin, Sem.run_bind, Sem.run_pure, Result.andThen_ok, List.map_toArray, List.map_cons, List.map_nil, hs, hx, hrun]
  exact hK _ _ (h v' w' h2 h3 h5)
/-- One cell is written. -/
theorem wpList_store_cell {ops : Array Oper} {rest : List Oper} {op : Oper} {a : Act} {Q : Exit → Act → World → Prop} (hgd : op.guard = none) (hd : op.dst = none) (T : TypeId) (x y : Operand) (ho : op.op = .store T x y) (hi : (P.info? T).map (·.size) = some 1)
    (g o : Nat) (v : Value) (hx : a.eval x = .pointer (some ⟨g, o, none⟩)) (hy : a.eval y = v) (h1 : v.oneCell' = true) (hc : ∃ u, w.cell? ⟨g, o, none⟩ = some u) (hf : w.frozen? ⟨g, o, none⟩ = false)
    (h : wpList P ops Q rest a (w.setCell ⟨g, o, none⟩ v)) : wpList P ops Q (op :: rest) a w := by
  have ht : w.there g o 1 := by
    intro j hj
    obtain rfl : j = 0 := by omega
    obtain ⟨u, hu⟩ := hc
    rw [Nat.add_zero, hu]
    exact ⟨rfl, hf⟩
  have hcs : v.cells = (Value.agg #[v]).cells := by cases v <;> first | rfl | cases h1
  have hrun := run_storeVar_mid (P := P) w g o T #[v] ht hi (by simp [h1])
  unfold storeVar at hrun
  rw [← hcs] at hrun
  refine wpList_plain hgd fun K hK => ?_
  unfold Oper.wp execOp
  simp only [ho, hx, hy, Instr.storeAt, Instr.sureAddr, Sem.run_bind, Sem.run_pure, Result.andThen_ok]
  unfold storeVar
  rw [hrun]
  refine hK _ _ ?_
  rw [hd]
  exact h
/-- make of n elements of one cell each. -/
theorem wpList_make_n {ops : Array Oper} {rest : List Oper} {o : Oper} {a : Act} {Q : Exit → Act → World → Prop} (hgd : o.guard = none) (l c : Operand) (t : TypeId) (hop : o.op = Op.makeSlice t l c) (i : TypeInfo) (z : Value)
    (ht : P.underlying t = some (.slice e)) (hi : P.info? e = some i) (hz : i.zero = some z) (hsize : i.size = 1) (bytes : Nat) (hby : i.bytes = bytes) (hbb : bytes ≤ 1000)
    (kl kc : IntKind) (n : Nat) (he : a.eval l = .int kl (n : Nat)) (hc : a.eval c = .int kc (n : Nat)) (hn : n ≤ 1000000)
    (h : ∀ w', Hid (w' = w.alloc (.cells (madeCells z.cells n) e)) → wpList P ops Q rest (a.put o.dst (.slice (some ⟨w.heap.size, 0, none⟩) n n)) w') : wpList P ops Q (o :: rest) a w := by
  refine wpList_plain hgd fun K hK => ?_
  have hb' : (i.bytes : Int) * (n : Int) ≤ 281474976710656 := by
    have h : ((i.bytes * n : Nat) : Int) ≤ 281474976710656 := by
      have : i.bytes * n ≤ 1000 * 1000000 := Nat.mul_le_mul (by omega) hn
      omega
    rwa [Int.natCast_mul] at h
  have hr := run_make (P := P) w t e i z ht hi hz kl kc n n (by omega) (Int.le_refl _) hb' (by omega)
  simp only [Int.toNat_natCast, hsize, Nat.mul_one] at hr
  unfold Oper.wp execOp
  simp only [hop, he, hc, hr, Sem.run_bind, Sem.run_pure, Result.andThen_ok]
  exact hK _ _ (h _ (Lib.hid rfl))
end

end Go.Proofs.YtbhnbkcokhfopaaGreat

/-
  What diff's behind comes to, as a call.
-/
namespace Go.Proofs.YtbhnbkcokhfopaaGreat
open Go.RowKit Go.Maps

theorem Tryz.rowInfo : (Tryz.prog.info? 86).map (fun i => (i.zero, i.size, i.bytes)) = some (some (.slice none 0 0), 1, 24) := by kernel_rfl
theorem Tryz.numInfo : (Tryz.prog.info? 3).map (fun i => (i.zero, i.size, i.bytes)) = some (some (.int .i64 0), 1, 8) := by kernel_rfl
theorem Tryz.rowSize : (Tryz.prog.info? 86).map (·.size) = some 1 := by kernel_rfl
theorem Tryz.numSize : (Tryz.prog.info? 3).map (·.size) = some 1 := by kernel_rfl
/-- What tells a table. -/
def GivesT6 (n m : Nat) (T : Nat → Nat → Nat) (w : World) (e : Ending) (w' : World) : Prop := ∃ A c, e = .returned (.slice A n c) ∧ n ≤ c ∧ TabAt w' A n m 0 T ∧ Later w w'

set_option maxRecDepth 100000 in
set_option maxHeartbeats 3200000 in
theorem behind_any (A B : Option Addr) (n c m d : Nat) (la lb : List ByteArray) (w : World) (ha : Row w A n la) (hb : Row w B m lb) (hn : n ≤ 65536) (hm : m ≤ 65536) :
    Calls Tryz.prog 41 #[.slice A n c, .slice B m d] w (GivesT6 (n + 1) (m + 1) (tabB la lb) w) := by
  obtain ⟨i1, hi1, hz1, hs1, hy1⟩ := info_parts Tryz.rowInfo
  obtain ⟨i2, hi2, hz2, hs2, hy2⟩ := info_parts Tryz.numInfo
  have HA := Lib.hid ha; have HB := Lib.hid hb
  clear ha hb
  go_enter Tryz.func41, Tryz.ntmps41
  go_wp2_with (at_make; refine wpList_make_n rfl _ _ 84 rfl i1 _ Tryz.underlying84 hi1 hz1 hs1 24 hy1 (by decide) .i64 .i64 (n + 1) rfl rfl (by omega) ?_; intro w1 HW1; refine Hid.out ?_)
  have HT0 : Hid (OwnTab 86 3 w w1 w.heap.size (n + 1) (m + 1) (n + 1) (w.heap.size + 1) (tabB la lb)) := by
    have := OwnTab.made (eo := 86) (ei := 3) (T := tabB la lb) (Later.refl w) (madeCells (Value.slice none 0 0).cells (n + 1)) (m + 1)
    rw [size_madeCells, ← HW1.out] at this
    exact this
  have HZ0 : Hid (w1.heap.size = w.heap.size + 1) := by show _ = _; rw [HW1.out]; exact World.size_alloc _ _
  refine Lib.hid ?_
  generalize w.heap.size = O at HT0 HZ0 ⊢
  go_wp2_with (at_make; refine wpList_make_n rfl _ _ 86 rfl i2 _ Tryz.underlying86 hi2 hz2 hs2 8 hy2 (by decide) .i64 .i64 (m + 1) rfl rfl (by omega) ?_; intro w2 HW2; refine Hid.out ?_)
  have HN0 := Lib.hid (NumsAt.made w1 (m + 1) 3)
  have HT1 := Lib.hid (HT0.out.on ((Later.refl w1).alloc (.cells (madeCells #[.int .i64 0] (m + 1)) 3)))
  rw [show w1.alloc (.cells (madeCells #[.int .i64 0] (m + 1)) 3) = w2 from HW2.out.symm] at HN0 HT1
  clear HW1 HW2 HT0
  refine Lib.hid ?_
  go_wp2_with (with_reducible show wpList _ _ _ ({ dst := none, op := Op.store 86 _ _, type := _, pos := _, after := _, guard := _ } :: _) _ _; refine Hid.out ?_)
  refine Lib.hid (wpList_store_cell rfl rfl 86 _ _ rfl Tryz.rowSize O n (.slice (some ⟨w1.heap.size, 0, none⟩) (m + 1) (m + 1)) rfl rfl rfl (HT1.out.there (by omega)) (HT1.out.frozen _) ?_)
  have HT2 := Lib.hid ((HT1.out.put (j := 0) (i := n) (by omega) (Nat.le_of_eq HZ0.out.symm) HN0.out (fun x _ _ => (tabB_left (by rw [HA.out.len]; exact Nat.le_refl _)).symm)).done)
  have HS2 : Hid (w1.heap.size + 1 ≤ (w2.setCell ⟨O, n, none⟩ (.slice (some ⟨w1.heap.size, 0, none⟩) (m + 1) (m + 1))).heap.size) := by
    have := HN0.out.lt
    show _ ≤ _
    simp
    exact this
  generalize w2.setCell ⟨O, n, none⟩ (.slice (some ⟨w1.heap.size, 0, none⟩) (m + 1) (m + 1)) = w3 at HT2 HS2 ⊢
  generalize w1.heap.size + 1 = B0 at HT2 HS2
  clear HN0 HT1 HZ0
  go_wp2
  go_loopg [6] (n + 1) (fun g s6 wr => ∃ i B : Nat, i ≤ n ∧ i ≤ g ∧ s6 = .int .i64 ((i : Int) - 1) ∧ Hid (OwnTab 86 3 w wr O (n + 1) (m + 1) i B (tabB la lb)) ∧ Hid (B ≤ wr.heap.size))
  case atStart => exact ⟨n, B0, Nat.le_refl _, by omega, rfl, HT2, HS2⟩
  case round =>
    obtain ⟨i, Bi, hi, hg, rfl, hT, hS⟩ := hrel
    clear HT2 HS2
    cases i with
    | zero =>
      go_wp2
      go_ret
      exact ⟨_, _, rfl, Nat.le_refl _, hT.out.tab, hT.out.later⟩
    | succ i =>
      rw [show ((i + 1 : Nat) : Int) - 1 = (i : Int) from by omega]
      go_wp2_with (at_make; refine wpList_make_n rfl _ _ 86 rfl i2 _ Tryz.underlying86 hi2 hz2 hs2 8 hy2 (by decide) .i64 .i64 (m + 1) rfl rfl (by omega) ?_; intro w4 HW4; refine Hid.out ?_)
      have HN0 := Lib.hid (NumsAt.made wr (m + 1) 3)
      have HT1 := Lib.hid (hT.out.on ((Later.refl wr).alloc (.cells (madeCells #[.int .i64 0] (m + 1)) 3)))
      rw [show wr.alloc (.cells (madeCells #[.int .i64 0] (m + 1)) 3) = w4 from HW4.out.symm] at HN0 HT1
      clear HW4 hT
      refine Lib.hid ?_
      go_wp2_with (with_reducible show wpList _ _ _ ({ dst := none, op := Op.store 86 _ _, type := _, pos := _, after := _, guard := _ } :: _) _ _; refine Hid.out ?_)
      refine Lib.hid (wpList_store_cell rfl rfl 86 _ _ rfl Tryz.rowSize O i (.slice (some ⟨wr.heap.size, 0, none⟩) (m + 1) (m + 1)) rfl rfl rfl (HT1.out.there (by omega)) (HT1.out.frozen _) ?_)
      have HR0 := Lib.hid (HT1.out.put (j := m) (i := i) (by omega) hS.out HN0.out (fun x h1 h2 => (tabB_right (by rw [HB.out.len]; omega)).symm))
      generalize w4.setCell ⟨O, i, none⟩ (.slice (some ⟨wr.heap.size, 0, none⟩) (m + 1) (m + 1)) = w5 at HR0 ⊢
      generalize wr.heap.size = g0 at HR0 ⊢
      clear HN0 HT1 hS
      go_wp2
      go_loopg [7] (m + 1) (fun g s7 wq => ∃ j : Nat, j ≤ m ∧ j ≤ g ∧ s7 = .int .i64 ((j : Int) - 1) ∧ Hid (RowIn 86 3 w wq O (n + 1) (m + 1) i g0 j (tabB la lb)))
      case atStart => exact ⟨m, Nat.le_refl _, by omega, rfl, HR0⟩
      case round =>
        obtain ⟨j, hj, hgj, rfl, hR⟩ := hrel
        clear HR0
        cases j with
        | zero =>
          go_wp2
          go_roundg i
          case measure => omega
          case rel => exact ⟨i, g0 + 1, by omega, Nat.le_refl _, by go_num, hR.out.done, by obtain ⟨f, hf, _⟩ := hR.out.row; exact hf.lt⟩
        | succ j =>
          rw [show ((j + 1 : Nat) : Int) - 1 = (j : Int) from by omega]
          obtain ⟨g1, c2, hg1, c3⟩ := hR.out.next (by omega)
          have c1 := hR.out.at_
          replace c3 := c3 j (by omega)
          have c4 := hR.out.cell (x := j + 1) (by omega) (by omega)
          obtain ⟨old, c5⟩ := hR.out.there (x := j) (by omega)
          have c6 := hR.out.frozen j
          have hb1 := tabB_le la lb (i + 1) j; have hb2 := tabB_le la lb i (j + 1); have hb3 := tabB_le la lb (i + 1) (j + 1)
          rw [HA.out.len] at hb1 hb2 hb3
          generalize e1 : tabB la lb (i + 1) j = t1 at c3 hb1
          generalize e2 : tabB la lb i (j + 1) = t2 at c4 hb2
          have E1 := Lib.hid e1; have E2 := Lib.hid e2
          clear e1 e2
          go_wp2
          go_region
          rw [show (if t1 < t2 then (t2 : Int) else t1) = ((max t1 t2 : Nat) : Int) from by split <;> omega]
          have hset := hR.out.set (j := j) (by omega) (max t1 t2)
          have HR1 := Lib.hid (hset.1.on (Later.refl _).drew)
          have HR2 : Hid (max t1 t2 = tabB la lb i j → RowIn 86 3 w (wr.setCell ⟨g0, j, none⟩ (.int .i64 (max t1 t2 : Nat))).drew O (n + 1) (m + 1) i g0 j (tabB la lb)) := fun h => (hset.2 h).on (Later.refl _).drew
          clear hset hR c1 c2 c3 c4 c5 c6
          generalize (wr.setCell ⟨g0, j, none⟩ (.int .i64 (max t1 t2 : Nat))).drew = wq at HR1 HR2 ⊢
          have hia : i < la.length := by rw [HA.out.len]; omega
          have hjb : j < lb.length := by rw [HB.out.len]; omega
          obtain ⟨ba, oa, rfl, d1⟩ := (HA.out.later HR1.out.tab.later).get (k := i) (by omega)
          obtain ⟨bb, ob, rfl, d2⟩ := (HB.out.later HR1.out.tab.later).get (k := j) (by omega)
          by_cases he : la.getD i ByteArray.empty = lb.getD j ByteArray.empty
          · have E3 := Lib.hid (tabB_same hia hjb he)
            have hq : ((la.getD i ByteArray.empty).toList == (lb.getD j ByteArray.empty).toList) = true := by rw [text_beq]; simp only [he, decide_true]
            generalize la.getD i ByteArray.empty = xa at d1 hq
            generalize lb.getD j ByteArray.empty = xb at d2 hq
            clear he
            go_wp2
            go_region
            go_wp2
            have HR3 := Lib.hid (HR1.out.on (Later.refl wq).drew)
            clear HR1 HR2 d1 d2 hq
            generalize wq.drew = wz at HR3 ⊢
            obtain ⟨g1, c2, hg1, c3⟩ := HR3.out.next (by omega)
            have c1 := HR3.out.at_
            replace c3 := c3 (j + 1) (by omega)
            obtain ⟨old, c5⟩ := HR3.out.there (x := j) (by omega)
            have c6 := HR3.out.frozen j
            generalize e3 : tabB la lb (i + 1) (j + 1) = t3 at c3 E3 hb3
            clear e3
            go_region
            rw [show ((t3 : Int) + 1) = ((t3 + 1 : Nat) : Int) from by omega]
            have HR4 := Lib.hid (((HR3.out.set (j := j) (by omega) (t3 + 1)).2 E3.out.symm).on (Later.refl _).drew)
            clear HR3 c1 c2 c3 c5 c6
            generalize (wz.setCell ⟨g0, j, none⟩ (.int .i64 (t3 + 1 : Nat))).drew = wy at HR4 ⊢
            go_wp2
            go_roundg j
            case measure => omega
            case rel => exact ⟨j, by omega, Nat.le_refl _, by go_num, HR4⟩
          · have E3 := Lib.hid (tabB_other hia hjb he)
            have hq : ((la.getD i ByteArray.empty).toList == (lb.getD j ByteArray.empty).toList) = false := text_ne he
            generalize la.getD i ByteArray.empty = xa at d1 hq
            generalize lb.getD j ByteArray.empty = xb at d2 hq
            clear he
            go_wp2
            go_region
            go_wp2
            go_roundg j
            case measure => omega
            case rel => exact ⟨j, by omega, Nat.le_refl _, by go_num, (HR2.out (by rw [E3.out, E1.out, E2.out])).on (Later.refl _).drew⟩

end Go.Proofs.YtbhnbkcokhfopaaGreat

/-
  The hunks, the pairs and the trees, as a loop makes them. Nothing of any program.
-/
namespace Go.Proofs.YtbhnbkcokhfopaaGreat
open Go.RowKit

section
variable {a b : List ByteArray} {left i k : Nat}
theorem common_next (h : tabB a b i k = left + 1) : ∃ x y, nextPair a b (left + 1) i k = some (x, y) ∧ i ≤ x ∧ k ≤ y ∧ x < a.length ∧ y < b.length ∧ tabB a b (x + 1) (y + 1) = left ∧ commonGo a b (left + 1) i k = (x, y) :: commonGo a b left (x + 1) (y + 1) := by
  obtain ⟨x0, y0, c1, c2, c3, c4, c5⟩ := good_some _ i k rfl h
  obtain ⟨⟨x, y⟩, hs⟩ := next_there c1 c2 c3 c4 c5
  obtain ⟨d1, d2, d3, d4, d5⟩ := next_some hs
  simp only [goodAt, Bool.and_eq_true, decide_eq_true_eq] at d5
  refine ⟨x, y, hs, d1, d2, d3, d4, ?_, ?_⟩
  · have := d5.2; unfold tabB; omega
  · simp only [commonGo, hs]
theorem common_small (ha : a.length ≤ 200) (hb : b.length ≤ 200) : commonL a b = commonGo a b (tabB a b 0 0) 0 0 := by
  unfold commonL
  rw [if_neg (by omega)]
  rfl
theorem common_great (h : 200 < a.length ∨ 200 < b.length) : commonL a b = [] := by unfold commonL; rw [if_pos h]
theorem lines_great {name : ByteArray} (h : 200 < a.length ∨ 200 < b.length) : linesP name a b = [] := by unfold linesP; rw [if_pos h]
/-- Whether a pair will do, as the loops ask. -/
theorem good_is (x y left : Nat) : goodAt a b left x y = (decide (a.getD x ByteArray.empty = b.getD y ByteArray.empty) && decide (tabB a b (x + 1) (y + 1) + 1 = left)) := rfl
end

/-- Places that rise, none behind the ends. -/
def Rises (n m : Nat) : List (Nat × Nat) → Nat → Nat → Prop
  | [], _, _ => True
  | s :: l, i, k => i ≤ s.1 ∧ k ≤ s.2 ∧ s.1 ≤ n ∧ s.2 ≤ m ∧ Rises n m l (s.1 + 1) (s.2 + 1)
/-- The hunks up to each of these places. -/
def hunksTo (name : ByteArray) (a b : List ByteArray) : List (Nat × Nat) → Nat → Nat → List Pr
  | [], _, _ => []
  | s :: l, i, k => (if i < s.1 ∨ k < s.2 then [hunkP name k (gapL a i s.1) (gapL b k s.2)] else []) ++ hunksTo name a b l (s.1 + 1) (s.2 + 1)
section
variable {a b : List ByteArray} {name : ByteArray}
theorem pairs_rises {l : List (Nat × Nat)} {i k : Nat} (h : Pairs a b i k l) (hi : i ≤ a.length) (hk : k ≤ b.length) : Rises a.length b.length (l ++ [(a.length, b.length)]) i k := by
  induction h with
  | nil _ => exact ⟨hi, hk, Nat.le_refl _, Nat.le_refl _, trivial⟩
  | cons h1 h2 h3 h4 _ _ _ ih => exact ⟨h1, h2, Nat.le_of_lt h3, Nat.le_of_lt h4, ih (by omega) (by omega)⟩
theorem hunks_to : ∀ (l : List (Nat × Nat)) (i k : Nat), hunksGo name a b l i k = hunksTo name a b (l ++ [(a.length, b.length)]) i k
  | [], i, k => by simp only [hunksGo, List.nil_append, hunksTo, List.append_nil]
  | s :: l, i, k => by simp only [hunksGo, List.cons_append, hunksTo, hunks_to l]
theorem lines_to (ha : a.length ≤ 200) (hb : b.length ≤ 200) : linesP name a b = hunksTo name a b (commonL a b ++ [(a.length, b.length)]) 0 0 := by rw [lines_go ha hb, hunks_to]
theorem common_rises (ha : a.length ≤ 200) (hb : b.length ≤ 200) : Rises a.length b.length (commonL a b ++ [(a.length, b.length)]) 0 0 := pairs_rises (common_all ha hb).1 (Nat.zero_le _) (Nat.zero_le _)
theorem common_length (a b : List ByteArray) : (commonL a b).length ≤ 200 := by
  by_cases h : 200 < a.length ∨ 200 < b.length
  · rw [common_great h]; simp
  · have := (common_all (a := a) (b := b) (by omega) (by omega)).2
    have h2 := tabB_le a b 0 0
    rw [tabB_whole] at h2
    omega
theorem hunksTo_length : ∀ (l : List (Nat × Nat)) (i k : Nat), (hunksTo name a b l i k).length ≤ l.length
  | [], i, k => by simp [hunksTo]
  | s :: l, i, k => by
    have := hunksTo_length l (s.1 + 1) (s.2 + 1)
    simp only [hunksTo, List.length_append, List.length_cons]
    split <;> simp <;> omega
theorem linesP_length (name : ByteArray) (a b : List ByteArray) : (linesP name a b).length ≤ 201 := by
  by_cases h : 200 < a.length ∨ 200 < b.length
  · rw [lines_great h]; simp
  · rw [lines_to (by omega) (by omega)]
    have h1 := hunksTo_length (name := name) (a := a) (b := b) (commonL a b ++ [(a.length, b.length)]) 0 0
    have h2 := common_length a b
    rw [List.length_append, List.length_singleton] at h1
    omega
/-- A step of the loop that makes hunks. -/
theorem hunksTo_at {L : List (Nat × Nat)} {j i k : Nat} {s : Nat × Nat} (h : L[j]? = some s) : hunksTo name a b (L.drop j) i k = (if i < s.1 ∨ k < s.2 then [hunkP name k (gapL a i s.1) (gapL b k s.2)] else []) ++ hunksTo name a b (L.drop (j + 1)) (s.1 + 1) (s.2 + 1) := by
  obtain ⟨hj, rfl⟩ := List.getElem?_eq_some_iff.1 h
  rw [List.drop_eq_getElem_cons hj]
  rfl
theorem rises_at {n m : Nat} {L : List (Nat × Nat)} {j i k : Nat} {s : Nat × Nat} (h : L[j]? = some s) (hr : Rises n m (L.drop j) i k) : i ≤ s.1 ∧ k ≤ s.2 ∧ s.1 ≤ n ∧ s.2 ≤ m ∧ Rises n m (L.drop (j + 1)) (s.1 + 1) (s.2 + 1) := by
  obtain ⟨hj, rfl⟩ := List.getElem?_eq_some_iff.1 h
  rw [List.drop_eq_getElem_cons hj] at hr
  exact hr
end

/-- The first files' part of what Trees tells. -/
def goneK (b : Tr) (l : Tr) : List Pr := (l.filter fun f => !hasT b f.1).flatMap rmP
def stayK (b : Tr) (l : Tr) : List Pr := (l.filter fun f => hasT b f.1).flatMap (bothP b)
def comeK (a : Tr) (l : Tr) : List Pr := (l.filter fun f => !hasT a f.1).flatMap addP
section
variable {a b : Tr} {f : ByteArray × List ByteArray} {l : Tr}
theorem goneK_no (h : hasT b f.1 = true) : goneK b (l ++ [f]) = goneK b l := by unfold goneK; simp [List.filter_append, h]
theorem goneK_yes (h : hasT b f.1 = false) : goneK b (l ++ [f]) = goneK b l ++ (linesP f.1 f.2 [] ++ [⟨2, f.1, ByteArray.empty, 0, [], []⟩]) := by unfold goneK; simp [List.filter_append, h, rmP]
theorem stayK_yes {m : List ByteArray} (h : getT b f.1 = some m) : stayK b (l ++ [f]) = stayK b l ++ linesP f.1 f.2 m := by
  have h2 : hasT b f.1 = true := by unfold hasT; rw [h]; rfl
  unfold stayK; simp [List.filter_append, h2, bothP, h]
theorem stayK_no (h : hasT b f.1 = false) : stayK b (l ++ [f]) = stayK b l := by unfold stayK; simp [List.filter_append, h]
theorem comeK_yes (h : hasT a f.1 = false) : comeK a (l ++ [f]) = comeK a l ++ ((⟨1, f.1, ByteArray.empty, 0, [], []⟩ : Pr) :: linesP f.1 [] f.2) := by unfold comeK; simp [List.filter_append, h, addP]
theorem comeK_no (h : hasT a f.1 = true) : comeK a (l ++ [f]) = comeK a l := by unfold comeK; simp [List.filter_append, h]
theorem trees_is (la : longT a = false) (lb : longT b = false) : treesP a b = goneK b a ++ (comeK a b ++ stayK b a) := by
  unfold treesP goneK comeK stayK
  simp [la, lb]
theorem gone_length (b : Tr) : ∀ l : Tr, (goneK b l).length ≤ l.length * 202
  | [] => by simp [goneK]
  | f :: l => by
    have h := gone_length b l
    have h1 := linesP_length f.1 f.2 []
    unfold goneK at h ⊢
    rw [List.filter_cons, List.length_cons]
    split
    · rw [List.flatMap_cons, List.length_append]
      simp only [rmP, List.length_append, List.length_singleton] at *
      omega
    · omega
theorem come_length (b : Tr) : ∀ l : Tr, (comeK b l).length ≤ l.length * 202
  | [] => by simp [comeK]
  | f :: l => by
    have h := come_length b l
    have h1 := linesP_length f.1 [] f.2
    unfold comeK at h ⊢
    rw [List.filter_cons, List.length_cons]
    split
    · rw [List.flatMap_cons, List.length_append]
      simp only [addP, List.length_cons] at *
      omega
    · omega
theorem stay_length (b : Tr) : ∀ l : Tr, (stayK b l).length ≤ l.length * 202
  | [] => by simp [stayK]
  | f :: l => by
    have h := stay_length b l
    have h1 := linesP_length f.1 f.2 ((getT b f.1).getD [])
    unfold stayK at h ⊢
    rw [List.filter_cons, List.length_cons]
    split
    · rw [List.flatMap_cons, List.length_append]
      simp only [bothP] at *
      omega
    · omega
end

end Go.Proofs.YtbhnbkcokhfopaaGreat
