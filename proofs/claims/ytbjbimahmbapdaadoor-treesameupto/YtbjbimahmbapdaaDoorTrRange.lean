/-
  Ranging over the map of a tree: which files have come; the step as a law for the walk.
-/
import Derived.Test.YtbjbimahmbapdaaDoorTrMem
import Derived.Test.YtbjbimahmbapdaaDoorTrHas
namespace Go.Proofs.YtbjbimahmbapdaaDoor
open Go.RowKit Go.Maps

section
variable {α : Type}
/-- The files that have come. -/
def seen (left : Lit → Bool) (t : Fl α) : Fl α := t.filter fun f => !left (.string (bytes f.1))
/-- What is left behind the file nm. -/
def but (left : Lit → Bool) (nm : ByteArray) : Lit → Bool := fun k => left k && !k.sameKey (.string (bytes nm))

theorem mem_seen {left : Lit → Bool} {t : Fl α} {f : ByteArray × α} : f ∈ seen left t ↔ f ∈ t ∧ left (.string (bytes f.1)) = false := by simp [seen]
theorem but_eq (left : Lit → Bool) (nm n : ByteArray) : but left nm (.string (bytes n)) = (left (.string (bytes n)) && decide (n ≠ nm)) := by
  simp only [but, Lit.sameKey]
  by_cases h : n = nm
  · simp [h]
  · have : bytes n ≠ bytes nm := fun e => h (bytes_inj e)
    simp [h, this]
theorem seen_rise {left : Lit → Bool} {t : Fl α} (h : Rising t) : Rising (seen left t) := List.Pairwise.filter _ h
theorem seen_step {left : Lit → Bool} {t : Fl α} (h : Rising t) {nm : ByteArray} {x : α} (hm : (nm, x) ∈ t) : seen (but left nm) t = withT (seen left t) nm x := by
  refine rising_ext (seen_rise h) (rising_with (seen_rise h) _ _) fun f => ?_
  rw [mem_with, mem_seen, mem_seen, but_eq]
  constructor
  · rintro ⟨hf, hl⟩
    by_cases e : f.1 = nm
    · exact .inl (rising_one h hf hm e)
    · simp [e] at hl; exact .inr ⟨⟨hf, hl⟩, e⟩
  · rintro (rfl | ⟨⟨hf, hl⟩, e⟩)
    · exact ⟨hm, by simp⟩
    · exact ⟨hf, by simp [hl]⟩
theorem seen_end {left : Lit → Bool} {t : Fl α} (h : ∀ kl, left kl = false) : seen left t = t := List.filter_eq_self.2 fun f _ => by simp [h]
theorem seen_map {β : Type} (left : Lit → Bool) (g : α → β) (t : Fl α) : seen left (mapT g t) = mapT g (seen left t) := by
  simp [seen, mapT, List.filter_map, Function.comp_def]
theorem seen_length (left : Lit → Bool) (t : Fl α) : (seen left t).length ≤ t.length := List.length_filter_le _ _
theorem seen_has {left : Lit → Bool} {t : Fl α} {nm : ByteArray} (h : left (.string (bytes nm)) = true) : hasT (seen left t) nm = false := hasT_no.2 fun f hf e => by
  have := (mem_seen.1 hf).2
  rw [e, h] at this; cases this
end

theorem seen_start (z : Fl Held) : seen (Maps.has (datum (mapT (·.1) z))) z = [] := List.filter_eq_nil_iff.2 fun f hf => by
  rw [has_datum, hasT_map, hasT_iff.2 ⟨f, hf, rfl⟩]; simp

/-- How many lines all files have. -/
def linesT (t : Tr) : Nat := (t.map fun f => f.2.length).sum
theorem lines_parts (n : ByteArray) : ∀ u : Tr, (∀ f ∈ u, f.1 ≠ n) → linesT (u.filter fun f => ltN f.1 n) + linesT (u.filter fun f => ltN n f.1) = linesT u
  | [], _ => rfl
  | f :: u, h => by
    have ih := lines_parts n u fun g hg => h g (List.mem_cons_of_mem _ hg)
    simp only [linesT] at ih ⊢
    rcases ltN_total (h f List.mem_cons_self) with k | k
    · simp [k, ltN_asymm k]; omega
    · simp [k, ltN_asymm k]; omega
theorem lines_with {t : Tr} {n : ByteArray} (h : hasT t n = false) (l : List ByteArray) : linesT (withT t n l) = linesT t + l.length := by
  have h1 := lines_parts n t (hasT_no.1 h)
  unfold withT
  rw [without_id h]
  simp only [linesT, List.map_append, List.sum_append, List.map_cons, List.sum_cons] at h1 ⊢
  omega
theorem lines_seen (left : Lit → Bool) : ∀ t : Tr, linesT (seen left t) ≤ linesT t
  | [] => Nat.le_refl _
  | f :: t => by
    have ih := lines_seen left t
    simp only [linesT, seen, List.filter_cons, List.map_cons, List.sum_cons] at ih ⊢
    split
    · simp only [List.map_cons, List.sum_cons]; omega
    · omega

/-- The range under way over the files z; its iterator is block r. -/
structure Ranging (w : World) (B r : Nat) (z : Fl Held) (left : Lit → Bool) (cnt : Nat) : Prop where
  at_ : w.ranges Tryd.prog 9 raw B r z.length (datum (mapT (·.1) z)) left cnt
  rise : Rising z
  reads : ∀ f ∈ z, Reads w f.2.1 f.2.2

theorem iter_cell {w : World} {B r n cnt : Nat} {D : DataW Value} {left : Lit → Bool} (h : w.ranges Tryd.prog 9 raw B r n D left cnt) {a : Addr} {u : Value} (hc : w.cell? a = some u) : a.block ≠ r := by
  obtain ⟨es, clock, since, sn, c0, _, _, _, _, hr, _⟩ := h
  rintro rfl
  simp [World.cell?, hr] at hc

theorem Ranging.files {w : World} {B r cnt : Nat} {z : Fl Held} {left : Lit → Bool} (h : Ranging w B r z left cnt) : FA w B z := ⟨h.at_.owns, h.rise, h.reads⟩
theorem Ranging.later {w w' : World} {B r cnt : Nat} {z : Fl Held} {left : Lit → Bool} (h : Ranging w B r z left cnt) (hl : Later w w') : Ranging w' B r z left cnt :=
  ⟨h.at_.kept (row := none) ⟨hl.os, hl.tape, hl.output, hl.size, fun i hi _ => hl.block i hi⟩ (by simp) (by simp), h.rise, fun f hf => (h.reads f hf).later hl⟩
theorem Ranging.other {w w' : World} {B B' r cnt : Nat} {z : Fl Held} {left : Lit → Bool} (h : Ranging w B r z left cnt) (hg : Turned B' w w') (hne : B ≠ B') {es : Array MapEntry} {c : Nat} (hm : w.heap[B']? = some (.map es c)) : Ranging w' B r z left cnt := by
  refine ⟨h.at_.kept hg (by simpa using hne) ?_, h.rise, fun f hf => (h.reads f hf).turned hg hm⟩
  obtain ⟨es', clock, since, sn, c0, _, _, _, _, hr, _⟩ := h.at_
  intro e
  cases e
  rw [hm] at hr; cases hr

section
variable {w : World} {ops : Array Oper} {rest : List Oper} {o : Oper} {a : Act} {Q : Exit → Act → World → Prop}

/-- 'range' over the files. -/
theorem wpList_range_files (hg : o.guard = none) (m : Operand) (hop : o.op = Op.range 65 m) (B : Nat) (z : Fl Held) (hm : a.eval m = .map (some B)) (h : FA w B z)
    (hK : ∀ w', Ranging w' B w.heap.size z (Maps.has (datum (mapT (·.1) z))) z.length → Later w w' → wpList Tryd.prog ops Q rest (a.put o.dst (.pointer (some ⟨w.heap.size, 0, none⟩))) w') :
    wpList Tryd.prog ops Q (o :: rest) a w := by
  refine wpList_range_own _ hg m _ hop 9 29 keyed9 Tryd.underlying65 raw B z.length _ hm h.own fun w' h1 h2 h3 => ?_
  have hl : Later w w' := ⟨h2.os, h2.tape, h2.output, h2.size, fun i hi => h2.block i hi (by simp)⟩
  rw [size_datum, mapT_length] at h1
  exact hK w' ⟨h1, h.rise, fun f hf => (h.reads f hf).later hl⟩ hl

/-- The step: nothing is left, or a file has come. -/
theorem wpList_next_files (hg : o.guard = none) (it : Operand) (hop : o.op = Op.next it false) (B r : Nat) (z : Fl Held) (left : Lit → Bool) (cnt : Nat) (hit : a.eval it = .pointer (some ⟨r, 0, none⟩)) (h : Ranging w B r z left cnt)
    (hDone : (∀ kl, left kl = false) → wpList Tryd.prog ops Q rest (a.put o.dst (.tuple #[.bool false])) w)
    (hMore : ∀ (nm : ByteArray) (A : Option Addr) (m c : Nat) (l : List ByteArray) (w' : World) (cnt' : Nat), (nm, (Value.slice A m c, l)) ∈ z → nm.size ≤ maxLen → m ≤ c → Row w' A m l → left (.string (bytes nm)) = true → Ranging w' B r z (but left nm) cnt' → cnt' < cnt → Turned r w w' →
      (Instr.entry (.pointer (some ⟨r, 0, none⟩))).run Tryd.prog w' = .ok (.tuple #[.string nm, .slice A m c]) w' → wpList Tryd.prog ops Q rest (a.put o.dst (.tuple #[.bool true, .string nm, .slice A m c])) w') :
    wpList Tryd.prog ops Q (o :: rest) a w := by
  refine wpList_plain hg fun K' hK' => ?_
  unfold Oper.wp
  rcases h.at_.next keyed9 o.type with ⟨h0, hl, hrun⟩ | ⟨key, v, kl, y, w', cnt', hkey, hlk, hv, hat, hrun, hrg, hlt, hgr, hsz, hen⟩
  · simp [execOp, hop, hit, hrun, Result.andThen]
    exact hK' _ _ (hDone hl)
  · obtain ⟨s, rfl, rfl, hs⟩ : ∃ s : ByteArray, key = .string s ∧ kl = .string (bytes s) ∧ s.size ≤ maxLen := by
      cases key <;> simp [keyOf, Tryd.underlying9, mapKey] at hkey
      rename_i s
      exact ⟨s, rfl, hkey.2.symm, hkey.1⟩
    obtain ⟨A, m, c, rfl, rfl⟩ := raw_inv hv
    have hz := hat .nil
    rw [atKey_datum, getT_map] at hz
    cases hg2 : getT z s with
    | none => rw [hg2] at hz; simp at hz
    | some x =>
      rw [hg2] at hz
      simp only [Option.map_some, DataW.held.injEq] at hz
      obtain ⟨v, l⟩ := x
      simp only at hz
      subst hz
      have hmem := getT_mem hg2
      obtain ⟨A', m', c', e, hmc, hrow⟩ := h.reads _ hmem
      simp only [Value.slice.injEq] at e
      obtain ⟨rfl, rfl, rfl⟩ := e
      have keep : ∀ {A : Option Addr} {n : Nat} {l : List ByteArray}, Row w A n l → Row w' A n l := fun {A n l} hr =>
        ⟨hr.1, fun hn => by
          obtain ⟨b, o, e, hc⟩ := hr.2 hn
          exact ⟨b, o, e, fun j s hs => Turned.cell (B := r) hgr (hc j s hs) (iter_cell h.at_ (hc j s hs))⟩⟩
      simp [execOp, hop, hit, hrun, Result.andThen]
      refine hK' _ _ (hMore s A m c l w' cnt' hmem hs hmc (keep hrow) hlk ⟨hrg, h.rise, fun f hf => ?_⟩ hlt hgr hen)
      obtain ⟨A1, m1, c1, e1, h1, h2⟩ := h.reads f hf
      exact ⟨A1, m1, c1, e1, h1, keep h2⟩
end

end Go.Proofs.YtbjbimahmbapdaaDoor
