import Derived.Test.YtboffgmaohcpfaaDoorPk1
import Derived.Test.YtboffgmaohcpfaaDoorPk2
import Derived.WideShapes
import Derived.WideAt
import Derived.Test.YtboffgmaohcpfaaDoorProg
import Derived.Maps.OwnSet
import Derived.Maps.RangeWalk
import Derived.Test.YtboffgmaohcpfaaDoorChecked
import Derived.Deep.LoopGhost
import Derived.Deep.QuietTactic
import Derived.BigQuiet
import Derived.Lib.Hide
import Derived.Lib.SliceRun
import Derived.Sort.KeysCollected

/-
  Trees as rows of files, rising by name: what the calls on them come to. Nothing of any program.
-/
namespace Go.Proofs.YtboffgmaohcpfaaDoor
open Go.RowKit

/-- Does a stand ahead of b, byte by byte? -/
def ltN (a b : ByteArray) : Bool := bytesBefore (bytes a) (bytes b)
theorem bytes_inj {a b : ByteArray} (h : bytes a = bytes b) : a = b := by rw [← txt_bytes a, h, txt_bytes]
theorem ltN_irrefl (a : ByteArray) : ltN a a = false := WideAt.bytes_irrefl _
theorem ltN_total {a b : ByteArray} (h : a ≠ b) : ltN a b = true ∨ ltN b a = true := WideAt.bytes_total _ _ (fun e => h (bytes_inj e))
theorem ltN_trans {a b c : ByteArray} (h : ltN a b = true) (k : ltN b c = true) : ltN a c = true := WideShapes.bytes_trans _ _ _ h k
theorem ltN_asymm {a b : ByteArray} (h : ltN a b = true) : ltN b a = false := by
  cases k : ltN b a
  · rfl
  · have := ltN_trans h k; rw [ltN_irrefl] at this; cases this
theorem ltN_ne {a b : ByteArray} (h : ltN a b = true) : a ≠ b := by rintro rfl; rw [ltN_irrefl] at h; cases h

theorem less_before : ∀ a b : List UInt8, Op.bytesLess a b = bytesBefore a b
  | [], [] => rfl
  | [], _ :: _ => rfl
  | _ :: _, [] => rfl
  | a :: r, b :: s => by
    have ih := less_before r s
    unfold Op.bytesLess bytesBefore
    rw [← ih]
theorem less_is (a b : ByteArray) : Op.bytesLess a.toList b.toList = ltN a b := by
  rw [less_before, ByteArray.toList_eq, ByteArray.toList_eq]; rfl

/-- Files with whatever they hold, by their names. -/
abbrev Fl (α : Type) := List (ByteArray × α)
abbrev Tr := Fl (List ByteArray)

section
variable {α β : Type}

def getT (t : Fl α) (n : ByteArray) : Option α := (t.find? fun f => decide (f.1 = n)).map (·.2)
def hasT (t : Fl α) (n : ByteArray) : Bool := (getT t n).isSome
def withoutT (t : Fl α) (n : ByteArray) : Fl α := t.filter fun f => decide (f.1 ≠ n)
def withT (t : Fl α) (n : ByteArray) (x : α) : Fl α := (withoutT t n).filter (fun f => ltN f.1 n) ++ (n, x) :: (withoutT t n).filter (fun f => ltN n f.1)
def Rising (t : Fl α) : Prop := t.Pairwise fun a b => ltN a.1 b.1 = true
/-- The same files, each with g of what it holds. -/
def mapT (g : α → β) (t : Fl α) : Fl β := t.map fun f => (f.1, g f.2)

theorem mapT_length (g : α → β) (t : Fl α) : (mapT g t).length = t.length := by simp [mapT]
theorem withoutT_map (g : α → β) (t : Fl α) (n : ByteArray) : withoutT (mapT g t) n = mapT g (withoutT t n) := by
  simp [withoutT, mapT, List.filter_map, Function.comp_def]
theorem withT_map (g : α → β) (t : Fl α) (n : ByteArray) (x : α) : withT (mapT g t) n (g x) = mapT g (withT t n x) := by
  simp only [withT, withoutT_map]
  simp [mapT, List.filter_map, Function.comp_def]
theorem getT_map (g : α → β) (t : Fl α) (n : ByteArray) : getT (mapT g t) n = (getT t n).map g := by
  simp [getT, mapT, List.find?_map, Function.comp_def]
theorem hasT_map (g : α → β) (t : Fl α) (n : ByteArray) : hasT (mapT g t) n = hasT t n := by
  simp [hasT, getT_map]
theorem rising_map {g : α → β} {t : Fl α} : Rising (mapT g t) ↔ Rising t := by
  simp [Rising, mapT, List.pairwise_map]

theorem rising_tail {f : ByteArray × α} {t : Fl α} (h : Rising (f :: t)) : Rising t := (List.pairwise_cons.1 h).2
theorem rising_head {f g : ByteArray × α} {t : Fl α} (h : Rising (f :: t)) (hg : g ∈ t) : ltN f.1 g.1 = true := (List.pairwise_cons.1 h).1 g hg

/-- Of one name there is one file. -/
theorem rising_one {t : Fl α} (h : Rising t) {f g : ByteArray × α} (hf : f ∈ t) (hg : g ∈ t) (e : f.1 = g.1) : f = g := by
  induction t with
  | nil => cases hf
  | cons a t ih =>
    rcases List.mem_cons.1 hf with rfl | hf'
    · rcases List.mem_cons.1 hg with rfl | hg'
      · rfl
      · exact absurd e (ltN_ne (rising_head h hg'))
    · rcases List.mem_cons.1 hg with rfl | hg'
      · exact absurd e.symm (ltN_ne (rising_head h hf'))
      · exact ih (rising_tail h) hf' hg'

theorem getT_mem {t : Fl α} {n : ByteArray} {x : α} (h : getT t n = some x) : (n, x) ∈ t := by
  simp only [getT, Option.map_eq_some_iff] at h
  obtain ⟨f, hf, rfl⟩ := h
  have h1 := List.find?_some hf
  have h2 := List.mem_of_find?_eq_some hf
  simp only [decide_eq_true_eq] at h1
  rw [← h1]; exact h2
theorem getT_none {t : Fl α} {n : ByteArray} : getT t n = none ↔ ∀ f ∈ t, f.1 ≠ n := by
  simp [getT, List.find?_eq_none]
theorem getT_iff {t : Fl α} (h : Rising t) {n : ByteArray} {x : α} : getT t n = some x ↔ (n, x) ∈ t := by
  refine ⟨getT_mem, fun hm => ?_⟩
  cases hg : getT t n with
  | none => exact absurd rfl (getT_none.1 hg _ hm)
  | some y =>
    have := rising_one h hm (getT_mem hg) rfl
    simp only [Prod.mk.injEq, true_and] at this
    rw [this]
theorem hasT_iff {t : Fl α} {n : ByteArray} : hasT t n = true ↔ ∃ f ∈ t, f.1 = n := by
  unfold hasT
  rw [Option.isSome_iff_ne_none]
  constructor
  · intro h
    rcases Classical.em (∃ f ∈ t, f.1 = n) with h1 | h1
    · exact h1
    · exact absurd (getT_none.2 fun f hf e => h1 ⟨f, hf, e⟩) h
  · rintro ⟨f, hf, e⟩ h
    exact getT_none.1 h f hf e
theorem hasT_no {t : Fl α} {n : ByteArray} : hasT t n = false ↔ ∀ f ∈ t, f.1 ≠ n := by
  rw [← getT_none]; unfold hasT; cases getT t n <;> simp
theorem hasT_get {t : Fl α} {n : ByteArray} (h : hasT t n = true) : ∃ x, getT t n = some x := Option.isSome_iff_exists.1 h
theorem getT_has {t : Fl α} {n : ByteArray} {x : α} (h : getT t n = some x) : hasT t n = true := by simp [hasT, h]

theorem mem_without {t : Fl α} {n : ByteArray} {f : ByteArray × α} : f ∈ withoutT t n ↔ f ∈ t ∧ f.1 ≠ n := by simp [withoutT]
theorem mem_with {t : Fl α} {n : ByteArray} {x : α} {f : ByteArray × α} : f ∈ withT t n x ↔ f = (n, x) ∨ (f ∈ t ∧ f.1 ≠ n) := by
  simp only [withT, List.mem_append, List.mem_cons, List.mem_filter, mem_without]
  constructor
  · rintro (⟨h, _⟩ | h | ⟨h, _⟩)
    · exact .inr h
    · exact .inl h
    · exact .inr h
  · rintro (h | h)
    · exact .inr (.inl h)
    · rcases ltN_total h.2 with k | k
      · exact .inl ⟨h, k⟩
      · exact .inr (.inr ⟨h, k⟩)

theorem rising_without {t : Fl α} (h : Rising t) (n : ByteArray) : Rising (withoutT t n) := List.Pairwise.filter _ h
theorem rising_with {t : Fl α} (h : Rising t) (n : ByteArray) (x : α) : Rising (withT t n x) := by
  have hw := rising_without h n
  refine List.pairwise_append.2 ⟨List.Pairwise.filter _ hw, List.pairwise_cons.2 ⟨fun f hf => ?_, List.Pairwise.filter _ hw⟩, fun f hf g hg => ?_⟩
  · simpa using (List.mem_filter.1 hf).2
  · have h1 : ltN f.1 n = true := by simpa using (List.mem_filter.1 hf).2
    rcases List.mem_cons.1 hg with rfl | hg
    · exact h1
    · exact ltN_trans h1 (by simpa using (List.mem_filter.1 hg).2)
theorem rising_nil : Rising ([] : Fl α) := List.Pairwise.nil

/-- Two rising rows of the same files are one. -/
theorem rising_ext : ∀ {a b : Fl α}, Rising a → Rising b → (∀ f, f ∈ a ↔ f ∈ b) → a = b
  | [], [], _, _, _ => rfl
  | [], y :: b, _, _, h => absurd ((h y).2 List.mem_cons_self) (by simp)
  | x :: a, [], _, _, h => absurd ((h x).1 List.mem_cons_self) (by simp)
  | x :: a, y :: b, ha, hb, h => by
    have hxy : x = y := by
      rcases List.mem_cons.1 ((h x).1 List.mem_cons_self) with e | hx
      · exact e
      · rcases List.mem_cons.1 ((h y).2 List.mem_cons_self) with e | hy
        · exact e.symm
        · have h1 := rising_head hb hx
          have h2 := ltN_asymm (rising_head ha hy)
          rw [h1] at h2; cases h2
    subst hxy
    refine congrArg _ (rising_ext (rising_tail ha) (rising_tail hb) fun f => ⟨fun hf => ?_, fun hf => ?_⟩)
    · rcases List.mem_cons.1 ((h f).1 (List.mem_cons_of_mem _ hf)) with rfl | hf'
      · exact absurd rfl (ltN_ne (rising_head ha hf))
      · exact hf'
    · rcases List.mem_cons.1 ((h f).2 (List.mem_cons_of_mem _ hf)) with rfl | hf'
      · exact absurd rfl (ltN_ne (rising_head hb hf))
      · exact hf'

theorem with_length {t : Fl α} (n : ByteArray) (x : α) : (withT t n x).length ≤ t.length + 1 := by
  have h1 : ∀ u : Fl α, (u.filter (fun f => ltN f.1 n)).length + (u.filter (fun f => ltN n f.1)).length ≤ u.length := fun u => by
    induction u with
    | nil => simp
    | cons f u ih =>
      simp only [List.filter_cons, List.length_cons]
      by_cases h : ltN f.1 n = true
      · simp only [h, if_true, ltN_asymm h, List.length_cons]; simp; omega
      · rw [if_neg h]; split <;> (try simp only [List.length_cons]) <;> omega
  have h2 := h1 (withoutT t n)
  have h3 : (withoutT t n).length ≤ t.length := List.length_filter_le _ _
  simp only [withT, List.length_append, List.length_cons]; omega
theorem without_length (t : Fl α) (n : ByteArray) : (withoutT t n).length ≤ t.length := List.length_filter_le _ _

theorem without_id {t : Fl α} {n : ByteArray} (h : hasT t n = false) : withoutT t n = t := List.filter_eq_self.2 fun f hf => by simpa using hasT_no.1 h f hf

/-- What was added can be removed. -/
theorem without_with {t : Fl α} (ht : Rising t) {n : ByteArray} (h : hasT t n = false) (x : α) : withoutT (withT t n x) n = t := by
  refine rising_ext (rising_without (rising_with ht n x) n) ht fun f => ?_
  rw [mem_without, mem_with]
  constructor
  · rintro ⟨rfl | h1, h2⟩
    · exact absurd rfl h2
    · exact h1.1
  · exact fun hf => ⟨.inr ⟨hf, hasT_no.1 h f hf⟩, hasT_no.1 h f hf⟩
/-- What was taken away can be put back. -/
theorem with_without {t : Fl α} (ht : Rising t) {n : ByteArray} {x : α} (h : getT t n = some x) : withT (withoutT t n) n x = t := by
  refine rising_ext (rising_with (rising_without ht n) n x) ht fun f => ?_
  rw [mem_with, mem_without]
  constructor
  · rintro (rfl | h1)
    · exact getT_mem h
    · exact h1.1.1
  · intro hf
    by_cases e : f.1 = n
    · exact .inl (rising_one ht hf (getT_mem h) e)
    · exact .inr ⟨⟨hf, e⟩, e⟩
theorem get_with_same {t : Fl α} (ht : Rising t) (n : ByteArray) (x : α) : getT (withT t n x) n = some x := (getT_iff (rising_with ht n x)).2 (mem_with.2 (.inl rfl))
theorem get_without_same (t : Fl α) (n : ByteArray) : getT (withoutT t n) n = none := getT_none.2 fun _ hf => (mem_without.1 hf).2
theorem has_without_same (t : Fl α) (n : ByteArray) : hasT (withoutT t n) n = false := hasT_no.2 fun _ hf => (mem_without.1 hf).2
theorem has_without_no {t : Fl α} {m : ByteArray} (h : hasT t m = false) (n : ByteArray) : hasT (withoutT t n) m = false := hasT_no.2 fun f hf => hasT_no.1 h f (mem_without.1 hf).1
theorem has_with_other {t : Fl α} {m n : ByteArray} (x : α) (h : m ≠ n) : hasT (withT t n x) m = hasT t m := by
  rw [Bool.eq_iff_iff, hasT_iff, hasT_iff]
  constructor
  · rintro ⟨f, hf, rfl⟩
    rcases mem_with.1 hf with rfl | h1
    · exact absurd rfl h
    · exact ⟨f, h1.1, rfl⟩
  · rintro ⟨f, hf, rfl⟩
    exact ⟨f, mem_with.2 (.inr ⟨hf, h⟩), rfl⟩
theorem get_with_other {t : Fl α} (ht : Rising t) {m n : ByteArray} (x : α) (h : m ≠ n) : getT (withT t n x) m = getT t m := by
  cases hg : getT t m with
  | none =>
    refine getT_none.2 fun f hf => ?_
    rcases mem_with.1 hf with rfl | h1
    · exact fun e => h e.symm
    · exact getT_none.1 hg f h1.1
  | some y => exact (getT_iff (rising_with ht n x)).2 (mem_with.2 (.inr ⟨getT_mem hg, h⟩))
/-- The names, when a file that is there is given other lines. -/
theorem names_with {t : Fl α} (ht : Rising t) {n : ByteArray} (h : hasT t n = true) (x : α) : (withT t n x).map (·.1) = t.map (·.1) := by
  have h1 : mapT (fun _ => ()) (withT t n x) = mapT (fun _ => ()) t := by
    refine rising_ext (rising_map.2 (rising_with ht n x)) (rising_map.2 ht) fun f => ?_
    simp only [mapT, List.mem_map]
    constructor
    · rintro ⟨g, hg, rfl⟩
      rcases mem_with.1 hg with rfl | hg
      · obtain ⟨y, hy⟩ := hasT_get h
        exact ⟨_, getT_mem hy, rfl⟩
      · exact ⟨g, hg.1, rfl⟩
    · rintro ⟨g, hg, rfl⟩
      by_cases e : g.1 = n
      · exact ⟨(n, x), mem_with.2 (.inl rfl), by rw [e]⟩
      · exact ⟨g, mem_with.2 (.inr ⟨hg, e⟩), rfl⟩
  have h2 := congrArg (List.map (·.1)) h1
  simpa [mapT, Function.comp_def] using h2
end

/-- May the byte stand in a name? -/
def nameByte (c : UInt8) : Bool := (decide (97 ≤ c) && decide (c ≤ 122)) || (decide (48 ≤ c) && decide (c ≤ 57)) || c == 46 || c == 45 || c == 95 || c == 47
def namedB (s : ByteArray) : Bool := decide (1 ≤ s.size) && decide (s.size ≤ 24) && (bytes s).all nameByte

/-- A call. -/
structure OpV where
  kind : Int
  name : ByteArray
  to : ByteArray
  l : List ByteArray

/-- P2.2: the tree behind a call, and its error. -/
def addT (t : Tr) (n : ByteArray) : Tr × Int := if namedB n = false then (t, 20) else if hasT t n = true then (t, 21) else (withT t n [], 0)
def removeT (t : Tr) (n : ByteArray) : Tr × Int := match getT t n with | none => (t, 20) | some l => if 0 < l.length then (t, 22) else (withoutT t n, 0)
def moveT (t : Tr) (a b : ByteArray) : Tr × Int := match getT t a with | none => (t, 20) | some l => if namedB b = false then (t, 20) else if hasT t b = true then (t, 21) else (withT (withoutT t a) b l, 0)
def putT (t : Tr) (n : ByteArray) (l : List ByteArray) : Tr × Int := if hasT t n = false then (t, 20) else if allB l = false then (t, 1) else (withT t n l, 0)
def doT (t : Tr) (o : OpV) : Tr × Int :=
  if o.kind = 0 then addT t o.name else if o.kind = 1 then removeT t o.name else if o.kind = 2 then moveT t o.name o.to else if o.kind = 3 then putT t o.name o.l else (t, 0)

/-- Are both the same? -/
def sameT (a b : Tr) : Bool := decide (a = b)
theorem sameT_no {a b : Tr} (h : a ≠ b) : sameT a b = false := by simp [sameT, h]
theorem sameT_self (a : Tr) : sameT a a = true := by simp [sameT]

end Go.Proofs.YtboffgmaohcpfaaDoor

/-
  Trees in memory: a map from names to rows of lines, what it holds, and how it is kept while memory grows.
-/
namespace Go.Proofs.YtboffgmaohcpfaaDoor
open Go.RowKit Go.Maps

/-- How a file's lines read: as the slice itself. -/
def raw : Value → Option (DataW Value × List MemPlace)
  | .slice A n c => some (.held (.slice A n c), [])
  | _ => none
theorem raw_mk (A : Option Addr) (n c : Nat) : raw (.slice A n c) = some (.held (.slice A n c), []) := rfl
theorem raw_inv {v : Value} {y : DataW Value × List MemPlace} (h : raw v = some y) : ∃ A n c, v = .slice A n c ∧ y = (.held v, []) := by
  cases v <;> simp [raw] at h
  exact ⟨_, _, _, rfl, h.symm⟩

def ent (f : ByteArray × Value) : Lit × DataW Value := (.string (bytes f.1), .held f.2)
/-- What a map of these files reads as. -/
def datum (vs : Fl Value) : DataW Value := .map (vs.map ent)

theorem ent_same (f : ByteArray × Value) (n : ByteArray) : (ent f).1.sameKey (.string (bytes n)) = decide (f.1 = n) := by
  simp only [ent, Lit.sameKey]
  by_cases h : f.1 = n
  · simp [h]
  · simp [h]; exact fun e => h (bytes_inj e)
theorem ent_before (f g : ByteArray × Value) : (ent f).1.before (ent g).1 = ltN f.1 g.1 := rfl

theorem has_datum (vs : Fl Value) (n : ByteArray) : Maps.has (datum vs) (.string (bytes n)) = hasT vs n := by
  rw [Bool.eq_iff_iff, hasT_iff]
  simp only [datum, Maps.has_eq, List.any_map, List.any_eq_true, Function.comp_apply, ent_same, decide_eq_true_eq]
theorem atKey_datum (vs : Fl Value) (n : ByteArray) (z : DataW Value) : (datum vs).atKey (.string (bytes n)) z = match getT vs n with | some v => .held v | none => z := by
  simp only [datum, DataW.atKey, List.find?_map, Function.comp_def, ent_same, getT]
  cases vs.find? fun f => decide (f.1 = n) <;> rfl
theorem size_datum (vs : Fl Value) : Maps.size (datum vs) = vs.length := by simp [datum, Maps.size_eq]
theorem del_datum (vs : Fl Value) (n : ByteArray) : (datum vs).del (.string (bytes n)) = datum (withoutT vs n) := by
  have e : ∀ f : ByteArray × Value, (!decide (f.1 = n)) = decide (f.1 ≠ n) := fun f => by simp
  simp only [datum, DataW.del, withoutT, List.filter_map, Function.comp_def, ent_same, e]
theorem insert_datum (n : ByteArray) (v : Value) : ∀ u : Fl Value, Rising u → (∀ f ∈ u, f.1 ≠ n) →
    DataW.insert (ent (n, v)) (u.map ent) = (u.filter (fun f => ltN f.1 n) ++ (n, v) :: u.filter (fun f => ltN n f.1)).map ent
  | [], _, _ => rfl
  | y :: r, hr, hn => by
    have hy := hn y List.mem_cons_self
    simp only [List.map_cons, DataW.insert]
    have hbf : (ent (n, v)).1.before (ent y).1 = ltN n y.1 := rfl
    by_cases h : ltN n y.1 = true
    · rw [if_pos (hbf.trans h)]
      have h1 : (y :: r).filter (fun f => ltN f.1 n) = [] := List.filter_eq_nil_iff.2 fun f hf => by
        rcases List.mem_cons.1 hf with rfl | hf
        · simp [ltN_asymm h]
        · simp [ltN_asymm (ltN_trans h (rising_head hr hf))]
      have h2 : (y :: r).filter (fun f => ltN n f.1) = y :: r := List.filter_eq_self.2 fun f hf => by
        rcases List.mem_cons.1 hf with rfl | hf
        · exact h
        · exact ltN_trans h (rising_head hr hf)
      rw [h1, h2]; rfl
    · rw [if_neg (fun e => h (hbf.symm.trans e))]
      have hlt : ltN y.1 n = true := (ltN_total hy).resolve_right h
      rw [insert_datum n v r (rising_tail hr) fun f hf => hn f (List.mem_cons_of_mem _ hf)]
      simp only [List.filter_cons, hlt, if_true]
      rw [if_neg h]; rfl
theorem put_datum {vs : Fl Value} (h : Rising vs) (n : ByteArray) (v : Value) : (datum vs).put (.string (bytes n)) (.held v) = datum (withT vs n v) := by
  have e : (vs.map ent).filter (fun p => !p.1.sameKey (.string (bytes n))) = (withoutT vs n).map ent := by
    have e : ∀ f : ByteArray × Value, (!decide (f.1 = n)) = decide (f.1 ≠ n) := fun f => by simp
    simp only [withoutT, List.filter_map, Function.comp_def, ent_same, e]
  simp only [datum, DataW.put, e]
  rw [show ((Lit.string (bytes n), DataW.held v) : Lit × DataW Value) = ent (n, v) from rfl, insert_datum n v _ (rising_without h n) fun f hf => (mem_without.1 hf).2]
  rfl

theorem own_tight {H : Type} {P : Program} {k : TypeId} {R : Value → Option (DataW H × List MemPlace)} {w : World} {b n : Nat} {D : DataW H} (h : w.ownsMap P k R b n D) : w.ownsMap P k R b (Maps.size D) D := by
  obtain ⟨es, clock, hb, F, hs, rfl⟩ := h
  exact ⟨es, clock, hb, F, by simp [Maps.size, length_sorted], rfl⟩

/-- The value is a slice that reads as these lines. -/
def Reads (w : World) (v : Value) (l : List ByteArray) : Prop := ∃ A n c, v = .slice A n c ∧ n ≤ c ∧ Row w A n l

/-- A file's value, and its lines. -/
abbrev Held := Value × List ByteArray

/-- Block B is a map of the files z. -/
structure FA (w : World) (B : Nat) (z : Fl Held) : Prop where
  own : w.ownsMap Tryd.prog 9 raw B z.length (datum (mapT (·.1) z))
  rise : Rising z
  reads : ∀ f ∈ z, Reads w f.2.1 f.2.2

/-- Block B is a map of the files t. -/
def FilesAt (w : World) (B : Nat) (t : Tr) : Prop := ∃ z, FA w B z ∧ mapT (·.2) z = t

/-- Block p holds the map of block B: a tree of the files t. -/
structure TreeAt (w : World) (p B : Nat) (t : Tr) : Prop where
  cell : w.cell? ⟨p, 0, none⟩ = some (.map (some B))
  files : FilesAt w B t

/-- Nothing has turned but block B. -/
def Turned (B : Nat) (w w' : World) : Prop := w.grownBy w' (some B)

section
variable {w w' w'' : World} {A : Option Addr} {n B p : Nat} {l : List ByteArray} {v : Value} {z : Fl Held} {t : Tr}

theorem Turned.refl (B : Nat) (w : World) : Turned B w w := ⟨rfl, rfl, rfl, Nat.le_refl _, fun _ _ _ => rfl⟩
theorem Later.turned (h : Later w w') (B : Nat) : Turned B w w' := ⟨h.os, h.tape, h.output, h.size, fun i hi _ => h.block i hi⟩
theorem Turned.trans (h : Turned B w w') (k : Turned B w' w'') : Turned B w w'' :=
  ⟨k.os.trans h.os, k.tape.trans h.tape, k.output.trans h.output, Nat.le_trans h.size k.size, fun i hi hne => (k.block i (Nat.lt_of_lt_of_le hi h.size) hne).trans (h.block i hi hne)⟩
/-- A block that was not there at w has turned: of what was there nothing has. -/
theorem Later.turn (h : Later w w') (k : Turned B w' w'') (hB : w.heap.size ≤ B) : Later w w'' :=
  ⟨k.os.trans h.os, k.tape.trans h.tape, k.output.trans h.output, Nat.le_trans h.size k.size, fun i hi => (k.block i (Nat.lt_of_lt_of_le hi h.size) (fun e => by cases e; omega)).trans (h.block i hi)⟩
theorem Turned.le (h : Turned B w w') : w.heap.size ≤ w'.heap.size := h.size
theorem Turned.cell (h : Turned B w w') {a : Addr} {u : Value} (hc : w.cell? a = some u) (hne : a.block ≠ B) : w'.cell? a = some u :=
  (World.cell?_of_block (h.block a.block (lt_of_cell hc) (fun e => hne (by cases e; rfl)))).trans hc
theorem Turned.of_map (h : w.mapTurned w' B) : Turned B w w' := h.grown

theorem not_map {es : Array MapEntry} {c : Nat} {a : Addr} {u : Value} (hm : w.heap[B]? = some (.map es c)) (hc : w.cell? a = some u) : a.block ≠ B := by
  rintro rfl
  simp [World.cell?, hm] at hc

theorem Row.turned (h : Row w A n l) (hg : Turned B w w') {es : Array MapEntry} {c : Nat} (hm : w.heap[B]? = some (.map es c)) : Row w' A n l :=
  ⟨h.1, fun hn => by
    obtain ⟨b, o, e, hc⟩ := h.2 hn
    exact ⟨b, o, e, fun j s hs => hg.cell (hc j s hs) (not_map hm (hc j s hs))⟩⟩
theorem Reads.later (h : Reads w v l) (hl : Later w w') : Reads w' v l := by
  obtain ⟨A, n, c, rfl, hc, hr⟩ := h; exact ⟨A, n, c, rfl, hc, hr.later hl⟩
theorem Reads.turned (h : Reads w v l) (hg : Turned B w w') {es : Array MapEntry} {c : Nat} (hm : w.heap[B]? = some (.map es c)) : Reads w' v l := by
  obtain ⟨A, n, c, rfl, hc, hr⟩ := h; exact ⟨A, n, c, rfl, hc, hr.turned hg hm⟩
theorem Reads.nil (w : World) : Reads w (.slice none 0 0) [] := ⟨none, 0, 0, rfl, Nat.le_refl _, Row.none⟩

theorem FA.map (h : FA w B z) : ∃ es c, w.heap[B]? = some (.map es c) := by
  obtain ⟨es, c, hb, _⟩ := h.own; exact ⟨es, c, hb⟩
theorem FA.lt (h : FA w B z) : B < w.heap.size := h.own.lt
theorem FA.later (h : FA w B z) (hl : Later w w') : FA w' B z :=
  ⟨h.own.kept (row := none) ⟨hl.os, hl.tape, hl.output, hl.size, fun i hi _ => hl.block i hi⟩ (by simp), h.rise, fun f hf => (h.reads f hf).later hl⟩
/-- Another map has turned. -/
theorem FA.other {B' : Nat} (h : FA w B z) (hg : Turned B' w w') (hne : B ≠ B') {es : Array MapEntry} {c : Nat} (hm : w.heap[B']? = some (.map es c)) : FA w' B z :=
  ⟨h.own.kept hg (by simpa using hne), h.rise, fun f hf => (h.reads f hf).turned hg hm⟩
theorem FA.put (h : FA w B z) {k : Nat} {nm : ByteArray} (hw : w'.ownsMap Tryd.prog 9 raw B k ((datum (mapT (·.1) z)).put (.string (bytes nm)) (.held v))) (ht : w.mapTurned w' B) (hr : Reads w v l) : FA w' B (withT z nm (v, l)) := by
  have e : (datum (mapT (·.1) z)).put (.string (bytes nm)) (.held v) = datum (mapT (·.1) (withT z nm (v, l))) := by
    rw [put_datum (rising_map.2 h.rise), ← withT_map (fun x : Held => x.1)]
  obtain ⟨es, c, hm⟩ := h.map
  have hg := Turned.of_map ht
  refine ⟨?_, rising_with h.rise _ _, fun f hf => ?_⟩
  · have := own_tight hw
    rw [e, size_datum, mapT_length] at this
    exact this
  · rcases mem_with.1 hf with rfl | hf
    · exact hr.turned hg hm
    · exact (h.reads f hf.1).turned hg hm
theorem FA.del (h : FA w B z) {k : Nat} {nm : ByteArray} (hw : w'.ownsMap Tryd.prog 9 raw B k ((datum (mapT (·.1) z)).del (.string (bytes nm)))) (ht : w.mapTurned w' B) : FA w' B (withoutT z nm) := by
  obtain ⟨es, c, hm⟩ := h.map
  have hg := Turned.of_map ht
  refine ⟨?_, rising_without h.rise _, fun f hf => (h.reads f (mem_without.1 hf).1).turned hg hm⟩
  have := own_tight hw
  rw [del_datum, withoutT_map, size_datum, mapT_length] at this
  exact this
/-- A new map. -/
theorem FA.made (w : World) : FA (w.alloc (.map #[] 0)) w.heap.size [] := ⟨World.ownsMap_made w _ _ _, rising_nil, fun f hf => by cases hf⟩

theorem FilesAt.later (h : FilesAt w B t) (hl : Later w w') : FilesAt w' B t := by obtain ⟨z, h, rfl⟩ := h; exact ⟨z, h.later hl, rfl⟩
theorem FilesAt.lt (h : FilesAt w B t) : B < w.heap.size := by obtain ⟨z, h, _⟩ := h; exact h.lt
theorem FilesAt.map (h : FilesAt w B t) : ∃ es c, w.heap[B]? = some (.map es c) := by obtain ⟨z, h, _⟩ := h; exact h.map
theorem FilesAt.rise (h : FilesAt w B t) : Rising t := by obtain ⟨z, h, rfl⟩ := h; exact rising_map.2 h.rise
theorem FilesAt.other {B' : Nat} (h : FilesAt w B t) (hg : Turned B' w w') (hne : B ≠ B') {es : Array MapEntry} {c : Nat} (hm : w.heap[B']? = some (.map es c)) : FilesAt w' B t := by
  obtain ⟨z, h, rfl⟩ := h; exact ⟨z, h.other hg hne hm, rfl⟩
theorem TreeAt.later (h : TreeAt w p B t) (hl : Later w w') : TreeAt w' p B t := ⟨hl.cell h.cell, h.files.later hl⟩
theorem TreeAt.ne (h : TreeAt w p B t) : p ≠ B := by
  obtain ⟨es, c, hm⟩ := h.files.map
  exact not_map hm h.cell
theorem TreeAt.lt (h : TreeAt w p B t) : p < w.heap.size := lt_of_cell h.cell
/-- The tree's own map has turned, to other files. -/
theorem TreeAt.to {t' : Tr} (h : TreeAt w p B t) (hg : Turned B w w') (hf : FilesAt w' B t') : TreeAt w' p B t' := ⟨hg.cell h.cell h.ne, hf⟩
theorem TreeAt.other {B' : Nat} (h : TreeAt w p B t) (hg : Turned B' w w') (hne : B ≠ B') {es : Array MapEntry} {c : Nat} (hm : w.heap[B']? = some (.map es c)) : TreeAt w' p B t :=
  ⟨hg.cell h.cell (not_map hm h.cell), h.files.other hg hne hm⟩
end

theorem keyed9 : Keyed Tryd.prog 9 := string_keyed Tryd.underlying9
theorem key9 {s : ByteArray} (h : s.size ≤ maxLen) : keyOf Tryd.prog 9 (.string s) = some (.string (bytes s)) := WideMaps.keyOf_string_mk Tryd.underlying9 h

theorem zero29 (w : World) : (zeroValue 22).run Tryd.prog w = .ok (.slice none 0 0) w := by kernel_rfl

/-- A look-up of a file that is there. -/
theorem FA.look_yes {w : World} {B : Nat} {z : Fl Held} (h : FA w B z) {nm : ByteArray} (hs : nm.size ≤ maxLen) {x : Held} (hx : getT z nm = some x) :
    (Instr.lookup 49 (.map (some B)) (.string nm) true).run Tryd.prog w = .ok (.tuple #[x.1, .bool true]) w := by
  obtain ⟨v, ps, hrun, hv⟩ := h.own.look_ok keyed9 Tryd.underlying49 (zero29 w) (raw_mk none 0 0) (key9 hs)
  rw [atKey_datum, getT_map, hx] at hv
  rw [has_datum, hasT_map, getT_has hx] at hrun
  obtain ⟨A, n, c, rfl, hy⟩ := raw_inv hv
  simp only [Option.map_some, Prod.mk.injEq, DataW.held.injEq] at hy
  rw [hrun, ← hy.1]
/-- A look-up of a file that is not. -/
theorem FA.look_no {w : World} {B : Nat} {z : Fl Held} (h : FA w B z) {nm : ByteArray} (hs : nm.size ≤ maxLen) (hx : getT z nm = none) :
    (Instr.lookup 49 (.map (some B)) (.string nm) true).run Tryd.prog w = .ok (.tuple #[.slice none 0 0, .bool false]) w := by
  obtain ⟨v, ps, hrun, hv⟩ := h.own.look_ok keyed9 Tryd.underlying49 (zero29 w) (raw_mk none 0 0) (key9 hs)
  rw [atKey_datum, getT_map, hx] at hv
  rw [has_datum, hasT_map, hasT_no.2 (getT_none.1 hx)] at hrun
  obtain ⟨A, n, c, rfl, hy⟩ := raw_inv hv
  simp only [Option.map_none, Prod.mk.injEq, DataW.held.injEq] at hy
  rw [hrun, ← hy.1]
/-- What is there reads as its lines. -/
theorem FA.get {w : World} {B : Nat} {z : Fl Held} (h : FA w B z) {nm : ByteArray} {x : Held} (hx : getT z nm = some x) : Reads w x.1 x.2 := h.reads _ (getT_mem hx)

end Go.Proofs.YtboffgmaohcpfaaDoor

/-
  The element type of a row of lines.
-/
namespace Go.Proofs.YtboffgmaohcpfaaDoor
open Go.RowKit

theorem Tryd.textInfo : (Tryd.prog.info? 9).map (fun i => (i.zero, i.size, i.bytes)) = some (some (.string ByteArray.empty), 1, 16) := by kernel_rfl

end Go.Proofs.YtboffgmaohcpfaaDoor

/-
  What slices.Clone at rows of texts comes to, as a call.
-/
namespace Go.Proofs.YtboffgmaohcpfaaDoor
open Go.RowKit

theorem Own.on {e : TypeId} {w0 w w' : World} {v : Value} {ss : List ByteArray} (h : Own e w0 w v ss) (hl : Later w w') : Own e w0 w' v ss :=
  ⟨h.1.kept (row := none) ⟨hl.os, hl.tape, hl.output, hl.size, fun i hi _ => hl.block i hi⟩ (by cases v.ownBlock <;> simp), h.2.trans hl⟩
theorem Own.base {e : TypeId} {w0 w1 w : World} {v : Value} {ss : List ByteArray} (h : Own e w1 w v ss) (hl : Later w0 w1) : Own e w0 w v ss :=
  ⟨by
    obtain ⟨hx, h1 | ⟨g, cap, cur, hv, hg, h2⟩⟩ := h.1
    · exact ⟨hx, .inl h1⟩
    · exact ⟨hx, .inr ⟨g, cap, cur, hv, Nat.le_trans hl.le hg, h2⟩⟩, hl.trans h.2⟩

/-- A row of new memory, the call's own. -/
def GivesOwn (ss : List ByteArray) (w : World) (e : Ending) (w' : World) : Prop := ∃ v, e = .returned v ∧ Own 9 w w' v ss

set_option maxHeartbeats 400000 in
theorem clone_any (A : Option Addr) (n c : Nat) (l : List ByteArray) (w : World) (hx : Row w A n l) (hn : n ≤ 65536) :
    Calls Tryd.prog 32 #[.slice A n c] w (GivesOwn l w) := by
  have q29 : ∀ (w : World) (a : Option Addr) (n c n' c' : Nat), (binOp .eql 22 (.slice a n c) (.slice none n' c')).run Tryd.prog w = .ok (.bool a.isNone) w := fun w a n c n' c' => Lib.run_eql_slice_nil w _ _ a n c n' c' Tryd.underlying22
  cases A with
  | none =>
    have e : l = [] := by
      rcases Nat.eq_zero_or_pos n with h | h
      · exact List.eq_nil_of_length_eq_zero (hx.len.trans h)
      · obtain ⟨_, _, e, _⟩ := hx.2 h; cases e
    subst e
    clear hx
    go_enter Tryd.func32, Tryd.ntmps32
    go_wp2
    go_ret
    exact ⟨_, rfl, Own.nil (Later.refl w)⟩
  | some a =>
    have HX := Lib.hid hx; clear hx
    obtain ⟨i0, hi, hz0, hz1, hz2⟩ := info_parts Tryd.textInfo
    go_enter Tryd.func32, Tryd.ntmps32
    go_wp2_with (at_builtin; refine wpList_append_row (w0 := w) rfl _ _ 22 rfl i0 Tryd.underlying22 hi hz0 hz1 hz2 (Own.empty (Later.refl w)) rfl _ _ _ _ rfl (HX.out.later ((Later.refl w).alloc _)) (by simp; omega) ?_; intro v2 w2 hown2 hg2; have HO2 := Lib.hid hown2; clear hown2 hg2)
    go_ret
    exact ⟨_, rfl, by simpa using HO2.out⟩

end Go.Proofs.YtboffgmaohcpfaaDoor

/-
  What tree's Names comes to, as a call.
-/
namespace Go.Proofs.YtboffgmaohcpfaaDoor
open Go.RowKit Go.Maps Go.Sort

theorem before_lt : ∀ a b : List UInt8, bytesBefore a b = true ↔ a < b
  | [], [] => by simp [bytesBefore]
  | [], b :: s => by simp [bytesBefore]
  | a :: r, [] => by simp [bytesBefore]
  | a :: r, b :: s => by
    simp only [bytesBefore, Bool.or_eq_true, decide_eq_true_eq, Bool.and_eq_true, beq_iff_eq, List.cons_lt_cons_iff, before_lt r s]

theorem keys_datum (vs : Fl Value) : strKeys (datum vs) = vs.map fun f => bytes f.1 := by
  simp [strKeys, datum, ent, strOf, Function.comp_def]

theorem keys_sorted {vs : Fl Value} (h : Rising vs) {ss : List (List UInt8)} (hp : ss.Perm (strKeys (datum vs))) : ss.mergeSort (fun x y => decide (x ≤ y)) = vs.map fun f => bytes f.1 := by
  have e : ss.mergeSort leB = (strKeys (datum vs)).mergeSort leB := mergeSort_of_perm hp
  rw [show (fun x y : List UInt8 => decide (x ≤ y)) = leB from rfl, e, keys_datum]
  refine List.mergeSort_of_pairwise (List.pairwise_map.2 (h.imp fun {a b} hab => ?_))
  simp only [leB, decide_eq_true_eq]
  exact List.le_of_lt ((before_lt _ _).1 hab)

theorem keys_values {vs : Fl Value} (h : Rising vs) {ss : List (List UInt8)} (hp : ss.Perm (strKeys (datum vs))) :
    (ss.mergeSort (fun x y => decide (x ≤ y))).map encStr = (vs.map (·.1)).map Value.string ∧ ss.length = (vs.map (·.1)).length := by
  refine ⟨?_, by have := hp.length_eq; rw [keys_datum] at this; simpa using this⟩
  rw [keys_sorted h hp, List.map_map, List.map_map]
  refine List.map_congr_left fun f _ => ?_
  show Value.string (txt (bytes f.1)) = Value.string f.1
  rw [txt_bytes]

/-- The names of a tree's files. -/
def namesT (t : Tr) : List ByteArray := t.map (·.1)
theorem names_map (z : Fl Held) : namesT (mapT (·.2) z) = (mapT (·.1) z).map (·.1) := by simp [namesT, mapT]

set_option maxHeartbeats 400000 in
theorem names_any (p B : Nat) (t : Tr) (w : World) (ht : TreeAt w p B t) (hl : t.length ≤ 65536) :
    Calls Tryd.prog 36 #[.pointer (some ⟨p, 0, none⟩)] w (GivesOwn (namesT t) w) := by
  obtain ⟨hc, z, hz, rfl⟩ := ht
  have hsz : Maps.size (datum (mapT (·.1) z)) ≤ 65536 := by rw [size_datum, mapT_length]; rw [mapT_length] at hl; exact hl
  have HK := Lib.hid (callsIn_wide.1 (Tryd.maps_Keys (some B) w))
  have HS := Lib.hid (callsIn_wide.1 (Tryd.slices_Sorted_keys B z.length _ raw w hz.own (by simp only [maxLen]; omega) (by omega)))
  have HV := Lib.hid (fun (ss : List (List UInt8)) (hp : ss.Perm (strKeys (datum (mapT (·.1) z)))) => keys_values (rising_map.2 hz.rise) hp)
  rw [names_map]
  clear hz hsz hl
  go_enter Tryd.func36, Tryd.ntmps36
  go_wp2_with (first
    | (go_at_call 51; refine HK.out.mono ?_; rintro e w' ⟨rfl, rfl⟩)
    | (go_at_call 50; refine HS.out.mono ?_; rintro e w' ⟨v, ss, rfl, hS, hrow, hnil, hb⟩))
  go_ret
  obtain ⟨e1, e2⟩ := HV.out ss hS
  rw [e1, e2] at hrow
  exact ⟨v, rfl, ownsRow_base_a hrow (by simp), ((Later.refl w).alloc _).trans hb⟩

end Go.Proofs.YtboffgmaohcpfaaDoor

/-
  What line.Text comes to, as a call.
-/
namespace Go.Proofs.YtboffgmaohcpfaaDoor
open Go.RowKit

theorem cells_room1 {a : List UInt8} {x : ByteArray} {m : Nat} (h : a.length + x.size + 1 ≤ m) (hm : m ≤ 1000000) : (Lib.byteCells a).length + x.size ≤ 140737488355328 := by
  rw [Lib.byteCells, List.length_map]; omega

theorem cells_room {a : List UInt8} {x : ByteArray} {m : Nat} (h : a.length + x.size + 1 ≤ m) (hm : m ≤ 1000000) : (Lib.byteCells a ++ Lib.strCells x).length + (⟨#[10]⟩ : ByteArray).size ≤ 140737488355328 := by
  rw [List.length_append, Lib.byteCells, List.length_map, Lib.strCells_length]
  have : (⟨#[10]⟩ : ByteArray).size = 1 := rfl
  omega

set_option maxHeartbeats 400000 in
theorem text_any (A : Option Addr) (n c : Nat) (l : List ByteArray) (w : World) (hx : Row w A n l) (hn : n ≤ 65536) (hb : (textL l).length ≤ 1000000) :
    Calls Tryd.prog 39 #[.slice A n c] w fun e w' => e = .returned (.string (txt (textL l))) ∧ Later w w' := by
  have HX := Lib.hid hx; clear hx
  go_enter Tryd.func39, Tryd.ntmps39
  go_wp2
  go_loopg [8] (n + 1) (fun g s8 wr => ∃ k : Nat, k ≤ n ∧ n - k ≤ g ∧ s8 = .int .i64 k ∧ Later w wr ∧ Lib.IsBuilder 58 5 w.heap.size w.heap.size (Lib.byteCells (textL (l.take k))) wr)
  case atStart =>
    exact ⟨0, Nat.zero_le _, by omega, rfl, (Later.refl w).alloc _, .inl ⟨Nat.le_refl _, .slice none 0 0, heap_alloc_new w _, World.ownsRow_nil _ _ _ _, by simp [Value.ownBlock]⟩⟩
  case round =>
    obtain ⟨k, hk, hg, rfl, hwr, hB⟩ := hrel
    have hle := hwr.le
    have HW := Lib.hid hwr; clear hwr
    have HB := Lib.hid hB; clear hB
    by_cases hlt : k < n
    · obtain ⟨b1, o1, rfl, g1⟩ := (HX.out.later HW.out).get hlt
      have hkl : k < l.length := by rw [HX.out.len]; exact hlt
      have hroom := textL_room hkl
      have hnext := textL_next hkl
      generalize l.getD k ByteArray.empty = x at g1 hroom hnext
      have HN := Lib.hid hnext; clear hnext
      go_wp2_with fail
      refine (Tryd.Builder_WriteString w.heap.size w.heap.size _ x wr HB.out (cells_room1 hroom hb) hle).mono ?_
      rintro e w1 ⟨rfl, hb1, hl1⟩
      have HB1 := Lib.hid hb1; clear hb1
      have HL1 := Lib.hid hl1; clear hl1
      have hle1 := HL1.out.size
      go_wp2_with fail
      refine (Tryd.Builder_WriteString w.heap.size w.heap.size _ _ w1 (.inr HB1.out) (cells_room hroom hb) (by omega)).mono ?_
      rintro e w2 ⟨rfl, hb2, hl2⟩
      have HB2 := Lib.hid hb2; clear hb2
      have HL2 := Lib.hid hl2; clear hl2
      go_wp2
      go_roundg (n - (k + 1))
      case measure => omega
      case rel =>
        refine ⟨k + 1, by omega, Nat.le_refl _, by go_num, Below.trans (Below.trans HW.out HL1.out) HL2.out, .inr ?_⟩
        rw [HN.out]
        have := HB2.out
        simpa [Lib.byteCells, Lib.strCells, bytes] using this
    · have hkn : k = n := by omega
      have e : l.take k = l := List.take_of_length_le (by rw [HX.out.len]; omega)
      rw [e] at HB
      clear e
      go_wp2_with fail
      refine (Tryd.Builder_String_any w.heap.size w.heap.size _ wr HB.out hle).mono ?_
      rintro e w1 ⟨rfl, hl1⟩
      have HL1 := Lib.hid hl1; clear hl1
      go_wp2
      go_ret
      exact ⟨rfl, Below.trans HW.out HL1.out⟩

end Go.Proofs.YtboffgmaohcpfaaDoor
