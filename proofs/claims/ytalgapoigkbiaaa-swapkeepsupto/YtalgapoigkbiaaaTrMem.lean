/-
  Trees in memory: a map from names to rows of lines, what it holds, and how it is kept while memory grows.
-/
import Derived.Test.YtalgapoigkbiaaaProg
import Derived.Test.YtalgapoigkbiaaaOwn
import Derived.Test.YtalgapoigkbiaaaTrPlain
import Derived.Maps.OwnSet
import Derived.Maps.RangeWalk
namespace Go.Proofs.Ytalgapoigkbiaaa
open Go.RowKit Go.Maps

/-- How a file's lines read: as the slice itself. -/
def raw : Value → Option (DataW Value × List MemPlace)
  | .slice A n c => some (.held (.slice A n c), [])
  | _ => none
theorem raw_mk (A : Option Addr) (n c : Nat) : raw (.slice A n c) = some (.held (.slice A n c), []) := rfl
theorem raw_inv {v : Value} {y : DataW Value × List MemPlace} (h : raw v = some y) : ∃ A n c, v = .slice A n c ∧ y = (.held v, []) := by
  cases v <;> simp [raw] at h
  exact ⟨_, _, _, rfl, h.symm⟩

def ent (f : ByteArray × Value) : Lit × DataW Value := (.string (bytes f.1), .held f.2)
/-- What a map of these files reads as. -/
def datum (vs : Fl Value) : DataW Value := .map (vs.map ent)

theorem ent_same (f : ByteArray × Value) (n : ByteArray) : (ent f).1.sameKey (.string (bytes n)) = decide (f.1 = n) := by
  simp only [ent, Lit.sameKey]
  by_cases h : f.1 = n
  · simp [h]
  · simp [h]; exact fun e => h (bytes_inj e)
theorem ent_before (f g : ByteArray × Value) : (ent f).1.before (ent g).1 = ltN f.1 g.1 := rfl

theorem has_datum (vs : Fl Value) (n : ByteArray) : Maps.has (datum vs) (.string (bytes n)) = hasT vs n := by
  rw [Bool.eq_iff_iff, hasT_iff]
  simp only [datum, Maps.has_eq, List.any_map, List.any_eq_true, Function.comp_apply, ent_same, decide_eq_true_eq]
theorem atKey_datum (vs : Fl Value) (n : ByteArray) (z : DataW Value) : (datum vs).atKey (.string (bytes n)) z = match getT vs n with | some v => .held v | none => z := by
  simp only [datum, DataW.atKey, List.find?_map, Function.comp_def, ent_same, getT]
  cases vs.find? fun f => decide (f.1 = n) <;> rfl
theorem size_datum (vs : Fl Value) : Maps.size (datum vs) = vs.length := by simp [datum, Maps.size_eq]
theorem del_datum (vs : Fl Value) (n : ByteArray) : (datum vs).del (.string (bytes n)) = datum (withoutT vs n) := by
  have e : ∀ f : ByteArray × Value, (!decide (f.1 = n)) = decide (f.1 ≠ n) := fun f => by simp
  simp only [datum, DataW.del, withoutT, List.filter_map, Function.comp_def, ent_same, e]
theorem insert_datum (n : ByteArray) (v : Value) : ∀ u : Fl Value, Rising u → (∀ f ∈ u, f.1 ≠ n) →
    DataW.insert (ent (n, v)) (u.map ent) = (u.filter (fun f => ltN f.1 n) ++ (n, v) :: u.filter (fun f => ltN n f.1)).map ent
  | [], _, _ => rfl
  | y :: r, hr, hn => by
    have hy := hn y List.mem_cons_self
    simp only [List.map_cons, DataW.insert]
    have hbf : (ent (n, v)).1.before (ent y).1 = ltN n y.1 := rfl
    by_cases h : ltN n y.1 = true
    · rw [if_pos (hbf.trans h)]
      have h1 : (y :: r).filter (fun f => ltN f.1 n) = [] := List.filter_eq_nil_iff.2 fun f hf => by
        rcases List.mem_cons.1 hf with rfl | hf
        · simp [ltN_asymm h]
        · simp [ltN_asymm (ltN_trans h (rising_head hr hf))]
      have h2 : (y :: r).filter (fun f => ltN n f.1) = y :: r := List.filter_eq_self.2 fun f hf => by
        rcases List.mem_cons.1 hf with rfl | hf
        · exact h
        · exact ltN_trans h (rising_head hr hf)
      rw [h1, h2]; rfl
    · rw [if_neg (fun e => h (hbf.symm.trans e))]
      have hlt : ltN y.1 n = true := (ltN_total hy).resolve_right h
      rw [insert_datum n v r (rising_tail hr) fun f hf => hn f (List.mem_cons_of_mem _ hf)]
      simp only [List.filter_cons, hlt, if_true]
      rw [if_neg h]; rfl
theorem put_datum {vs : Fl Value} (h : Rising vs) (n : ByteArray) (v : Value) : (datum vs).put (.string (bytes n)) (.held v) = datum (withT vs n v) := by
  have e : (vs.map ent).filter (fun p => !p.1.sameKey (.string (bytes n))) = (withoutT vs n).map ent := by
    have e : ∀ f : ByteArray × Value, (!decide (f.1 = n)) = decide (f.1 ≠ n) := fun f => by simp
    simp only [withoutT, List.filter_map, Function.comp_def, ent_same, e]
  simp only [datum, DataW.put, e]
  rw [show ((Lit.string (bytes n), DataW.held v) : Lit × DataW Value) = ent (n, v) from rfl, insert_datum n v _ (rising_without h n) fun f hf => (mem_without.1 hf).2]
  rfl

theorem own_tight {H : Type} {P : Program} {k : TypeId} {R : Value → Option (DataW H × List MemPlace)} {w : World} {b n : Nat} {D : DataW H} (h : w.ownsMap P k R b n D) : w.ownsMap P k R b (Maps.size D) D := by
  obtain ⟨es, clock, hb, F, hs, rfl⟩ := h
  exact ⟨es, clock, hb, F, by simp [Maps.size, length_sorted], rfl⟩

/-- The value is a slice that reads as these lines. -/
def Reads (w : World) (v : Value) (l : List ByteArray) : Prop := ∃ A n c, v = .slice A n c ∧ n ≤ c ∧ Row w A n l

/-- A file's value, and its lines. -/
abbrev Held := Value × List ByteArray

/-- Block B is a map of the files z. -/
structure FA (w : World) (B : Nat) (z : Fl Held) : Prop where
  own : w.ownsMap Try.prog 9 raw B z.length (datum (mapT (·.1) z))
  rise : Rising z
  reads : ∀ f ∈ z, Reads w f.2.1 f.2.2

/-- Block B is a map of the files t. -/
def FilesAt (w : World) (B : Nat) (t : Tr) : Prop := ∃ z, FA w B z ∧ mapT (·.2) z = t

/-- Block p holds the map of block B: a tree of the files t. -/
structure TreeAt (w : World) (p B : Nat) (t : Tr) : Prop where
  cell : w.cell? ⟨p, 0, none⟩ = some (.map (some B))
  files : FilesAt w B t

/-- Nothing has turned but block B. -/
def Turned (B : Nat) (w w' : World) : Prop := w.grownBy w' (some B)

section
variable {w w' w'' : World} {A : Option Addr} {n B p : Nat} {l : List ByteArray} {v : Value} {z : Fl Held} {t : Tr}

theorem Turned.refl (B : Nat) (w : World) : Turned B w w := ⟨rfl, rfl, rfl, Nat.le_refl _, fun _ _ _ => rfl⟩
theorem Later.turned (h : Later w w') (B : Nat) : Turned B w w' := ⟨h.os, h.tape, h.output, h.size, fun i hi _ => h.block i hi⟩
theorem Turned.trans (h : Turned B w w') (k : Turned B w' w'') : Turned B w w'' :=
  ⟨k.os.trans h.os, k.tape.trans h.tape, k.output.trans h.output, Nat.le_trans h.size k.size, fun i hi hne => (k.block i (Nat.lt_of_lt_of_le hi h.size) hne).trans (h.block i hi hne)⟩
/-- A block that was not there at w has turned: of what was there nothing has. -/
theorem Later.turn (h : Later w w') (k : Turned B w' w'') (hB : w.heap.size ≤ B) : Later w w'' :=
  ⟨k.os.trans h.os, k.tape.trans h.tape, k.output.trans h.output, Nat.le_trans h.size k.size, fun i hi => (k.block i (Nat.lt_of_lt_of_le hi h.size) (fun e => by cases e; omega)).trans (h.block i hi)⟩
theorem Turned.le (h : Turned B w w') : w.heap.size ≤ w'.heap.size := h.size
theorem Turned.cell (h : Turned B w w') {a : Addr} {u : Value} (hc : w.cell? a = some u) (hne : a.block ≠ B) : w'.cell? a = some u :=
  (World.cell?_of_block (h.block a.block (lt_of_cell hc) (fun e => hne (by cases e; rfl)))).trans hc
theorem Turned.of_map (h : w.mapTurned w' B) : Turned B w w' := h.grown

theorem not_map {es : Array MapEntry} {c : Nat} {a : Addr} {u : Value} (hm : w.heap[B]? = some (.map es c)) (hc : w.cell? a = some u) : a.block ≠ B := by
  rintro rfl
  simp [World.cell?, hm] at hc

theorem Row.turned (h : Row w A n l) (hg : Turned B w w') {es : Array MapEntry} {c : Nat} (hm : w.heap[B]? = some (.map es c)) : Row w' A n l :=
  ⟨h.1, fun hn => by
    obtain ⟨b, o, e, hc⟩ := h.2 hn
    exact ⟨b, o, e, fun j s hs => hg.cell (hc j s hs) (not_map hm (hc j s hs))⟩⟩
theorem Reads.later (h : Reads w v l) (hl : Later w w') : Reads w' v l := by
  obtain ⟨A, n, c, rfl, hc, hr⟩ := h; exact ⟨A, n, c, rfl, hc, hr.later hl⟩
theorem Reads.turned (h : Reads w v l) (hg : Turned B w w') {es : Array MapEntry} {c : Nat} (hm : w.heap[B]? = some (.map es c)) : Reads w' v l := by
  obtain ⟨A, n, c, rfl, hc, hr⟩ := h; exact ⟨A, n, c, rfl, hc, hr.turned hg hm⟩
theorem Reads.nil (w : World) : Reads w (.slice none 0 0) [] := ⟨none, 0, 0, rfl, Nat.le_refl _, Row.none⟩

theorem FA.map (h : FA w B z) : ∃ es c, w.heap[B]? = some (.map es c) := by
  obtain ⟨es, c, hb, _⟩ := h.own; exact ⟨es, c, hb⟩
theorem FA.lt (h : FA w B z) : B < w.heap.size := h.own.lt
theorem FA.later (h : FA w B z) (hl : Later w w') : FA w' B z :=
  ⟨h.own.kept (row := none) ⟨hl.os, hl.tape, hl.output, hl.size, fun i hi _ => hl.block i hi⟩ (by simp), h.rise, fun f hf => (h.reads f hf).later hl⟩
/-- Another map has turned. -/
theorem FA.other {B' : Nat} (h : FA w B z) (hg : Turned B' w w') (hne : B ≠ B') {es : Array MapEntry} {c : Nat} (hm : w.heap[B']? = some (.map es c)) : FA w' B z :=
  ⟨h.own.kept hg (by simpa using hne), h.rise, fun f hf => (h.reads f hf).turned hg hm⟩
theorem FA.put (h : FA w B z) {k : Nat} {nm : ByteArray} (hw : w'.ownsMap Try.prog 9 raw B k ((datum (mapT (·.1) z)).put (.string (bytes nm)) (.held v))) (ht : w.mapTurned w' B) (hr : Reads w v l) : FA w' B (withT z nm (v, l)) := by
  have e : (datum (mapT (·.1) z)).put (.string (bytes nm)) (.held v) = datum (mapT (·.1) (withT z nm (v, l))) := by
    rw [put_datum (rising_map.2 h.rise), ← withT_map (fun x : Held => x.1)]
  obtain ⟨es, c, hm⟩ := h.map
  have hg := Turned.of_map ht
  refine ⟨?_, rising_with h.rise _ _, fun f hf => ?_⟩
  · have := own_tight hw
    rw [e, size_datum, mapT_length] at this
    exact this
  · rcases mem_with.1 hf with rfl | hf
    · exact hr.turned hg hm
    · exact (h.reads f hf.1).turned hg hm
theorem FA.del (h : FA w B z) {k : Nat} {nm : ByteArray} (hw : w'.ownsMap Try.prog 9 raw B k ((datum (mapT (·.1) z)).del (.string (bytes nm)))) (ht : w.mapTurned w' B) : FA w' B (withoutT z nm) := by
  obtain ⟨es, c, hm⟩ := h.map
  have hg := Turned.of_map ht
  refine ⟨?_, rising_without h.rise _, fun f hf => (h.reads f (mem_without.1 hf).1).turned hg hm⟩
  have := own_tight hw
  rw [del_datum, withoutT_map, size_datum, mapT_length] at this
  exact this
/-- A new map. -/
theorem FA.made (w : World) : FA (w.alloc (.map #[] 0)) w.heap.size [] := ⟨World.ownsMap_made w _ _ _, rising_nil, fun f hf => by cases hf⟩

theorem FilesAt.later (h : FilesAt w B t) (hl : Later w w') : FilesAt w' B t := by obtain ⟨z, h, rfl⟩ := h; exact ⟨z, h.later hl, rfl⟩
theorem FilesAt.lt (h : FilesAt w B t) : B < w.heap.size := by obtain ⟨z, h, _⟩ := h; exact h.lt
theorem FilesAt.map (h : FilesAt w B t) : ∃ es c, w.heap[B]? = some (.map es c) := by obtain ⟨z, h, _⟩ := h; exact h.map
theorem FilesAt.rise (h : FilesAt w B t) : Rising t := by obtain ⟨z, h, rfl⟩ := h; exact rising_map.2 h.rise
theorem FilesAt.other {B' : Nat} (h : FilesAt w B t) (hg : Turned B' w w') (hne : B ≠ B') {es : Array MapEntry} {c : Nat} (hm : w.heap[B']? = some (.map es c)) : FilesAt w' B t := by
  obtain ⟨z, h, rfl⟩ := h; exact ⟨z, h.other hg hne hm, rfl⟩
theorem TreeAt.later (h : TreeAt w p B t) (hl : Later w w') : TreeAt w' p B t := ⟨hl.cell h.cell, h.files.later hl⟩
theorem TreeAt.ne (h : TreeAt w p B t) : p ≠ B := by
  obtain ⟨es, c, hm⟩ := h.files.map
  exact not_map hm h.cell
theorem TreeAt.lt (h : TreeAt w p B t) : p < w.heap.size := lt_of_cell h.cell
/-- The tree's own map has turned, to other files. -/
theorem TreeAt.to {t' : Tr} (h : TreeAt w p B t) (hg : Turned B w w') (hf : FilesAt w' B t') : TreeAt w' p B t' := ⟨hg.cell h.cell h.ne, hf⟩
theorem TreeAt.other {B' : Nat} (h : TreeAt w p B t) (hg : Turned B' w w') (hne : B ≠ B') {es : Array MapEntry} {c : Nat} (hm : w.heap[B']? = some (.map es c)) : TreeAt w' p B t :=
  ⟨hg.cell h.cell (not_map hm h.cell), h.files.other hg hne hm⟩
end

theorem keyed9 : Keyed Try.prog 9 := string_keyed Try.underlying9
theorem key9 {s : ByteArray} (h : s.size ≤ maxLen) : keyOf Try.prog 9 (.string s) = some (.string (bytes s)) := WideMaps.keyOf_string_mk Try.underlying9 h

theorem zero29 (w : World) : (zeroValue 22).run Try.prog w = .ok (.slice none 0 0) w := by kernel_rfl

/-- A look-up of a file that is there. -/
theorem FA.look_yes {w : World} {B : Nat} {z : Fl Held} (h : FA w B z) {nm : ByteArray} (hs : nm.size ≤ maxLen) {x : Held} (hx : getT z nm = some x) :
    (Instr.lookup 64 (.map (some B)) (.string nm) true).run Try.prog w = .ok (.tuple #[x.1, .bool true]) w := by
  obtain ⟨v, ps, hrun, hv⟩ := h.own.look_ok keyed9 Try.underlying64 (zero29 w) (raw_mk none 0 0) (key9 hs)
  rw [atKey_datum, getT_map, hx] at hv
  rw [has_datum, hasT_map, getT_has hx] at hrun
  obtain ⟨A, n, c, rfl, hy⟩ := raw_inv hv
  simp only [Option.map_some, Prod.mk.injEq, DataW.held.injEq] at hy
  rw [hrun, ← hy.1]
/-- A look-up of a file that is not. -/
theorem FA.look_no {w : World} {B : Nat} {z : Fl Held} (h : FA w B z) {nm : ByteArray} (hs : nm.size ≤ maxLen) (hx : getT z nm = none) :
    (Instr.lookup 64 (.map (some B)) (.string nm) true).run Try.prog w = .ok (.tuple #[.slice none 0 0, .bool false]) w := by
  obtain ⟨v, ps, hrun, hv⟩ := h.own.look_ok keyed9 Try.underlying64 (zero29 w) (raw_mk none 0 0) (key9 hs)
  rw [atKey_datum, getT_map, hx] at hv
  rw [has_datum, hasT_map, hasT_no.2 (getT_none.1 hx)] at hrun
  obtain ⟨A, n, c, rfl, hy⟩ := raw_inv hv
  simp only [Option.map_none, Prod.mk.injEq, DataW.held.injEq] at hy
  rw [hrun, ← hy.1]
/-- What is there reads as its lines. -/
theorem FA.get {w : World} {B : Nat} {z : Fl Held} (h : FA w B z) {nm : ByteArray} {x : Held} (hx : getT z nm = some x) : Reads w x.1 x.2 := h.reads _ (getT_mem hx)

end Go.Proofs.Ytalgapoigkbiaaa
