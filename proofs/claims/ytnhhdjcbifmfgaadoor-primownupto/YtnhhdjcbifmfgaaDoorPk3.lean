import Derived.Test.YtnhhdjcbifmfgaaDoorProg
import Derived.Test.YtnhhdjcbifmfgaaDoorPk1
import Derived.Test.YtnhhdjcbifmfgaaDoorPk2
import Derived.Maps.OwnSet
import Derived.Maps.RangeWalk
import Derived.Test.YtnhhdjcbifmfgaaDoorChecked
import Derived.Deep.LoopGhost
import Derived.Deep.QuietTactic
import Derived.BigQuiet
import Derived.Lib.Hide
import Derived.Lib.SliceRun
import Derived.Sort.KeysCollected
import Derived.Lib.AppendIntMem
import Derived.Test.YtnhhdjcbifmfgaaDoorRows
import Derived.ProofKit
import Derived.OpenShut
import Derived.SizedLaws
import Derived.SliceStrings
import Derived.Deep.Slices
import Derived.Deep.Fields
import Derived.ChangeSame
import Derived.Deep.DeepHandedRow
import Derived.Lib.LaidTab
import Derived.LaidSub

/-
  Trees in memory: a map from names to rows of lines, what it holds, and how it is kept while memory grows.
-/
namespace Go.Proofs.YtnhhdjcbifmfgaaDoor
open Go.RowKit Go.Maps

/-- How a file's lines read: as the slice itself. -/
def raw : Value → Option (DataW Value × List MemPlace)
  | .slice A n c => some (.held (.slice A n c), [])
  | _ => none
theorem raw_mk (A : Option Addr) (n c : Nat) : raw (.slice A n c) = some (.held (.slice A n c), []) := rfl
theorem raw_inv {v : Value} {y : DataW Value × List MemPlace} (h : raw v = some y) : ∃ A n c, v = .slice A n c ∧ y = (.held v, []) := by
  cases v <;> simp [raw] at h
  exact ⟨_, _, _, rfl, h.symm⟩

def ent (f : ByteArray × Value) : Lit × DataW Value := (.string (bytes f.1), .held f.2)
/-- What a map of these files reads as. -/
def datum (vs : Fl Value) : DataW Value := .map (vs.map ent)

theorem ent_same (f : ByteArray × Value) (n : ByteArray) : (ent f).1.sameKey (.string (bytes n)) = decide (f.1 = n) := by
  simp only [ent, Lit.sameKey]
  by_cases h : f.1 = n
  · simp [h]
  · simp [h]; exact fun e => h (bytes_inj e)
theorem ent_before (f g : ByteArray × Value) : (ent f).1.before (ent g).1 = ltN f.1 g.1 := rfl

theorem has_datum (vs : Fl Value) (n : ByteArray) : Maps.has (datum vs) (.string (bytes n)) = hasT vs n := by
  rw [Bool.eq_iff_iff, hasT_iff]
  simp only [datum, Maps.has_eq, List.any_map, List.any_eq_true, Function.comp_apply, ent_same, decide_eq_true_eq]
theorem atKey_datum (vs : Fl Value) (n : ByteArray) (z : DataW Value) : (datum vs).atKey (.string (bytes n)) z = match getT vs n with | some v => .held v | none => z := by
  simp only [datum, DataW.atKey, List.find?_map, Function.comp_def, ent_same, getT]
  cases vs.find? fun f => decide (f.1 = n) <;> rfl
theorem size_datum (vs : Fl Value) : Maps.size (datum vs) = vs.length := by simp [datum, Maps.size_eq]
theorem del_datum (vs : Fl Value) (n : ByteArray) : (datum vs).del (.string (bytes n)) = datum (withoutT vs n) := by
  have e : ∀ f : ByteArray × Value, (!decide (f.1 = n)) = decide (f.1 ≠ n) := fun f => by simp
  simp only [datum, DataW.del, withoutT, List.filter_map, Function.comp_def, ent_same, e]
theorem insert_datum (n : ByteArray) (v : Value) : ∀ u : Fl Value, Rising u → (∀ f ∈ u, f.1 ≠ n) →
    DataW.insert (ent (n, v)) (u.map ent) = (u.filter (fun f => ltN f.1 n) ++ (n, v) :: u.filter (fun f => ltN n f.1)).map ent
  | [], _, _ => rfl
  | y :: r, hr, hn => by
    have hy := hn y List.mem_cons_self
    simp only [List.map_cons, DataW.insert]
    have hbf : (ent (n, v)).1.before (ent y).1 = ltN n y.1 := rfl
    by_cases h : ltN n y.1 = true
    · rw [if_pos (hbf.trans h)]
      have h1 : (y :: r).filter (fun f => ltN f.1 n) = [] := List.filter_eq_nil_iff.2 fun f hf => by
        rcases List.mem_cons.1 hf with rfl | hf
        · simp [ltN_asymm h]
        · simp [ltN_asymm (ltN_trans h (rising_head hr hf))]
      have h2 : (y :: r).filter (fun f => ltN n f.1) = y :: r := List.filter_eq_self.2 fun f hf => by
        rcases List.mem_cons.1 hf with rfl | hf
        · exact h
        · exact ltN_trans h (rising_head hr hf)
      rw [h1, h2]; rfl
    · rw [if_neg (fun e => h (hbf.symm.trans e))]
      have hlt : ltN y.1 n = true := (ltN_total hy).resolve_right h
      rw [insert_datum n v r (rising_tail hr) fun f hf => hn f (List.mem_cons_of_mem _ hf)]
      simp only [List.filter_cons, hlt, if_true]
      rw [if_neg h]; rfl
theorem put_datum {vs : Fl Value} (h : Rising vs) (n : ByteArray) (v : Value) : (datum vs).put (.string (bytes n)) (.held v) = datum (withT vs n v) := by
  have e : (vs.map ent).filter (fun p => !p.1.sameKey (.string (bytes n))) = (withoutT vs n).map ent := by
    have e : ∀ f : ByteArray × Value, (!decide (f.1 = n)) = decide (f.1 ≠ n) := fun f => by simp
    simp only [withoutT, List.filter_map, Function.comp_def, ent_same, e]
  simp only [datum, DataW.put, e]
  rw [show ((Lit.string (bytes n), DataW.held v) : Lit × DataW Value) = ent (n, v) from rfl, insert_datum n v _ (rising_without h n) fun f hf => (mem_without.1 hf).2]
  rfl

theorem own_tight {H : Type} {P : Program} {k : TypeId} {R : Value → Option (DataW H × List MemPlace)} {w : World} {b n : Nat} {D : DataW H} (h : w.ownsMap P k R b n D) : w.ownsMap P k R b (Maps.size D) D := by
  obtain ⟨es, clock, hb, F, hs, rfl⟩ := h
  exact ⟨es, clock, hb, F, by simp [Maps.size, length_sorted], rfl⟩

/-- The value is a slice that reads as these lines. -/
def Reads (w : World) (v : Value) (l : List ByteArray) : Prop := ∃ A n c, v = .slice A n c ∧ n ≤ c ∧ Row w A n l

/-- The value's row lies in a block of texts. -/
def Typed (w : World) (v : Value) : Prop := ∀ k, v.ownBlock = some k → ∃ cur, w.heap[k]? = some (.cells cur 9)

/-- A file's value, and its lines. -/
abbrev Held := Value × List ByteArray

/-- Block B is a map of the files z. -/
structure FA (w : World) (B : Nat) (z : Fl Held) : Prop where
  own : w.ownsMap Tryd.prog 9 raw B z.length (datum (mapT (·.1) z))
  rise : Rising z
  reads : ∀ f ∈ z, Reads w f.2.1 f.2.2
  typed : ∀ f ∈ z, Typed w f.2.1

/-- Block B is a map of the files t. -/
def FilesAt (w : World) (B : Nat) (t : Tr) : Prop := ∃ z, FA w B z ∧ mapT (·.2) z = t

/-- Block p holds the map of block B: a tree of the files t. -/
structure TreeAt (w : World) (p B : Nat) (t : Tr) : Prop where
  cell : w.cell? ⟨p, 0, none⟩ = some (.map (some B))
  files : FilesAt w B t

/-- Nothing has turned but block B. -/
def Turned (B : Nat) (w w' : World) : Prop := w.grownBy w' (some B)

section
variable {w w' w'' : World} {A : Option Addr} {n B p : Nat} {l : List ByteArray} {v : Value} {z : Fl Held} {t : Tr}

theorem Turned.refl (B : Nat) (w : World) : Turned B w w := ⟨rfl, rfl, rfl, Nat.le_refl _, fun _ _ _ => rfl⟩
theorem Later.turned (h : Later w w') (B : Nat) : Turned B w w' := ⟨h.os, h.tape, h.output, h.size, fun i hi _ => h.block i hi⟩
theorem Turned.trans (h : Turned B w w') (k : Turned B w' w'') : Turned B w w'' :=
  ⟨k.os.trans h.os, k.tape.trans h.tape, k.output.trans h.output, Nat.le_trans h.size k.size, fun i hi hne => (k.block i (Nat.lt_of_lt_of_le hi h.size) hne).trans (h.block i hi hne)⟩
/-- A block that was not there at w has turned: of what was there nothing has. -/
theorem Later.turn (h : Later w w') (k : Turned B w' w'') (hB : w.heap.size ≤ B) : Later w w'' :=
  ⟨k.os.trans h.os, k.tape.trans h.tape, k.output.trans h.output, Nat.le_trans h.size k.size, fun i hi => (k.block i (Nat.lt_of_lt_of_le hi h.size) (fun e => by cases e; omega)).trans (h.block i hi)⟩
theorem Turned.le (h : Turned B w w') : w.heap.size ≤ w'.heap.size := h.size
theorem Turned.cell (h : Turned B w w') {a : Addr} {u : Value} (hc : w.cell? a = some u) (hne : a.block ≠ B) : w'.cell? a = some u :=
  (World.cell?_of_block (h.block a.block (lt_of_cell hc) (fun e => hne (by cases e; rfl)))).trans hc
theorem Turned.of_map (h : w.mapTurned w' B) : Turned B w w' := h.grown

theorem not_map {es : Array MapEntry} {c : Nat} {a : Addr} {u : Value} (hm : w.heap[B]? = some (.map es c)) (hc : w.cell? a = some u) : a.block ≠ B := by
  rintro rfl
  simp [World.cell?, hm] at hc

theorem Row.turned (h : Row w A n l) (hg : Turned B w w') {es : Array MapEntry} {c : Nat} (hm : w.heap[B]? = some (.map es c)) : Row w' A n l :=
  ⟨h.1, fun hn => by
    obtain ⟨b, o, e, hc⟩ := h.2 hn
    exact ⟨b, o, e, fun j s hs => hg.cell (hc j s hs) (not_map hm (hc j s hs))⟩⟩
theorem Reads.later (h : Reads w v l) (hl : Later w w') : Reads w' v l := by
  obtain ⟨A, n, c, rfl, hc, hr⟩ := h; exact ⟨A, n, c, rfl, hc, hr.later hl⟩
theorem Reads.turned (h : Reads w v l) (hg : Turned B w w') {es : Array MapEntry} {c : Nat} (hm : w.heap[B]? = some (.map es c)) : Reads w' v l := by
  obtain ⟨A, n, c, rfl, hc, hr⟩ := h; exact ⟨A, n, c, rfl, hc, hr.turned hg hm⟩
theorem Typed.nil (w : World) (n c : Nat) : Typed w (.slice none n c) := fun k h => by cases h
theorem Typed.later (h : Typed w v) (hl : Later w w') : Typed w' v := fun k hk => by
  obtain ⟨cur, hc⟩ := h k hk
  exact ⟨cur, (hl.block k (Array.getElem?_eq_some_iff.1 hc).1).trans hc⟩
theorem Typed.off (h : Typed w v) (hg : Turned B w w') (hB : ∀ cur, w.heap[B]? ≠ some (.cells cur 9)) : Typed w' v := fun k hk => by
  obtain ⟨cur, hc⟩ := h k hk
  refine ⟨cur, (hg.block k (Array.getElem?_eq_some_iff.1 hc).1 (fun e => ?_)).trans hc⟩
  cases e
  exact hB cur hc
theorem Typed.turned (h : Typed w v) (hg : Turned B w w') {es : Array MapEntry} {c : Nat} (hm : w.heap[B]? = some (.map es c)) : Typed w' v := h.off hg (fun cur e => by rw [hm] at e; cases e)
theorem Reads.nil (w : World) : Reads w (.slice none 0 0) [] := ⟨none, 0, 0, rfl, Nat.le_refl _, Row.none⟩

theorem FA.map (h : FA w B z) : ∃ es c, w.heap[B]? = some (.map es c) := by
  obtain ⟨es, c, hb, _⟩ := h.own; exact ⟨es, c, hb⟩
theorem FA.lt (h : FA w B z) : B < w.heap.size := h.own.lt
theorem FA.later (h : FA w B z) (hl : Later w w') : FA w' B z :=
  ⟨h.own.kept (row := none) ⟨hl.os, hl.tape, hl.output, hl.size, fun i hi _ => hl.block i hi⟩ (by simp), h.rise, (fun f hf => (h.reads f hf).later hl), fun f hf => (h.typed f hf).later hl⟩
/-- Another map has turned. -/
theorem FA.other {B' : Nat} (h : FA w B z) (hg : Turned B' w w') (hne : B ≠ B') {es : Array MapEntry} {c : Nat} (hm : w.heap[B']? = some (.map es c)) : FA w' B z :=
  ⟨h.own.kept hg (by simpa using hne), h.rise, (fun f hf => (h.reads f hf).turned hg hm), fun f hf => (h.typed f hf).turned hg hm⟩
theorem FA.put (h : FA w B z) {k : Nat} {nm : ByteArray} (hw : w'.ownsMap Tryd.prog 9 raw B k ((datum (mapT (·.1) z)).put (.string (bytes nm)) (.held v))) (ht : w.mapTurned w' B) (hr : Reads w v l) (hty : Typed w v) : FA w' B (withT z nm (v, l)) := by
  have e : (datum (mapT (·.1) z)).put (.string (bytes nm)) (.held v) = datum (mapT (·.1) (withT z nm (v, l))) := by
    rw [put_datum (rising_map.2 h.rise), ← withT_map (fun x : Held => x.1)]
  obtain ⟨es, c, hm⟩ := h.map
  have hg := Turned.of_map ht
  refine ⟨?_, rising_with h.rise _ _, fun f hf => ?_, fun f hf => ?_⟩
  · have := own_tight hw
    rw [e, size_datum, mapT_length] at this
    exact this
  · rcases mem_with.1 hf with rfl | hf
    · exact hr.turned hg hm
    · exact (h.reads f hf.1).turned hg hm
  · rcases mem_with.1 hf with rfl | hf
    · exact hty.turned hg hm
    · exact (h.typed f hf.1).turned hg hm
theorem FA.del (h : FA w B z) {k : Nat} {nm : ByteArray} (hw : w'.ownsMap Tryd.prog 9 raw B k ((datum (mapT (·.1) z)).del (.string (bytes nm)))) (ht : w.mapTurned w' B) : FA w' B (withoutT z nm) := by
  obtain ⟨es, c, hm⟩ := h.map
  have hg := Turned.of_map ht
  refine ⟨?_, rising_without h.rise _, (fun f hf => (h.reads f (mem_without.1 hf).1).turned hg hm), fun f hf => (h.typed f (mem_without.1 hf).1).turned hg hm⟩
  have := own_tight hw
  rw [del_datum, withoutT_map, size_datum, mapT_length] at this
  exact this
/-- A new map. -/
theorem FA.made (w : World) : FA (w.alloc (.map #[] 0)) w.heap.size [] := ⟨World.ownsMap_made w _ _ _, rising_nil, (fun f hf => by cases hf), fun f hf => by cases hf⟩

theorem FilesAt.later (h : FilesAt w B t) (hl : Later w w') : FilesAt w' B t := by obtain ⟨z, h, rfl⟩ := h; exact ⟨z, h.later hl, rfl⟩
theorem FilesAt.lt (h : FilesAt w B t) : B < w.heap.size := by obtain ⟨z, h, _⟩ := h; exact h.lt
theorem FilesAt.map (h : FilesAt w B t) : ∃ es c, w.heap[B]? = some (.map es c) := by obtain ⟨z, h, _⟩ := h; exact h.map
theorem FilesAt.rise (h : FilesAt w B t) : Rising t := by obtain ⟨z, h, rfl⟩ := h; exact rising_map.2 h.rise
theorem FilesAt.other {B' : Nat} (h : FilesAt w B t) (hg : Turned B' w w') (hne : B ≠ B') {es : Array MapEntry} {c : Nat} (hm : w.heap[B']? = some (.map es c)) : FilesAt w' B t := by
  obtain ⟨z, h, rfl⟩ := h; exact ⟨z, h.other hg hne hm, rfl⟩
theorem TreeAt.later (h : TreeAt w p B t) (hl : Later w w') : TreeAt w' p B t := ⟨hl.cell h.cell, h.files.later hl⟩
theorem TreeAt.ne (h : TreeAt w p B t) : p ≠ B := by
  obtain ⟨es, c, hm⟩ := h.files.map
  exact not_map hm h.cell
theorem TreeAt.lt (h : TreeAt w p B t) : p < w.heap.size := lt_of_cell h.cell
/-- The tree's own map has turned, to other files. -/
theorem TreeAt.to {t' : Tr} (h : TreeAt w p B t) (hg : Turned B w w') (hf : FilesAt w' B t') : TreeAt w' p B t' := ⟨hg.cell h.cell h.ne, hf⟩
theorem TreeAt.other {B' : Nat} (h : TreeAt w p B t) (hg : Turned B' w w') (hne : B ≠ B') {es : Array MapEntry} {c : Nat} (hm : w.heap[B']? = some (.map es c)) : TreeAt w' p B t :=
  ⟨hg.cell h.cell (not_map hm h.cell), h.files.other hg hne hm⟩
end

theorem keyed9 : Keyed Tryd.prog 9 := string_keyed Tryd.underlying9
theorem key9 {s : ByteArray} (h : s.size ≤ maxLen) : keyOf Tryd.prog 9 (.string s) = some (.string (bytes s)) := WideMaps.keyOf_string_mk Tryd.underlying9 h

theorem zero29 (w : World) : (zeroValue 22).run Tryd.prog w = .ok (.slice none 0 0) w := by kernel_rfl

/-- A look-up of a file that is there. -/
theorem FA.look_yes {w : World} {B : Nat} {z : Fl Held} (h : FA w B z) {nm : ByteArray} (hs : nm.size ≤ maxLen) {x : Held} (hx : getT z nm = some x) :
    (Instr.lookup 46 (.map (some B)) (.string nm) true).run Tryd.prog w = .ok (.tuple #[x.1, .bool true]) w := by
  obtain ⟨v, ps, hrun, hv⟩ := h.own.look_ok keyed9 Tryd.underlying46 (zero29 w) (raw_mk none 0 0) (key9 hs)
  rw [atKey_datum, getT_map, hx] at hv
  rw [has_datum, hasT_map, getT_has hx] at hrun
  obtain ⟨A, n, c, rfl, hy⟩ := raw_inv hv
  simp only [Option.map_some, Prod.mk.injEq, DataW.held.injEq] at hy
  rw [hrun, ← hy.1]
/-- A look-up of a file that is not. -/
theorem FA.look_no {w : World} {B : Nat} {z : Fl Held} (h : FA w B z) {nm : ByteArray} (hs : nm.size ≤ maxLen) (hx : getT z nm = none) :
    (Instr.lookup 46 (.map (some B)) (.string nm) true).run Tryd.prog w = .ok (.tuple #[.slice none 0 0, .bool false]) w := by
  obtain ⟨v, ps, hrun, hv⟩ := h.own.look_ok keyed9 Tryd.underlying46 (zero29 w) (raw_mk none 0 0) (key9 hs)
  rw [atKey_datum, getT_map, hx] at hv
  rw [has_datum, hasT_map, hasT_no.2 (getT_none.1 hx)] at hrun
  obtain ⟨A, n, c, rfl, hy⟩ := raw_inv hv
  simp only [Option.map_none, Prod.mk.injEq, DataW.held.injEq] at hy
  rw [hrun, ← hy.1]
/-- What is owned lies in a block of its type. -/
theorem Own.typed {w0 w : World} {v : Value} {ss : List ByteArray} (h : Own 9 w0 w v ss) : Typed w v := fun k hk => by
  rcases h.1.2 with ⟨rfl, _⟩ | ⟨g, cap, cur, rfl, _, hh, _⟩
  · cases hk
  · simp only [Value.ownBlock, Option.some.injEq] at hk
    subst hk
    exact ⟨cur, hh⟩
/-- What is there reads as its lines. -/
theorem FA.get {w : World} {B : Nat} {z : Fl Held} (h : FA w B z) {nm : ByteArray} {x : Held} (hx : getT z nm = some x) : Reads w x.1 x.2 := h.reads _ (getT_mem hx)

end Go.Proofs.YtnhhdjcbifmfgaaDoor

/-
  What calls on rows of lines come to, in words: a row, a row and a flag, a bool; what comes in.
-/
namespace Go.Proofs.YtnhhdjcbifmfgaaDoor
open Go.RowKit

/-- A slice of the call's that reads as these lines. -/
def IsRow (ss : List ByteArray) (w : World) (e : Ending) (w' : World) : Prop :=
  ∃ A, e = .returned (.slice A ss.length ss.length) ∧ Row w A ss.length ss ∧ w = w'

/-- A row, and true. -/
def GivesRow2 (ss : List ByteArray) (w : World) (e : Ending) (w' : World) : Prop :=
  ∃ A c, e = .returned (.tuple #[.slice A ss.length c, .bool true]) ∧ ss.length ≤ c ∧ Row w' A ss.length ss ∧ Later w w'

theorem getD_piece {l : List ByteArray} {k j n : Nat} (h : j < n) : ((l.drop k).take n).getD j ByteArray.empty = l.getD (k + j) ByteArray.empty := by
  simp [List.getD, h, List.getElem?_drop]

/-- Nothing, and false, or the row, and true: as the lines stand there or not. -/
def Spl (l : List ByteArray) (k : Int) (m : Nat) (old with_ : List ByteArray) (w : World) (e : Ending) (w' : World) : Prop :=
  (standsB l k old = false ∧ e = .returned (.tuple #[.slice none 0 0, .bool false]) ∧ Later w w') ∨ (standsB l k old = true ∧ GivesRow2 (spliced l k.toNat m with_) w e w')

/-- A row of new memory. -/
def GivesRow (ss : List ByteArray) (w : World) (e : Ending) (w' : World) : Prop :=
  ∃ A c, e = .returned (.slice A ss.length c) ∧ ss.length ≤ c ∧ Row w' A ss.length ss ∧ Later w w'

theorem wrap64_small {x : Int} (h0 : -9223372036854775808 ≤ x) (h1 : x ≤ 9223372036854775807) : wrap64 x = x := by
  unfold wrap64; omega

/-- A bool; if it is true, p holds; the world is as it was. -/
def Tells (p : Prop) (w : World) (e : Ending) (w' : World) : Prop := ∃ b : Bool, e = .returned (.bool b) ∧ (b = true → p) ∧ w = w'

/-- What is asked of a row that comes in: it reads as these lines, and it is no greater than a machine's memory. -/
structure Came (w : World) (A : Option Addr) (n c : Nat) (ss : List ByteArray) : Prop where
  row : Row w A n ss
  room : n ≤ c
  most : n ≤ 140737488355328
  size : ∀ s ∈ ss, s.size ≤ 140737488355328

theorem Came.later {w w' : World} {A : Option Addr} {n c : Nat} {ss : List ByteArray} (h : Came w A n c ss) (hl : Later w w') : Came w' A n c ss := ⟨h.row.later hl, h.room, h.most, h.size⟩

/-- A bool; nothing old has turned. -/
def Says (b : Bool) (w : World) (e : Ending) (w' : World) : Prop := e = .returned (.bool b) ∧ Later w w'

/-- A struct of two rows, laid in memory: its cells stay. -/
theorem box_stays (w : World) (u v : Value) (t : TypeId) : ∀ W, Later (w.alloc (.cells #[u, v] t)) W → W.cell? ⟨w.heap.size, 0, none⟩ = some u ∧ W.cell? ⟨w.heap.size, 1, none⟩ = some v := fun W hW =>
  ⟨hW.cell (by simp), hW.cell (by simp)⟩

theorem drew_n (w : World) (n : Nat) : Drew w (w.drewN n) := ⟨n, rfl⟩

end Go.Proofs.YtnhhdjcbifmfgaaDoor

/-
  The element type of a row of lines.
-/
namespace Go.Proofs.YtnhhdjcbifmfgaaDoor
open Go.RowKit

theorem Tryd.textInfo : (Tryd.prog.info? 9).map (fun i => (i.zero, i.size, i.bytes)) = some (some (.string ByteArray.empty), 1, 16) := by kernel_rfl

end Go.Proofs.YtnhhdjcbifmfgaaDoor

/-
  What slices.Clone at rows of texts comes to, as a call.
-/
namespace Go.Proofs.YtnhhdjcbifmfgaaDoor
open Go.RowKit

theorem Own.on {e : TypeId} {w0 w w' : World} {v : Value} {ss : List ByteArray} (h : Own e w0 w v ss) (hl : Later w w') : Own e w0 w' v ss :=
  ⟨h.1.kept (row := none) ⟨hl.os, hl.tape, hl.output, hl.size, fun i hi _ => hl.block i hi⟩ (by cases v.ownBlock <;> simp), h.2.trans hl⟩
theorem Own.base {e : TypeId} {w0 w1 w : World} {v : Value} {ss : List ByteArray} (h : Own e w1 w v ss) (hl : Later w0 w1) : Own e w0 w v ss :=
  ⟨by
    obtain ⟨hx, h1 | ⟨g, cap, cur, hv, hg, h2⟩⟩ := h.1
    · exact ⟨hx, .inl h1⟩
    · exact ⟨hx, .inr ⟨g, cap, cur, hv, Nat.le_trans hl.le hg, h2⟩⟩, hl.trans h.2⟩

/-- A row of new memory, the call's own. -/
def GivesOwn (ss : List ByteArray) (w : World) (e : Ending) (w' : World) : Prop := ∃ v, e = .returned v ∧ Own 9 w w' v ss

set_option maxHeartbeats 400000 in
theorem clone_any (A : Option Addr) (n c : Nat) (l : List ByteArray) (w : World) (hx : Row w A n l) (hn : n ≤ 65536) :
    Calls Tryd.prog 21 #[.slice A n c] w (GivesOwn l w) := by
  have q29 : ∀ (w : World) (a : Option Addr) (n c n' c' : Nat), (binOp .eql 22 (.slice a n c) (.slice none n' c')).run Tryd.prog w = .ok (.bool a.isNone) w := fun w a n c n' c' => Lib.run_eql_slice_nil w _ _ a n c n' c' Tryd.underlying22
  cases A with
  | none =>
    have e : l = [] := by
      rcases Nat.eq_zero_or_pos n with h | h
      · exact List.eq_nil_of_length_eq_zero (hx.len.trans h)
      · obtain ⟨_, _, e, _⟩ := hx.2 h; cases e
    subst e
    clear hx
    go_enter Tryd.func21, Tryd.ntmps21
    go_wp2
    go_ret
    exact ⟨_, rfl, Own.nil (Later.refl w)⟩
  | some a =>
    have HX := Lib.hid hx; clear hx
    obtain ⟨i0, hi, hz0, hz1, hz2⟩ := info_parts Tryd.textInfo
    go_enter Tryd.func21, Tryd.ntmps21
    go_wp2_with (at_builtin; refine wpList_append_row (w0 := w) rfl _ _ 22 rfl i0 Tryd.underlying22 hi hz0 hz1 hz2 (Own.empty (Later.refl w)) rfl _ _ _ _ rfl (HX.out.later ((Later.refl w).alloc _)) (by simp; omega) ?_; intro v2 w2 hown2 hg2; have HO2 := Lib.hid hown2; clear hown2 hg2)
    go_ret
    exact ⟨_, rfl, by simpa using HO2.out⟩

end Go.Proofs.YtnhhdjcbifmfgaaDoor

/-
  What tree's Names comes to, as a call.
-/
namespace Go.Proofs.YtnhhdjcbifmfgaaDoor
open Go.RowKit Go.Maps Go.Sort

theorem before_lt : ∀ a b : List UInt8, bytesBefore a b = true ↔ a < b
  | [], [] => by simp [bytesBefore]
  | [], b :: s => by simp [bytesBefore]
  | a :: r, [] => by simp [bytesBefore]
  | a :: r, b :: s => by
    simp only [bytesBefore, Bool.or_eq_true, decide_eq_true_eq, Bool.and_eq_true, beq_iff_eq, List.cons_lt_cons_iff, before_lt r s]

theorem keys_datum (vs : Fl Value) : strKeys (datum vs) = vs.map fun f => bytes f.1 := by
  simp [strKeys, datum, ent, strOf, Function.comp_def]

theorem keys_sorted {vs : Fl Value} (h : Rising vs) {ss : List (List UInt8)} (hp : ss.Perm (strKeys (datum vs))) : ss.mergeSort (fun x y => decide (x ≤ y)) = vs.map fun f => bytes f.1 := by
  have e : ss.mergeSort leB = (strKeys (datum vs)).mergeSort leB := mergeSort_of_perm hp
  rw [show (fun x y : List UInt8 => decide (x ≤ y)) = leB from rfl, e, keys_datum]
  refine List.mergeSort_of_pairwise (List.pairwise_map.2 (h.imp fun {a b} hab => ?_))
  simp only [leB, decide_eq_true_eq]
  exact List.le_of_lt ((before_lt _ _).1 hab)

theorem keys_values {vs : Fl Value} (h : Rising vs) {ss : List (List UInt8)} (hp : ss.Perm (strKeys (datum vs))) :
    (ss.mergeSort (fun x y => decide (x ≤ y))).map encStr = (vs.map (·.1)).map Value.string ∧ ss.length = (vs.map (·.1)).length := by
  refine ⟨?_, by have := hp.length_eq; rw [keys_datum] at this; simpa using this⟩
  rw [keys_sorted h hp, List.map_map, List.map_map]
  refine List.map_congr_left fun f _ => ?_
  show Value.string (txt (bytes f.1)) = Value.string f.1
  rw [txt_bytes]

/-- The names of a tree's files. -/
def namesT (t : Tr) : List ByteArray := t.map (·.1)
theorem names_map (z : Fl Held) : namesT (mapT (·.2) z) = (mapT (·.1) z).map (·.1) := by simp [namesT, mapT]

set_option maxHeartbeats 400000 in
theorem names_any (p B : Nat) (t : Tr) (w : World) (ht : TreeAt w p B t) (hl : t.length ≤ 65536) :
    Calls Tryd.prog 26 #[.pointer (some ⟨p, 0, none⟩)] w (GivesOwn (namesT t) w) := by
  obtain ⟨hc, z, hz, rfl⟩ := ht
  have hsz : Maps.size (datum (mapT (·.1) z)) ≤ 65536 := by rw [size_datum, mapT_length]; rw [mapT_length] at hl; exact hl
  have HK := Lib.hid (callsIn_wide.1 (Tryd.maps_Keys (some B) w))
  have HS := Lib.hid (callsIn_wide.1 (Tryd.slices_Sorted_keys B z.length _ raw w hz.own (by simp only [maxLen]; omega) (by omega)))
  have HV := Lib.hid (fun (ss : List (List UInt8)) (hp : ss.Perm (strKeys (datum (mapT (·.1) z)))) => keys_values (rising_map.2 hz.rise) hp)
  rw [names_map]
  clear hz hsz hl
  go_enter Tryd.func26, Tryd.ntmps26
  go_wp2_with (first
    | (go_at_call 43; refine HK.out.mono ?_; rintro e w' ⟨rfl, rfl⟩)
    | (go_at_call 42; refine HS.out.mono ?_; rintro e w' ⟨v, ss, rfl, hS, hrow, hnil, hb⟩))
  go_ret
  obtain ⟨e1, e2⟩ := HV.out ss hS
  rw [e1, e2] at hrow
  exact ⟨v, rfl, ownsRow_base_a hrow (by simp), ((Later.refl w).alloc _).trans hb⟩

end Go.Proofs.YtnhhdjcbifmfgaaDoor

/-
  What line.Text comes to, as a call.
-/
namespace Go.Proofs.YtnhhdjcbifmfgaaDoor
open Go.RowKit

theorem cells_room1 {a : List UInt8} {x : ByteArray} {m : Nat} (h : a.length + x.size + 1 ≤ m) (hm : m ≤ 1000000) : (Lib.byteCells a).length + x.size ≤ 140737488355328 := by
  rw [Lib.byteCells, List.length_map]; omega

theorem cells_room {a : List UInt8} {x : ByteArray} {m : Nat} (h : a.length + x.size + 1 ≤ m) (hm : m ≤ 1000000) : (Lib.byteCells a ++ Lib.strCells x).length + (⟨#[10]⟩ : ByteArray).size ≤ 140737488355328 := by
  rw [List.length_append, Lib.byteCells, List.length_map, Lib.strCells_length]
  have : (⟨#[10]⟩ : ByteArray).size = 1 := rfl
  omega

set_option maxHeartbeats 400000 in
theorem text_any (A : Option Addr) (n c : Nat) (l : List ByteArray) (w : World) (hx : Row w A n l) (hn : n ≤ 65536) (hb : (textL l).length ≤ 1000000) :
    Calls Tryd.prog 29 #[.slice A n c] w fun e w' => e = .returned (.string (txt (textL l))) ∧ Later w w' := by
  have HX := Lib.hid hx; clear hx
  go_enter Tryd.func29, Tryd.ntmps29
  go_wp2
  go_loopg [8] (n + 1) (fun g s8 wr => ∃ k : Nat, k ≤ n ∧ n - k ≤ g ∧ s8 = .int .i64 k ∧ Later w wr ∧ Lib.IsBuilder 55 5 w.heap.size w.heap.size (Lib.byteCells (textL (l.take k))) wr)
  case atStart =>
    exact ⟨0, Nat.zero_le _, by omega, rfl, (Later.refl w).alloc _, .inl ⟨Nat.le_refl _, .slice none 0 0, heap_alloc_new w _, World.ownsRow_nil _ _ _ _, by simp [Value.ownBlock]⟩⟩
  case round =>
    obtain ⟨k, hk, hg, rfl, hwr, hB⟩ := hrel
    have hle := hwr.le
    have HW := Lib.hid hwr; clear hwr
    have HB := Lib.hid hB; clear hB
    by_cases hlt : k < n
    · obtain ⟨b1, o1, rfl, g1⟩ := (HX.out.later HW.out).get hlt
      have hkl : k < l.length := by rw [HX.out.len]; exact hlt
      have hroom := textL_room hkl
      have hnext := textL_next hkl
      generalize l.getD k ByteArray.empty = x at g1 hroom hnext
      have HN := Lib.hid hnext; clear hnext
      go_wp2_with fail
      refine (Tryd.Builder_WriteString w.heap.size w.heap.size _ x wr HB.out (cells_room1 hroom hb) hle).mono ?_
      rintro e w1 ⟨rfl, hb1, hl1⟩
      have HB1 := Lib.hid hb1; clear hb1
      have HL1 := Lib.hid hl1; clear hl1
      have hle1 := HL1.out.size
      go_wp2_with fail
      refine (Tryd.Builder_WriteString w.heap.size w.heap.size _ _ w1 (.inr HB1.out) (cells_room hroom hb) (by omega)).mono ?_
      rintro e w2 ⟨rfl, hb2, hl2⟩
      have HB2 := Lib.hid hb2; clear hb2
      have HL2 := Lib.hid hl2; clear hl2
      go_wp2
      go_roundg (n - (k + 1))
      case measure => omega
      case rel =>
        refine ⟨k + 1, by omega, Nat.le_refl _, by go_num, Below.trans (Below.trans HW.out HL1.out) HL2.out, .inr ?_⟩
        rw [HN.out]
        have := HB2.out
        simpa [Lib.byteCells, Lib.strCells, bytes] using this
    · have hkn : k = n := by omega
      have e : l.take k = l := List.take_of_length_le (by rw [HX.out.len]; omega)
      rw [e] at HB
      clear e
      go_wp2_with fail
      refine (Tryd.Builder_String_any w.heap.size w.heap.size _ wr HB.out hle).mono ?_
      rintro e w1 ⟨rfl, hl1⟩
      have HL1 := Lib.hid hl1; clear hl1
      go_wp2
      go_ret
      exact ⟨rfl, Below.trans HW.out HL1.out⟩

end Go.Proofs.YtnhhdjcbifmfgaaDoor

/-
  What tree's Text comes to, as a call.
-/
namespace Go.Proofs.YtnhhdjcbifmfgaaDoor
open Go.RowKit Go.Maps

/-- A file as a text. -/
def headL (f : ByteArray × List ByteArray) : List UInt8 := bytes f.1 ++ [32] ++ Lib.decDigits f.2.length ++ [10]
def textT (t : Tr) : List UInt8 := t.flatMap fun f => headL f ++ textL f.2
theorem textT_next {t : Tr} {k : Nat} {f : ByteArray × List ByteArray} (h : t[k]? = some f) : textT (t.take (k + 1)) = textT (t.take k) ++ headL f ++ textL f.2 := by
  obtain ⟨hk, rfl⟩ := List.getElem?_eq_some_iff.1 h
  unfold textT
  rw [List.take_succ_eq_append_getElem hk, List.flatMap_append, List.append_assoc]
  simp
theorem textT_take {t : Tr} (k : Nat) : (textT (t.take k)).length ≤ (textT t).length := by
  have : textT t = textT (t.take k) ++ textT (t.drop k) := by
    unfold textT
    rw [← List.flatMap_append, List.take_append_drop]
  rw [this, List.length_append]; omega

/-- The table of powers of ten is as it is laid. -/
def Tab (w : World) : Prop := Lib.TabIs Tryd.prog w "internal/strconv.uint64pow10" .u64 Lib.pow10Tab
theorem Tab.later {w w' : World} (h : Tab w) (hl : Later w w') : Tab w' := Lib.tabBelow_of_tabIs h w' hl

theorem later_grow (w : World) (k : Nat) (os : Array Obj) : Later w (Sort.grow (w.drewN k) os) :=
  ⟨rfl, rfl, rfl, by simp [Sort.grow, World.drewN], fun i hi => by simp only [Sort.grow, World.drewN]; exact Array.getElem?_append_left hi⟩

theorem kept_later {w w' : World} (b : Option Nat) (h : Later w w') : Lib.OthersKept 5 b w w' := fun k o hk _ _ => by
  rw [h.block k (Array.getElem?_eq_some_iff.1 hk).1]; exact hk

/-- A row of texts stands while a builder is written. -/
theorem Own.kept {w0 w w' : World} {v : Value} {ss : List ByteArray} {b : Nat} {cs : Array Value} {fz : Nat × Nat} (h : Own 9 w0 w v ss) (hk : Lib.OthersKept 5 (some b) w w') (hb : w.heap[b]? = some (.cells cs 55 fz)) {A : Option Addr} {c : Nat} (hv : v = .slice A ss.length c) :
    Row w' A ss.length ss := by
  rcases h.1.2 with ⟨hv', h0⟩ | ⟨g, cap, cur, hv', hg, hh, hnc, hm, hs, ht⟩
  · have : ss = [] := List.eq_nil_of_length_eq_zero h0
    subst this
    exact Row.none
  · rw [hv'] at hv
    simp only [Value.slice.injEq] at hv
    obtain ⟨rfl, -, rfl⟩ := hv
    have hne : g ≠ b := by
      rintro rfl
      rw [hb] at hh
      simp at hh
    have hg' := hk g _ hh (by simpa using hne) (fun c fz e => by simp at e)
    refine ⟨rfl, fun _ => ⟨g, 0, rfl, fun j s hj => ?_⟩⟩
    have hjl := (List.getElem?_eq_some_iff.1 hj).1
    have e : cur.toList[j]? = some (Value.string s) := by
      have h1 : (cur.toList.take (ss.length * 1))[j]? = some (Value.string s) := by rw [ht, List.getElem?_map, hj]; rfl
      rwa [List.getElem?_take_of_lt (by omega)] at h1
    simp only [World.cell?, hg', Nat.zero_add]
    simpa using e

/-- A look-up of a file that is there, without asking. -/
theorem FA.look1 {w : World} {B : Nat} {z : Fl Held} (h : FA w B z) {nm : ByteArray} (hs : nm.size ≤ maxLen) {x : Held} (hx : getT z nm = some x) :
    (Instr.lookup 46 (.map (some B)) (.string nm) false).run Tryd.prog w = .ok x.1 w := by
  obtain ⟨v, ps, hrun, hv⟩ := h.own.lookup keyed9 Tryd.underlying46 (zero29 w) (raw_mk none 0 0) (key9 hs)
  rw [atKey_datum, getT_map, hx] at hv
  obtain ⟨A, n, c, rfl, hy⟩ := raw_inv hv
  simp only [Option.map_some, Prod.mk.injEq, DataW.held.injEq] at hy
  rw [hrun, ← hy.1]

theorem builder_later {B b : Nat} {bs : List Value} {w w' : World} (h : Lib.IsBuilderF 55 5 B b bs w) (hl : Later w w') : Lib.IsBuilderF 55 5 B b bs w' := by
  have hg : w.grownBy w' none := ⟨hl.os, hl.tape, hl.output, hl.size, fun i hi _ => hl.block i hi⟩
  have one : ∀ {q : Value}, Lib.BuilderAtF 55 5 B b q bs w → Lib.BuilderAtF 55 5 B b q bs w' := fun {q} h => by
    have hlt := h.lt
    obtain ⟨hB, v, hb, hown, hne⟩ := h
    refine ⟨hB, v, (hl.block b hlt).trans hb, hown.kept hg ?_, hne⟩
    cases v.ownBlock <;> simp
  rcases h with h | h
  · exact .inl (one h)
  · exact .inr (one h)
theorem builder_new (w : World) : Lib.IsBuilderF 55 5 w.heap.size w.heap.size (Lib.byteCells []) (w.alloc (.cells #[.pointer none, .slice none 0 0] 55)) :=
  Lib.IsBuilderF.of (.inl ⟨Nat.le_refl _, .slice none 0 0, heap_alloc_new w _, World.ownsRow_nil _ _ _ _, by simp [Value.ownBlock]⟩)

theorem digits_length (n : Nat) (h : n ≤ 65536) : (Lib.decDigits n).length ≤ 20 := by
  rw [Lib.decDigits_length]
  rcases Nat.eq_zero_or_pos n with rfl | h0
  · rw [Lib.nDigits_small (by omega)]; omega
  · have := Lib.numDigits_eq n h0 (by omega)
    split at this <;> omega

theorem itoa_nat (n : Nat) : (⟨(Lib.itoa (n : Int)).toArray⟩ : ByteArray) = txt (Lib.decDigits n) := by
  rw [Lib.itoa_nonneg]; rfl

set_option maxHeartbeats 800000 in
theorem treeText_any (p B : Nat) (t : Tr) (w : World) (ht : TreeAt w p B t) (htab : Tab w) (hl : t.length ≤ 65536) (hb : (textT t).length ≤ 1000000) (hs : ∀ f ∈ t, f.1.size ≤ maxLen ∧ f.2.length ≤ 65536) :
    Calls Tryd.prog 14 #[.pointer (some ⟨p, 0, none⟩)] w fun e w' => e = .returned (.string (txt (textT t))) ∧ Later w w' := by
  have HT := Lib.hid ht
  have HTB := Lib.hid htab; have HS := Lib.hid hs
  have hc := ht.cell
  clear ht htab hs
  go_enter Tryd.func14, Tryd.ntmps14
  go_wp2_with fail
  refine (names_any p B t _ (HT.out.later ((Later.refl w).alloc _)) hl).mono ?_
  rintro e w1 ⟨v, rfl, hown⟩
  have HO := Lib.hid hown
  obtain ⟨A, c, hv, hcc, -⟩ := hown.row
  have hlen : (namesT t).length = t.length := by simp [namesT]
  rw [hlen] at hv hcc
  subst hv
  have hnew := builder_new w
  have hkb : w1.heap[w.heap.size]? = some (.cells #[.pointer none, .slice none 0 0] 55 (0, 0)) := (hown.later.block _ (by simp)).trans (heap_alloc_new w _)
  have HKB := Lib.hid hkb
  have HB0 := Lib.hid (builder_later hnew hown.later)
  have HL1 : Hid (Later w w1) := ((Later.refl w).alloc _).trans hown.later
  have HLEN := Lib.hid hlen
  clear hown hnew hkb hlen
  go_wp2
  go_loopg [10] (t.length + 1) (fun g s10 wr => ∃ k : Nat, k ≤ t.length ∧ t.length - k ≤ g ∧ s10 = .int .i64 k ∧ Later w wr ∧ Hid (Lib.OthersKept 5 (some w.heap.size) w1 wr) ∧ Hid (Lib.IsBuilderF 55 5 w.heap.size w.heap.size (Lib.byteCells (textT (t.take k))) wr))
  case atStart => exact ⟨0, Nat.zero_le _, by omega, rfl, HL1.out, Lib.OthersKept.refl _ _ _, HB0.out⟩
  case round =>
    obtain ⟨k, hk, hg, rfl, hwr, hkept, hbd⟩ := hrel
    have hle := hwr.le
    have hcw := hwr.cell hc
    by_cases hlt : k < t.length
    · have hf : t[k]? = some t[k] := List.getElem?_eq_getElem hlt
      generalize t[k] = f at hf
      have hrow := HO.out.kept hkept.out HKB.out (A := A) (c := c) (by rw [HLEN.out])
      rw [HLEN.out] at hrow
      obtain ⟨b1, o1, rfl, g1⟩ := hrow.get hlt
      have hnm : (namesT t).getD k ByteArray.empty = f.1 := by simp [namesT, List.getD, hf]
      rw [hnm] at g1
      obtain ⟨hs1, hs2⟩ := HS.out f (List.mem_of_getElem? hf)
      obtain ⟨-, z, hz0, hzt⟩ := HT.out
      have hz := hz0.later hwr
      have hget : getT t f.1 = some f.2 := (getT_iff HT.out.files.rise).2 (List.mem_of_getElem? hf)
      rw [← hzt, getT_map, Option.map_eq_some_iff] at hget
      obtain ⟨x, hx, hxf⟩ := hget
      have hlk := hz.look1 hs1 hx
      obtain ⟨A2, n2, c2, hv2, hnc2, hr2⟩ := hz0.get hx
      rw [hv2] at hlk
      rw [hxf] at hr2
      have hn2 : n2 ≤ 65536 := by rw [← hr2.len]; exact hs2
      have hnext := textT_next hf
      have hroom := textT_take (t := t) (k + 1)
      rw [hnext] at hroom
      simp only [List.length_append] at hroom
      have hhead : headL f = bytes f.1 ++ [32] ++ Lib.decDigits n2 ++ [10] := by rw [headL, hr2.len]
      have hdl := digits_length n2 hn2
      rw [hhead] at hroom hnext
      simp only [List.length_append, List.length_singleton, bytes_length] at hroom
      have HNX := Lib.hid hnext; have HW := Lib.hid hwr
      have HR2 := Lib.hid hr2
      have HITO := Lib.hid (Tryd.strconv_Itoa (n2 : Int) (by omega) (by omega) wr (HTB.out.later hwr))
      clear hf hrow hnm hs1 hs2 hz hz0 hzt hx hxf hv2 hr2 hnext hwr hhead
      have hr1 : f.1.size + 1 ≤ 9223372036854775807 := by omega
      go_wp2_with fail
      refine HITO.out.mono ?_
      rintro e w3 ⟨rfl, q, os, hw3⟩
      have HL3 : Hid (Later wr w3) := by rw [hw3]; exact later_grow wr q os
      clear hw3
      rw [itoa_nat]
      have hdz : (txt (Lib.decDigits n2)).size ≤ 20 := by rw [txt_size]; exact hdl
      generalize hdd : txt (Lib.decDigits n2) = dd at hdz ⊢
      have HDD := Lib.hid hdd; clear hdd
      go_wp2_with fail
      have hle3 : w.heap.size ≤ w3.heap.size := Nat.le_trans hle HL3.out.le
      refine (Tryd.Builder_WriteString_k w.heap.size w.heap.size _ _ w3 (builder_later hbd.out HL3.out) ?room1 hle3).mono ?_
      case room1 =>
        simp only [ByteArray.size_append, Lib.byteCells, List.length_map]
        have h1 : (⟨#[32]⟩ : ByteArray).size = 1 := rfl
        have h2 : (⟨#[10]⟩ : ByteArray).size = 1 := rfl
        omega
      rintro e w4 ⟨rfl, hb4, hl4, hk4⟩
      have HB4 := Lib.hid hb4; have HL4 := Lib.hid hl4; have HK4 := Lib.hid hk4
      have hle4 : w.heap.size ≤ w4.heap.size := Nat.le_trans hle3 hl4.size
      have HW4 : Hid (Later w w4) := Below.trans (Below.trans HW.out (Below.mono HL3.out hle)) hl4
      clear hb4 hl4 hk4
      go_wp2_with fail
      refine (text_any A2 n2 c2 f.2 w4 (HR2.out.later HW4.out) hn2 (by omega)).mono ?_
      rintro e w5 ⟨rfl, hl5⟩
      have HL5 := Lib.hid hl5
      have hle5 : w.heap.size ≤ w5.heap.size := Nat.le_trans hle4 hl5.le
      clear hl5
      go_wp2_with fail
      refine (Tryd.Builder_WriteString_k w.heap.size w.heap.size _ _ w5 (builder_later (.inr HB4.out) HL5.out) ?room2 hle5).mono ?_
      case room2 =>
        simp only [ByteArray.size_append, List.length_append, Lib.byteCells, List.length_map, Lib.strCells_length, txt_size]
        have h1 : (⟨#[32]⟩ : ByteArray).size = 1 := rfl
        have h2 : (⟨#[10]⟩ : ByteArray).size = 1 := rfl
        omega
      rintro e w6 ⟨rfl, hb6, hl6, hk6⟩
      have HB6 := Lib.hid hb6; have HL6 := Lib.hid hl6; have HK6 := Lib.hid hk6
      clear hb6 hl6 hk6
      go_wp2
      go_roundg (t.length - (k + 1))
      case measure => omega
      case rel =>
        refine ⟨k + 1, by omega, Nat.le_refl _, by go_num, Below.trans (Below.trans HW4.out (Below.mono HL5.out hle4)) HL6.out, ?_, .inr ?_⟩
        · exact (((hkept.out.trans (kept_later _ HL3.out)).trans HK4.out).trans (kept_later _ HL5.out)).trans HK6.out
        · rw [HNX.out, show Lib.decDigits n2 = bytes dd from by rw [← HDD.out, bytes_txt]]
          have := HB6.out
          simpa [Lib.byteCells, Lib.strCells, bytes, txt, List.append_assoc] using this
    · have e : t.take k = t := List.take_of_length_le (by omega)
      rw [e] at hbd
      clear e
      have HW := Lib.hid hwr; clear hwr
      go_wp2_with fail
      refine (Tryd.Builder_String_any_k w.heap.size w.heap.size _ wr hbd.out hle).mono ?_
      rintro e w3 ⟨rfl, -, hl3, -⟩
      have HL3 := Lib.hid hl3; clear hl3
      go_wp2
      go_ret
      exact ⟨rfl, Below.trans HW.out HL3.out⟩

end Go.Proofs.YtnhhdjcbifmfgaaDoor

/-
  The table of powers of ten, off the rows' list; a world in which the tables stand.
-/
namespace Go.Proofs.YtnhhdjcbifmfgaaDoor
open Go.ChangeShapes Go.WideShapes Go.ChangeAt Go.RowKit Go.Deep

theorem Tryd.gTab : Tryd.prog.globalNamed "internal/strconv.uint64pow10" = some 0 := by kernel_rfl
theorem Tryd.gTabType : (Tryd.prog.globals[0]?).map (·.type) = some 110 := by kernel_rfl
theorem Tryd.gTabCells : Tryd.prog.cellsOf 110 = 20 := by kernel_rfl
theorem Tryd.cells97 : Tryd.prog.cellsOf 93 = 1 := by kernel_rfl

def laidList : List (String × DataW Unit) := [("math/bits.deBruijn32tab", Rows.laid_math_bits_deBruijn32tab), ("math/bits.deBruijn64tab", Rows.laid_math_bits_deBruijn64tab), ("internal/strconv.uint64pow10", Rows.laid_internal_strconv_uint64pow10)]

/-- What the rows' list gives: the table of powers of ten. -/
theorem tab_of {W : World} (h : laidMetH Tryd.prog laidList W) : Tab W := by
  have h1 := laidMetH.filter (fun x => x.1 == "internal/strconv.uint64pow10") h
  have e : laidList.filter (fun x => x.1 == "internal/strconv.uint64pow10") = [("internal/strconv.uint64pow10", Lib.tabData .u64 Lib.pow10Tab)] := by kernel_rfl
  rw [e] at h1
  exact Lib.tabIs_of_head (rest := []) Tryd.gTab Tryd.gTabType Tryd.underlying110 Tryd.underlying93 Tryd.cells97 Tryd.gTabCells h1

/-- A variable's cells, set. -/
def setVar (h : Array Obj) (g : Nat) (cs : List Value) : Array Obj := h.modify g fun | .cells _ t frozen => .cells cs.toArray t frozen | o => o

/-- A world in which the tables hold what their initialisers lay. -/
noncomputable def laidWorld (os : Os) : World :=
  { World.holding Tryd.prog os ⟨#[], #[], []⟩ with
    heap := setVar (setVar (setVar (World.holding Tryd.prog os ⟨#[], #[], []⟩).heap 0 (Lib.pow10Tab.map (Value.int .u64)))
      2 (([0, 1, 28, 2, 29, 14, 24, 3, 30, 22, 20, 15, 25, 17, 4, 8, 31, 27, 13, 23, 21, 19, 16, 7, 26, 12, 18, 6, 11, 5, 10, 9] : List Int).map (Value.int .u8)))
      3 (([0, 1, 56, 2, 57, 49, 28, 3, 61, 58, 42, 50, 38, 29, 17, 4, 62, 47, 59, 36, 45, 43, 51, 22, 53, 39, 33, 30, 24, 18, 12, 5, 63, 55, 48, 27, 60, 41, 37, 16, 46, 35, 44, 21, 52, 32, 23, 11, 54, 26, 40, 15, 34, 20, 31, 10, 25, 14, 19, 9, 13, 8, 7, 6] : List Int).map (Value.int .u8)) }

end Go.Proofs.YtnhhdjcbifmfgaaDoor
