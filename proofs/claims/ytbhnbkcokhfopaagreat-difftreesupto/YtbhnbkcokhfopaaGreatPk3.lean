import Derived.Test.YtbhnbkcokhfopaaGreatProg
import Derived.Test.YtbhnbkcokhfopaaGreatPk1
import Derived.Test.YtbhnbkcokhfopaaGreatPk2
import Derived.Maps.OwnSet
import Derived.Maps.RangeWalk
import Derived.Test.YtbhnbkcokhfopaaGreatChecked
import Derived.Deep.LoopGhost
import Derived.Lib.Hide
import Derived.Deep.QuietTactic
import Derived.BigQuiet

/-
  Trees in memory: a map from names to rows of lines, what it holds, and how it is kept while memory grows.
-/
namespace Go.Proofs.YtbhnbkcokhfopaaGreat
open Go.RowKit Go.Maps

/-- How a file's lines read: as the slice itself. -/
def raw : Value → Option (DataW Value × List MemPlace)
  | .slice A n c => some (.held (.slice A n c), [])
  | _ => none
theorem raw_mk (A : Option Addr) (n c : Nat) : raw (.slice A n c) = some (.held (.slice A n c), []) := rfl
theorem raw_inv {v : Value} {y : DataW Value × List MemPlace} (h : raw v = some y) : ∃ A n c, v = .slice A n c ∧ y = (.held v, []) := by
  cases v <;> simp [raw] at h
  exact ⟨_, _, _, rfl, h.symm⟩

def ent (f : ByteArray × Value) : Lit × DataW Value := (.string (bytes f.1), .held f.2)
/-- What a map of these files reads as. -/
def datum (vs : Fl Value) : DataW Value := .map (vs.map ent)

theorem ent_same (f : ByteArray × Value) (n : ByteArray) : (ent f).1.sameKey (.string (bytes n)) = decide (f.1 = n) := by
  simp only [ent, Lit.sameKey]
  by_cases h : f.1 = n
  · simp [h]
  · simp [h]; exact fun e => h (bytes_inj e)
theorem ent_before (f g : ByteArray × Value) : (ent f).1.before (ent g).1 = ltN f.1 g.1 := rfl

theorem has_datum (vs : Fl Value) (n : ByteArray) : Maps.has (datum vs) (.string (bytes n)) = hasT vs n := by
  rw [Bool.eq_iff_iff, hasT_iff]
  simp only [datum, Maps.has_eq, List.any_map, List.any_eq_true, Function.comp_apply, ent_same, decide_eq_true_eq]
theorem atKey_datum (vs : Fl Value) (n : ByteArray) (z : DataW Value) : (datum vs).atKey (.string (bytes n)) z = match getT vs n with | some v => .held v | none => z := by
  simp only [datum, DataW.atKey, List.find?_map, Function.comp_def, ent_same, getT]
  cases vs.find? fun f => decide (f.1 = n) <;> rfl
theorem size_datum (vs : Fl Value) : Maps.size (datum vs) = vs.length := by simp [datum, Maps.size_eq]
theorem del_datum (vs : Fl Value) (n : ByteArray) : (datum vs).del (.string (bytes n)) = datum (withoutT vs n) := by
  have e : ∀ f : ByteArray × Value, (!decide (f.1 = n)) = decide (f.1 ≠ n) := fun f => by simp
  simp only [datum, DataW.del, withoutT, List.filter_map, Function.comp_def, ent_same, e]
theorem insert_datum (n : ByteArray) (v : Value) : ∀ u : Fl Value, Rising u → (∀ f ∈ u, f.1 ≠ n) →
    DataW.insert (ent (n, v)) (u.map ent) = (u.filter (fun f => ltN f.1 n) ++ (n, v) :: u.filter (fun f => ltN n f.1)).map ent
  | [], _, _ => rfl
  | y :: r, hr, hn => by
    have hy := hn y List.mem_cons_self
    simp only [List.map_cons, DataW.insert]
    have hbf : (ent (n, v)).1.before (ent y).1 = ltN n y.1 := rfl
    by_cases h : ltN n y.1 = true
    · rw [if_pos (hbf.trans h)]
      have h1 : (y :: r).filter (fun f => ltN f.1 n) = [] := List.filter_eq_nil_iff.2 fun f hf => by
        rcases List.mem_cons.1 hf with rfl | hf
        · simp [ltN_asymm h]
        · simp [ltN_asymm (ltN_trans h (rising_head hr hf))]
      have h2 : (y :: r).filter (fun f => ltN n f.1) = y :: r := List.filter_eq_self.2 fun f hf => by
        rcases List.mem_cons.1 hf with rfl | hf
        · exact h
        · exact ltN_trans h (rising_head hr hf)
      rw [h1, h2]; rfl
    · rw [if_neg (fun e => h (hbf.symm.trans e))]
      have hlt : ltN y.1 n = true := (ltN_total hy).resolve_right h
      rw [insert_datum n v r (rising_tail hr) fun f hf => hn f (List.mem_cons_of_mem _ hf)]
      simp only [List.filter_cons, hlt, if_true]
      rw [if_neg h]; rfl
theorem put_datum {vs : Fl Value} (h : Rising vs) (n : ByteArray) (v : Value) : (datum vs).put (.string (bytes n)) (.held v) = datum (withT vs n v) := by
  have e : (vs.map ent).filter (fun p => !p.1.sameKey (.string (bytes n))) = (withoutT vs n).map ent := by
    have e : ∀ f : ByteArray × Value, (!decide (f.1 = n)) = decide (f.1 ≠ n) := fun f => by simp
    simp only [withoutT, List.filter_map, Function.comp_def, ent_same, e]
  simp only [datum, DataW.put, e]
  rw [show ((Lit.string (bytes n), DataW.held v) : Lit × DataW Value) = ent (n, v) from rfl, insert_datum n v _ (rising_without h n) fun f hf => (mem_without.1 hf).2]
  rfl

theorem own_tight {H : Type} {P : Program} {k : TypeId} {R : Value → Option (DataW H × List MemPlace)} {w : World} {b n : Nat} {D : DataW H} (h : w.ownsMap P k R b n D) : w.ownsMap P k R b (Maps.size D) D := by
  obtain ⟨es, clock, hb, F, hs, rfl⟩ := h
  exact ⟨es, clock, hb, F, by simp [Maps.size, length_sorted], rfl⟩

/-- The value is a slice that reads as these lines. -/
def Reads (w : World) (v : Value) (l : List ByteArray) : Prop := ∃ A n c, v = .slice A n c ∧ n ≤ c ∧ Row w A n l

/-- A file's value, and its lines. -/
abbrev Held := Value × List ByteArray

/-- Block B is a map of the files z. -/
structure FA (w : World) (B : Nat) (z : Fl Held) : Prop where
  own : w.ownsMap Tryz.prog 9 raw B z.length (datum (mapT (·.1) z))
  rise : Rising z
  reads : ∀ f ∈ z, Reads w f.2.1 f.2.2

/-- Block B is a map of the files t. -/
def FilesAt (w : World) (B : Nat) (t : Tr) : Prop := ∃ z, FA w B z ∧ mapT (·.2) z = t

/-- Block p holds the map of block B: a tree of the files t. -/
structure TreeAt (w : World) (p B : Nat) (t : Tr) : Prop where
  cell : w.cell? ⟨p, 0, none⟩ = some (.map (some B))
  files : FilesAt w B t

/-- Nothing has turned but block B. -/
def Turned (B : Nat) (w w' : World) : Prop := w.grownBy w' (some B)

section
variable {w w' w'' : World} {A : Option Addr} {n B p : Nat} {l : List ByteArray} {v : Value} {z : Fl Held} {t : Tr}

theorem Turned.refl (B : Nat) (w : World) : Turned B w w := ⟨rfl, rfl, rfl, Nat.le_refl _, fun _ _ _ => rfl⟩
theorem Later.turned (h : Later w w') (B : Nat) : Turned B w w' := ⟨h.os, h.tape, h.output, h.size, fun i hi _ => h.block i hi⟩
theorem Turned.trans (h : Turned B w w') (k : Turned B w' w'') : Turned B w w'' :=
  ⟨k.os.trans h.os, k.tape.trans h.tape, k.output.trans h.output, Nat.le_trans h.size k.size, fun i hi hne => (k.block i (Nat.lt_of_lt_of_le hi h.size) hne).trans (h.block i hi hne)⟩
/-- A block that was not there at w has turned: of what was there nothing has. -/
theorem Later.turn (h : Later w w') (k : Turned B w' w'') (hB : w.heap.size ≤ B) : Later w w'' :=
  ⟨k.os.trans h.os, k.tape.trans h.tape, k.output.trans h.output, Nat.le_trans h.size k.size, fun i hi => (k.block i (Nat.lt_of_lt_of_le hi h.size) (fun e => by cases e; omega)).trans (h.block i hi)⟩
theorem Turned.le (h : Turned B w w') : w.heap.size ≤ w'.heap.size := h.size
theorem Turned.cell (h : Turned B w w') {a : Addr} {u : Value} (hc : w.cell? a = some u) (hne : a.block ≠ B) : w'.cell? a = some u :=
  (World.cell?_of_block (h.block a.block (lt_of_cell hc) (fun e => hne (by cases e; rfl)))).trans hc
theorem Turned.of_map (h : w.mapTurned w' B) : Turned B w w' := h.grown

theorem not_map {es : Array MapEntry} {c : Nat} {a : Addr} {u : Value} (hm : w.heap[B]? = some (.map es c)) (hc : w.cell? a = some u) : a.block ≠ B := by
  rintro rfl
  simp [World.cell?, hm] at hc

theorem Row.turned (h : Row w A n l) (hg : Turned B w w') {es : Array MapEntry} {c : Nat} (hm : w.heap[B]? = some (.map es c)) : Row w' A n l :=
  ⟨h.1, fun hn => by
    obtain ⟨b, o, e, hc⟩ := h.2 hn
    exact ⟨b, o, e, fun j s hs => hg.cell (hc j s hs) (not_map hm (hc j s hs))⟩⟩
theorem Reads.later (h : Reads w v l) (hl : Later w w') : Reads w' v l := by
  obtain ⟨A, n, c, rfl, hc, hr⟩ := h; exact ⟨A, n, c, rfl, hc, hr.later hl⟩
theorem Reads.turned (h : Reads w v l) (hg : Turned B w w') {es : Array MapEntry} {c : Nat} (hm : w.heap[B]? = some (.map es c)) : Reads w' v l := by
  obtain ⟨A, n, c, rfl, hc, hr⟩ := h; exact ⟨A, n, c, rfl, hc, hr.turned hg hm⟩
theorem Reads.nil (w : World) : Reads w (.slice none 0 0) [] := ⟨none, 0, 0, rfl, Nat.le_refl _, Row.none⟩

theorem FA.map (h : FA w B z) : ∃ es c, w.heap[B]? = some (.map es c) := by
  obtain ⟨es, c, hb, _⟩ := h.own; exact ⟨es, c, hb⟩
theorem FA.lt (h : FA w B z) : B < w.heap.size := h.own.lt
theorem FA.later (h : FA w B z) (hl : Later w w') : FA w' B z :=
  ⟨h.own.kept (row := none) ⟨hl.os, hl.tape, hl.output, hl.size, fun i hi _ => hl.block i hi⟩ (by simp), h.rise, fun f hf => (h.reads f hf).later hl⟩
/-- Another map has turned. -/
theorem FA.other {B' : Nat} (h : FA w B z) (hg : Turned B' w w') (hne : B ≠ B') {es : Array MapEntry} {c : Nat} (hm : w.heap[B']? = some (.map es c)) : FA w' B z :=
  ⟨h.own.kept hg (by simpa using hne), h.rise, fun f hf => (h.reads f hf).turned hg hm⟩
theorem FA.put (h : FA w B z) {k : Nat} {nm : ByteArray} (hw : w'.ownsMap Tryz.prog 9 raw B k ((datum (mapT (·.1) z)).put (.string (bytes nm)) (.held v))) (ht : w.mapTurned w' B) (hr : Reads w v l) : FA w' B (withT z nm (v, l)) := by
  have e : (datum (mapT (·.1) z)).put (.string (bytes nm)) (.held v) = datum (mapT (·.1) (withT z nm (v, l))) := by
    rw [put_datum (rising_map.2 h.rise), ← withT_map (fun x : Held => x.1)]
  obtain ⟨es, c, hm⟩ := h.map
  have hg := Turned.of_map ht
  refine ⟨?_, rising_with h.rise _ _, fun f hf => ?_⟩
  · have := own_tight hw
    rw [e, size_datum, mapT_length] at this
    exact this
  · rcases mem_with.1 hf with rfl | hf
    · exact hr.turned hg hm
    · exact (h.reads f hf.1).turned hg hm
theorem FA.del (h : FA w B z) {k : Nat} {nm : ByteArray} (hw : w'.ownsMap Tryz.prog 9 raw B k ((datum (mapT (·.1) z)).del (.string (bytes nm)))) (ht : w.mapTurned w' B) : FA w' B (withoutT z nm) := by
  obtain ⟨es, c, hm⟩ := h.map
  have hg := Turned.of_map ht
  refine ⟨?_, rising_without h.rise _, fun f hf => (h.reads f (mem_without.1 hf).1).turned hg hm⟩
  have := own_tight hw
  rw [del_datum, withoutT_map, size_datum, mapT_length] at this
  exact this
/-- A new map. -/
theorem FA.made (w : World) : FA (w.alloc (.map #[] 0)) w.heap.size [] := ⟨World.ownsMap_made w _ _ _, rising_nil, fun f hf => by cases hf⟩

theorem FilesAt.later (h : FilesAt w B t) (hl : Later w w') : FilesAt w' B t := by obtain ⟨z, h, rfl⟩ := h; exact ⟨z, h.later hl, rfl⟩
theorem FilesAt.lt (h : FilesAt w B t) : B < w.heap.size := by obtain ⟨z, h, _⟩ := h; exact h.lt
theorem FilesAt.map (h : FilesAt w B t) : ∃ es c, w.heap[B]? = some (.map es c) := by obtain ⟨z, h, _⟩ := h; exact h.map
theorem FilesAt.rise (h : FilesAt w B t) : Rising t := by obtain ⟨z, h, rfl⟩ := h; exact rising_map.2 h.rise
theorem FilesAt.other {B' : Nat} (h : FilesAt w B t) (hg : Turned B' w w') (hne : B ≠ B') {es : Array MapEntry} {c : Nat} (hm : w.heap[B']? = some (.map es c)) : FilesAt w' B t := by
  obtain ⟨z, h, rfl⟩ := h; exact ⟨z, h.other hg hne hm, rfl⟩
theorem TreeAt.later (h : TreeAt w p B t) (hl : Later w w') : TreeAt w' p B t := ⟨hl.cell h.cell, h.files.later hl⟩
theorem TreeAt.ne (h : TreeAt w p B t) : p ≠ B := by
  obtain ⟨es, c, hm⟩ := h.files.map
  exact not_map hm h.cell
theorem TreeAt.lt (h : TreeAt w p B t) : p < w.heap.size := lt_of_cell h.cell
/-- The tree's own map has turned, to other files. -/
theorem TreeAt.to {t' : Tr} (h : TreeAt w p B t) (hg : Turned B w w') (hf : FilesAt w' B t') : TreeAt w' p B t' := ⟨hg.cell h.cell h.ne, hf⟩
theorem TreeAt.other {B' : Nat} (h : TreeAt w p B t) (hg : Turned B' w w') (hne : B ≠ B') {es : Array MapEntry} {c : Nat} (hm : w.heap[B']? = some (.map es c)) : TreeAt w' p B t :=
  ⟨hg.cell h.cell (not_map hm h.cell), h.files.other hg hne hm⟩
end

theorem keyed9 : Keyed Tryz.prog 9 := string_keyed Tryz.underlying9
theorem key9 {s : ByteArray} (h : s.size ≤ maxLen) : keyOf Tryz.prog 9 (.string s) = some (.string (bytes s)) := WideMaps.keyOf_string_mk Tryz.underlying9 h

theorem zero29 (w : World) : (zeroValue 45).run Tryz.prog w = .ok (.slice none 0 0) w := by kernel_rfl

/-- A look-up of a file that is there. -/
theorem FA.look_yes {w : World} {B : Nat} {z : Fl Held} (h : FA w B z) {nm : ByteArray} (hs : nm.size ≤ maxLen) {x : Held} (hx : getT z nm = some x) :
    (Instr.lookup 73 (.map (some B)) (.string nm) true).run Tryz.prog w = .ok (.tuple #[x.1, .bool true]) w := by
  obtain ⟨v, ps, hrun, hv⟩ := h.own.look_ok keyed9 Tryz.underlying73 (zero29 w) (raw_mk none 0 0) (key9 hs)
  rw [atKey_datum, getT_map, hx] at hv
  rw [has_datum, hasT_map, getT_has hx] at hrun
  obtain ⟨A, n, c, rfl, hy⟩ := raw_inv hv
  simp only [Option.map_some, Prod.mk.injEq, DataW.held.injEq] at hy
  rw [hrun, ← hy.1]
/-- A look-up of a file that is not. -/
theorem FA.look_no {w : World} {B : Nat} {z : Fl Held} (h : FA w B z) {nm : ByteArray} (hs : nm.size ≤ maxLen) (hx : getT z nm = none) :
    (Instr.lookup 73 (.map (some B)) (.string nm) true).run Tryz.prog w = .ok (.tuple #[.slice none 0 0, .bool false]) w := by
  obtain ⟨v, ps, hrun, hv⟩ := h.own.look_ok keyed9 Tryz.underlying73 (zero29 w) (raw_mk none 0 0) (key9 hs)
  rw [atKey_datum, getT_map, hx] at hv
  rw [has_datum, hasT_map, hasT_no.2 (getT_none.1 hx)] at hrun
  obtain ⟨A, n, c, rfl, hy⟩ := raw_inv hv
  simp only [Option.map_none, Prod.mk.injEq, DataW.held.injEq] at hy
  rw [hrun, ← hy.1]
/-- What is there reads as its lines. -/
theorem FA.get {w : World} {B : Nat} {z : Fl Held} (h : FA w B z) {nm : ByteArray} {x : Held} (hx : getT z nm = some x) : Reads w x.1 x.2 := h.reads _ (getT_mem hx)

end Go.Proofs.YtbhnbkcokhfopaaGreat

/-
  The document's trees in memory: rows of files, each a name and a row of lines; Get.
-/
namespace Go.Proofs.YtbhnbkcokhfopaaGreat
open Go.RowKit Go.Maps

def cellsF (z : Fl Held) : List (List Value) := z.map fun f => [.string f.1, f.2.1]
theorem cellsF_length (z : Fl Held) : (cellsF z).length = z.length := by simp [cellsF]

/-- The slice reads as these files. -/
structure RefRow (w : World) (A : Option Addr) (n : Nat) (z : Fl Held) : Prop where
  row : RowK 2 w A n (cellsF z)
  reads : ∀ f ∈ z, Reads w f.2.1 f.2.2

/-- The value is a tree of the document's. -/
def RefAt (w : World) (v : Value) (t : Tr) : Prop := ∃ A n c z, v = .slice A n c ∧ n ≤ c ∧ RefRow w A n z ∧ mapT (·.2) z = t

section
variable {w w' : World} {A : Option Addr} {n : Nat} {z : Fl Held} {v : Value} {t : Tr}
theorem RefRow.len (h : RefRow w A n z) : z.length = n := by rw [← cellsF_length]; exact h.row.len
theorem RefRow.later (h : RefRow w A n z) (hl : Later w w') : RefRow w' A n z := ⟨h.row.later hl, fun f hf => (h.reads f hf).later hl⟩
theorem RefAt.later (h : RefAt w v t) (hl : Later w w') : RefAt w' v t := by
  obtain ⟨A, n, c, z, e, hc, hr, ht⟩ := h; exact ⟨A, n, c, z, e, hc, hr.later hl, ht⟩
theorem RefRow.none : RefRow w A 0 [] := ⟨RowK.none, fun f hf => by cases hf⟩
theorem RefAt.nil (w : World) : RefAt w (.slice none 0 0) [] := ⟨Option.none, 0, 0, [], rfl, Nat.le_refl _, RefRow.none, rfl⟩
theorem RowK.turned {k B : Nat} {css : List (List Value)} (h : RowK k w A n css) (hg : Turned B w w') {es : Array MapEntry} {c : Nat} (hm : w.heap[B]? = some (.map es c)) : RowK k w' A n css :=
  ⟨h.1, h.2.1, fun hn => by
    obtain ⟨b, o, e, hc⟩ := h.2.2 hn
    exact ⟨b, o, e, fun j i cs v h1 h2 => hg.cell (hc j i cs v h1 h2) (not_map hm (hc j i cs v h1 h2))⟩⟩
/-- A map has turned: the document's tree stands. -/
theorem RefAt.turned {B : Nat} (h : RefAt w v t) (hg : Turned B w w') {es : Array MapEntry} {c : Nat} (hm : w.heap[B]? = some (.map es c)) : RefAt w' v t := by
  obtain ⟨A, n, c, z, e, hc, hr, ht⟩ := h
  exact ⟨A, n, c, z, e, hc, ⟨hr.row.turned hg hm, fun f hf => (hr.reads f hf).turned hg hm⟩, ht⟩
theorem RefRow.get (h : RefRow w A n z) {j : Nat} (hj : j < n) : ∃ b o f, A = some ⟨b, o, .none⟩ ∧ z[j]? = some f ∧ w.cell? ⟨b, o + j * 2, .none⟩ = some (.string f.1) ∧ w.cell? ⟨b, o + j * 2 + 1, .none⟩ = some f.2.1 := by
  obtain ⟨b, o, e, cs, hcs, _, hc⟩ := h.row.get hj
  have hl : j < z.length := by rw [h.len]; exact hj
  have hz := List.getElem?_eq_getElem hl
  simp only [cellsF, List.getElem?_map, hz, Option.map_some, Option.some.injEq] at hcs
  subst hcs
  exact ⟨b, o, z[j], e, hz, hc 0 _ rfl, hc 1 _ rfl⟩
end

section
variable {α : Type}
theorem get_at {t : Fl α} {n : ByteArray} {k : Nat} {f : ByteArray × α} (hk : t[k]? = some f) (hf : f.1 = n) (hno : ∀ (j : Nat) g, j < k → t[j]? = some g → g.1 ≠ n) : getT t n = some f.2 := by
  unfold getT
  have : t.find? (fun f => decide (f.1 = n)) = some f := by
    obtain ⟨hlt, rfl⟩ := List.getElem?_eq_some_iff.1 hk
    rw [List.find?_eq_some_iff_getElem]
    refine ⟨by simpa using hf, k, hlt, rfl, fun j hj => ?_⟩
    have := hno j _ hj (List.getElem?_eq_getElem (by omega))
    simpa using this
  rw [this]; rfl
theorem get_none_at {t : Fl α} {n : ByteArray} (hno : ∀ (j : Nat) g, t[j]? = some g → g.1 ≠ n) : getT t n = none := getT_none.2 fun f hf => by
  obtain ⟨j, hj⟩ := List.getElem?_of_mem hf
  exact hno j f hj
end

/-- What Get tells of a row of files. -/
def got (o : Option Held) : Value := match o with | some x => x.1 | none => .slice none 0 0

set_option maxHeartbeats 400000 in
theorem refGet_any (A : Option Addr) (n c : Nat) (z : Fl Held) (nm : ByteArray) (w : World) (hx : RefRow w A n z) (hn : n ≤ 65536) :
    Calls Tryz.prog 31 #[.slice A n c, .string nm] w fun e w' => e = .returned (.tuple #[got (getT z nm), .bool (hasT z nm)]) ∧ w = w' := by
  have HX := Lib.hid hx; clear hx
  go_enter Tryz.func31, Tryz.ntmps31
  go_wp2
  go_loop [6] (fun i => ∃ k : Nat, k ≤ n ∧ i = .int .i64 k ∧ Hid (∀ (j : Nat) g, j < k → z[j]? = some g → g.1 ≠ nm)) (fun i => n - (intOf i).toNat)
  case atStart => exact ⟨0, Nat.zero_le _, rfl, fun j g hj => absurd hj (Nat.not_lt_zero _)⟩
  case round =>
    obtain ⟨k, hk, rfl, hno⟩ := hrel
    by_cases hlt : k < n
    · obtain ⟨b, o, f, rfl, hz, g1, g2⟩ := HX.out.get hlt
      by_cases he : f.1 = nm
      · have hg := get_at hz he hno.out
        have E : Hid (got (getT z nm) = f.2.1 ∧ hasT z nm = true) := ⟨by rw [hg]; rfl, getT_has hg⟩
        rw [he] at g1
        generalize f.2.1 = v at g2 E
        clear hg hno hz he
        go_wp2
        go_ret2
        exact ⟨by rw [E.out.1, E.out.2]; rfl, rfl⟩
      · have hb := text_ne he
        have HN : Hid (∀ (j : Nat) g, j < k + 1 → z[j]? = some g → g.1 ≠ nm) := fun j g hj hg => by
          by_cases e : j = k
          · subst e; rw [hz] at hg; cases hg; exact he
          · exact hno.out j g (by omega) hg
        generalize f.1 = fn at g1 hb
        clear hno hz he
        go_wp2
        exact ⟨⟨k + 1, by omega, by go_num, HN⟩, by simp [intOf]; omega⟩
    · have hg : getT z nm = none := get_none_at fun j g hj => hno.out j g (by have := (List.getElem?_eq_some_iff.1 hj).1; rw [HX.out.len] at this; omega) hj
      have E : Hid (got (getT z nm) = .slice none 0 0 ∧ hasT z nm = false) := ⟨by rw [hg]; rfl, by unfold hasT; rw [hg]; rfl⟩
      clear hg hno
      go_wp2
      go_ret2
      exact ⟨by rw [E.out.1, E.out.2]; rfl, rfl⟩

end Go.Proofs.YtbhnbkcokhfopaaGreat

/-
  What the document's Without and With come to, as calls.
-/
namespace Go.Proofs.YtbhnbkcokhfopaaGreat
open Go.RowKit Go.Maps

theorem RowK.two (w : World) (a b : Value) (t : TypeId) : RowK 2 (w.alloc (.cells #[a, b] t)) (some ⟨w.heap.size, 0, .none⟩) 1 [[a, b]] := RowK.one w [a, b] t

theorem Tryz.fileInfo : (Tryz.prog.info? 62).map (fun i => (i.zero, i.size, i.bytes)) = some (some (.agg #[.string ByteArray.empty, .slice none 0 0]), 2, 40) := by kernel_rfl

/-- A row of files of new memory. -/
def GivesRef (z : Fl Held) (w : World) (e : Ending) (w' : World) : Prop := ∃ A n c, e = .returned (.slice A n c) ∧ n ≤ c ∧ RefRow w' A n z ∧ Later w w'

theorem file_one (fn : ByteArray) (A : Option Addr) (n c : Nat) : ∀ cs ∈ [[Value.string fn, Value.slice A n c]], ∀ u ∈ cs, u.oneCell' = true := by
  intro cs hcs u hu
  simp at hcs; subst hcs
  simp at hu
  rcases hu with rfl | rfl <;> rfl

theorem filter_next {α : Type} {z : List α} {k : Nat} {f : α} (h : z[k]? = some f) (p : α → Bool) : (z.take (k + 1)).filter p = (z.take k).filter p ++ (if p f then [f] else []) := by
  obtain ⟨hk, rfl⟩ := List.getElem?_eq_some_iff.1 h
  rw [List.take_succ_eq_append_getElem hk, List.filter_append, List.filter_cons, List.filter_nil]

theorem gives_own {z : Fl Held} {w wr : World} {v : Value} (h : OwnK 62 2 w wr v (cellsF z)) (hr : ∀ f ∈ z, Reads wr f.2.1 f.2.2) : GivesRef z w (.returned v) wr := by
  obtain ⟨A, c, hv, hcc, hrow⟩ := h.row
  rw [cellsF_length] at hv hcc hrow
  exact ⟨A, _, c, by rw [hv], hcc, ⟨hrow, hr⟩, h.later⟩

set_option maxHeartbeats 400000 in
theorem refWithout_any (A : Option Addr) (n c : Nat) (z : Fl Held) (nm : ByteArray) (w : World) (hx : RefRow w A n z) (hn : n ≤ 65536) :
    Calls Tryz.prog 47 #[.slice A n c, .string nm] w (GivesRef (withoutT z nm) w) := by
  have HX := Lib.hid hx; clear hx
  obtain ⟨i0, hi, hz0, hz1, hz2⟩ := info_parts Tryz.fileInfo
  go_enter Tryz.func47, Tryz.ntmps47
  go_wp2
  go_loopg [5, 6] (n + 1) (fun g s5 s6 wr => ∃ (k : Nat) (v : Value), k ≤ n ∧ n - k ≤ g ∧ s6 = .int .i64 k ∧ s5 = v ∧ Hid (OwnK 62 2 w wr v (cellsF ((z.take k).filter fun f => decide (f.1 ≠ nm)))))
  case atStart => exact ⟨0, _, Nat.zero_le _, by omega, rfl, rfl, OwnK.nil (Later.refl w)⟩
  case round =>
    obtain ⟨k, v, hk, hg, rfl, rfl, ho⟩ := hrel
    by_cases hlt : k < n
    · obtain ⟨b, o, f, rfl, hz, g1, g2⟩ := (HX.out.later ho.out.later).get hlt
      obtain ⟨A2, n2, c2, hv2, -, -⟩ := HX.out.reads f (List.mem_of_getElem? hz)
      have hstep := filter_next hz (fun f => decide (f.1 ≠ nm))
      have hlen : (cellsF ((z.take k).filter fun f => decide (f.1 ≠ nm))).length ≤ 65536 := by
        rw [cellsF_length]
        have h1 := List.length_filter_le (fun f : ByteArray × Held => decide (f.1 ≠ nm)) (z.take k)
        rw [List.length_take] at h1; omega
      by_cases he : f.1 = nm
      · have HE : Hid ((z.take (k + 1)).filter (fun f => decide (f.1 ≠ nm)) = (z.take k).filter fun f => decide (f.1 ≠ nm)) := by rw [hstep]; simp [Hid, he]
        rw [he] at g1
        clear hstep hz he hv2 g2
        go_wp2
        go_roundg (n - (k + 1))
        case measure => omega
        case rel => exact ⟨k + 1, _, by omega, Nat.le_refl _, by go_num, rfl, by rw [HE.out]; exact ho.out⟩
      · have HE : Hid ((z.take (k + 1)).filter (fun f => decide (f.1 ≠ nm)) = (z.take k).filter (fun f => decide (f.1 ≠ nm)) ++ [f]) := by rw [hstep]; simp [Hid, he]
        have hb := text_ne he
        have HF : Hid (f = (f.1, (Value.slice A2 n2 c2, f.2.2))) := by show f = _; rw [← hv2]
        rw [hv2] at g2
        generalize f.1 = fn at g1 hb HF
        generalize f.2.2 = fl at HF
        clear hstep hz he hv2
        go_wp2_with (at_builtin; refine wpList_append_rowK rfl _ _ 27 rfl i0 _ 40 Tryz.underlying27 hi hz0 hz1 hz2 rfl (by decide) (ho.out.alloc _) rfl _ _ _ _ rfl (RowK.two _ _ _ _) (file_one _ _ _ _) (by omega) (by omega) ?_; intro v2 w2 hown2 hg2; have HO2 := Lib.hid hown2; clear hown2 hg2)
        go_roundg (n - (k + 1))
        case measure => omega
        case rel =>
          refine ⟨k + 1, _, by omega, Nat.le_refl _, by go_num, rfl, ?_⟩
          rw [HE.out, HF.out]
          have := HO2.out
          simpa [cellsF, Hid] using this
    · have e : z.take k = z := List.take_of_length_le (by rw [HX.out.len]; omega)
      rw [e] at ho
      clear e
      go_wp2
      go_ret
      exact gives_own ho.out fun f hf => (HX.out.reads f (List.mem_filter.1 hf).1).later ho.out.later

theorem run_gtr (a b : ByteArray) (w : World) : (binOp .gtr 9 (.string a) (.string b)).run Tryz.prog w = .ok (.bool (ltN b a)) w := by
  have e : (!(Op.bytesLess a.toList b.toList || a.toList == b.toList)) = ltN b a := by
    rw [less_is, text_beq]
    by_cases h : a = b
    · subst h; simp [ltN_irrefl]
    · rcases ltN_total h with k | k
      · simp [k, ltN_asymm k]
      · simp [k, ltN_asymm k, h]
  rw [← e]
  simp [binOp, Op.stringOp]

set_option maxRecDepth 100000 in
set_option maxHeartbeats 1000000 in
theorem refWith_any (A : Option Addr) (n c : Nat) (z : Fl Held) (nm : ByteArray) (Al : Option Addr) (nl cl : Nat) (l : List ByteArray) (w : World) (hx : RefRow w A n z) (hl : Reads w (.slice Al nl cl) l) (hn : n ≤ 65536) :
    Calls Tryz.prog 46 #[.slice A n c, .string nm, .slice Al nl cl] w (GivesRef (withT z nm (.slice Al nl cl, l)) w) := by
  have HX := Lib.hid hx; have HL := Lib.hid hl; clear hl
  obtain ⟨i0, hi, hz0, hz1, hz2⟩ := info_parts Tryz.fileInfo
  have HC := Lib.hid (refWithout_any A n c z nm w hx hn)
  have hzn := without_length z nm
  rw [hx.len] at hzn
  clear hx
  go_enter Tryz.func46, Tryz.ntmps46
  go_wp2_with fail
  refine HC.out.mono ?_
  rintro e w1 ⟨A1, n1, c1, rfl, hnc1, hr1, hl1⟩
  have hn1 : n1 ≤ 65536 := by rw [← hr1.len]; omega
  have HR1 := Lib.hid hr1; have HL1 := Lib.hid hl1; clear hr1 hl1
  generalize hu : withoutT z nm = u at HR1 hzn
  have HU := Lib.hid hu; clear hu
  go_wp2
  go_loopg [7, 9] (n1 + 1) (fun g s7 s9 wr => ∃ (k : Nat) (v : Value), k ≤ n1 ∧ n1 - k ≤ g ∧ s9 = .int .i64 k ∧ s7 = v ∧ Hid (OwnK 62 2 w1 wr v (cellsF ((u.take k).filter fun f => ltN f.1 nm))))
  case atStart => exact ⟨0, _, Nat.zero_le _, by omega, rfl, rfl, OwnK.nil (Later.refl w1)⟩
  case round =>
    obtain ⟨k, v, hk, hg, rfl, rfl, ho⟩ := hrel
    by_cases hlt : k < n1
    · obtain ⟨b, o, f, rfl, hz, g1, g2⟩ := (HR1.out.later ho.out.later).get hlt
      obtain ⟨A2, n2, c2, hv2, -, -⟩ := HR1.out.reads f (List.mem_of_getElem? hz)
      have hstep := filter_next hz (fun f => ltN f.1 nm)
      have hlen : ((u.take k).filter fun f => ltN f.1 nm).length ≤ 65536 := by
        have h1 := List.length_filter_le (fun f : ByteArray × Held => ltN f.1 nm) (u.take k)
        rw [List.length_take] at h1; omega
      by_cases he : ltN f.1 nm = true
      · have HE : Hid ((u.take (k + 1)).filter (fun f => ltN f.1 nm) = (u.take k).filter (fun f => ltN f.1 nm) ++ [f]) := by rw [hstep]; simp [Hid, he]
        have hb : Op.bytesLess f.1.toList nm.toList = true := by rw [less_is]; exact he
        have HF : Hid (f = (f.1, (Value.slice A2 n2 c2, f.2.2))) := by show f = _; rw [← hv2]
        rw [hv2] at g2
        generalize f.1 = fn at g1 hb HF
        generalize f.2.2 = fl at HF
        clear hstep hz he hv2
        go_wp2_with (at_builtin; refine wpList_append_rowK rfl _ _ 27 rfl i0 _ 40 Tryz.underlying27 hi hz0 hz1 hz2 rfl (by decide) (ho.out.alloc _) rfl _ _ _ _ rfl (RowK.two _ _ _ _) (file_one _ _ _ _) (by rw [cellsF_length]; omega) (by omega) ?_; intro v2 w2 hown2 hg2; have HO2 := Lib.hid hown2; clear hown2 hg2)
        go_roundg (n1 - (k + 1))
        case measure => omega
        case rel =>
          refine ⟨k + 1, _, by omega, Nat.le_refl _, by go_num, rfl, ?_⟩
          rw [HE.out, HF.out]
          have := HO2.out
          simpa [cellsF, Hid] using this
      · have he' : ltN f.1 nm = false := by simpa using he
        have HE : Hid ((u.take (k + 1)).filter (fun f => ltN f.1 nm) = (u.take k).filter fun f => ltN f.1 nm) := by rw [hstep]; simp [Hid, he']
        have hb : Op.bytesLess f.1.toList nm.toList = false := by rw [less_is]; exact he'
        generalize f.1 = fn at g1 hb
        clear hstep hz he he' hv2 g2
        go_wp2
        go_roundg (n1 - (k + 1))
        case measure => omega
        case rel => exact ⟨k + 1, _, by omega, Nat.le_refl _, by go_num, rfl, by rw [HE.out]; exact ho.out⟩
    · have e : u.take k = u := List.take_of_length_le (by rw [HR1.out.len]; omega)
      rw [e] at ho
      have hle1 : (u.filter fun f => ltN f.1 nm).length ≤ 65536 := by
        have h1 := List.length_filter_le (fun f : ByteArray × Held => ltN f.1 nm) u
        rw [HR1.out.len] at h1; omega
      clear e
      go_wp2_with (at_builtin; refine wpList_append_rowK rfl _ _ 27 rfl i0 _ 40 Tryz.underlying27 hi hz0 hz1 hz2 rfl (by decide) (ho.out.alloc _) rfl _ _ _ _ rfl (RowK.two _ _ _ _) (file_one _ _ _ _) (by rw [cellsF_length]; omega) (by omega) ?_; intro v3 w3 hown3 hg3; have HO3 := Lib.hid hown3; clear hown3 hg3)
      have hO4 : OwnK 62 2 w1 w3 v3 (cellsF ((u.filter fun f => ltN f.1 nm) ++ [(nm, (Value.slice Al nl cl, l))])) := by
        have := HO3.out
        simpa [cellsF] using this
      generalize hP : (u.filter fun f => ltN f.1 nm) ++ [(nm, (Value.slice Al nl cl, l))] = pre at hO4
      have HP := Lib.hid hP
      have hpl : pre.length ≤ 65537 := by rw [← hP, List.length_append, List.length_singleton]; omega
      have HO4 := Lib.hid hO4
      clear hO4 HO3 ho hle1 hP hg hlt hk
      go_loopg [7, 10] (n1 + 1) (fun g s7 s10 wr => ∃ (k : Nat) (v : Value), k ≤ n1 ∧ n1 - k ≤ g ∧ s10 = .int .i64 k ∧ s7 = v ∧ Hid (OwnK 62 2 w1 wr v (cellsF (pre ++ (u.take k).filter fun f => ltN nm f.1))))
      case atStart => exact ⟨0, _, Nat.zero_le _, by omega, rfl, rfl, by simpa [Hid] using HO4.out⟩
      case round =>
        obtain ⟨k, v, hk, hg, rfl, rfl, ho⟩ := hrel
        by_cases hlt : k < n1
        · obtain ⟨b, o, f, rfl, hz, g1, g2⟩ := (HR1.out.later ho.out.later).get hlt
          obtain ⟨A2, n2, c2, hv2, -, -⟩ := HR1.out.reads f (List.mem_of_getElem? hz)
          have hstep := filter_next hz (fun f => ltN nm f.1)
          have hlen : ((u.take k).filter fun f => ltN nm f.1).length ≤ 65536 := by
            have h1 := List.length_filter_le (fun f : ByteArray × Held => ltN nm f.1) (u.take k)
            rw [List.length_take] at h1; omega
          by_cases he : ltN nm f.1 = true
          · have HE : Hid ((u.take (k + 1)).filter (fun f => ltN nm f.1) = (u.take k).filter (fun f => ltN nm f.1) ++ [f]) := by rw [hstep]; simp [Hid, he]
            have hb : ∀ w, (binOp .gtr 9 (.string f.1) (.string nm)).run Tryz.prog w = .ok (.bool true) w := fun w => by rw [run_gtr, he]
            have HF : Hid (f = (f.1, (Value.slice A2 n2 c2, f.2.2))) := by show f = _; rw [← hv2]
            rw [hv2] at g2
            generalize f.1 = fn at g1 hb HF
            generalize f.2.2 = fl at HF
            clear hstep hz he hv2
            go_wp2_with (at_builtin; refine wpList_append_rowK rfl _ _ 27 rfl i0 _ 40 Tryz.underlying27 hi hz0 hz1 hz2 rfl (by decide) (ho.out.alloc _) rfl _ _ _ _ rfl (RowK.two _ _ _ _) (file_one _ _ _ _) (by rw [cellsF_length, List.length_append]; omega) (by omega) ?_; intro v2 w2 hown2 hg2; have HO2 := Lib.hid hown2; clear hown2 hg2)
            go_roundg (n1 - (k + 1))
            case measure => omega
            case rel =>
              refine ⟨k + 1, _, by omega, Nat.le_refl _, by go_num, rfl, ?_⟩
              rw [HE.out, HF.out]
              have := HO2.out
              simpa [cellsF, Hid] using this
          · have he' : ltN nm f.1 = false := by simpa using he
            have HE : Hid ((u.take (k + 1)).filter (fun f => ltN nm f.1) = (u.take k).filter fun f => ltN nm f.1) := by rw [hstep]; simp [Hid, he']
            have hb : ∀ w, (binOp .gtr 9 (.string f.1) (.string nm)).run Tryz.prog w = .ok (.bool false) w := fun w => by rw [run_gtr, he']
            generalize f.1 = fn at g1 hb
            clear hstep hz he he' hv2 g2
            go_wp2
            go_roundg (n1 - (k + 1))
            case measure => omega
            case rel => exact ⟨k + 1, _, by omega, Nat.le_refl _, by go_num, rfl, by rw [HE.out]; exact ho.out⟩
        · have e : u.take k = u := List.take_of_length_le (by rw [HR1.out.len]; omega)
          rw [e] at ho
          have HW : Hid (withT z nm (.slice Al nl cl, l) = pre ++ u.filter fun f => ltN nm f.1) := by
            show _ = _
            rw [← HP.out, ← HU.out]; simp [withT]
          clear e
          go_wp2
          go_ret
          rw [HW.out]
          obtain ⟨A9, n9, c9, h1, h2, h3, h4⟩ := gives_own ho.out fun f hf => by
            rcases List.mem_append.1 hf with hf | hf
            · rw [← HP.out] at hf
              rcases List.mem_append.1 hf with hf | hf
              · exact (HR1.out.reads f (List.mem_filter.1 hf).1).later ho.out.later
              · simp at hf; subst hf
                exact (HL.out.later HL1.out).later ho.out.later
            · exact (HR1.out.reads f (List.mem_filter.1 hf).1).later ho.out.later
          exact ⟨A9, n9, c9, h1, h2, h3, HL1.out.trans h4⟩

end Go.Proofs.YtbhnbkcokhfopaaGreat

/-
  What tree.Named and the document's Named come to, as calls.
-/
namespace Go.Proofs.YtbhnbkcokhfopaaGreat
open Go.RowKit

theorem nameByte_iff (c : UInt8) : nameByte c = true ↔ (97 ≤ (c.toNat : Int) ∧ (c.toNat : Int) ≤ 122) ∨ (48 ≤ (c.toNat : Int) ∧ (c.toNat : Int) ≤ 57) ∨ (c.toNat : Int) = 46 ∨ (c.toNat : Int) = 45 ∨ (c.toNat : Int) = 95 ∨ (c.toNat : Int) = 47 := by
  have e : ∀ d : UInt8, c = d ↔ (c.toNat : Int) = d.toNat := fun d => ⟨fun h => by rw [h], fun h => UInt8.toNat.inj (by omega)⟩
  simp only [nameByte, Bool.or_eq_true, Bool.and_eq_true, decide_eq_true_eq, UInt8.le_iff_toNat_le, beq_iff_eq, e]
  simp only [UInt8.reduceToNat]
  omega

set_option maxHeartbeats 400000 in
theorem fits_any (c : UInt8) (w : World) : Calls Tryz.prog 62 #[.int .u8 (c.toNat : Int)] w fun e w' => e = .returned (.bool (nameByte c)) ∧ w = w' := by
  have hc := nameByte_iff c
  generalize nameByte c = b at hc ⊢
  have HC := Lib.hid hc; clear hc
  have h0 : (0 : Int) ≤ (c.toNat : Int) := by omega
  have h1 : (c.toNat : Int) < 256 := by have := c.toNat_lt; omega
  generalize (c.toNat : Int) = n at *
  go_enter Tryz.func62, Tryz.ntmps62
  go_wp2
  all_goals
    go_ret
    refine ⟨ret_bool ?_, rfl⟩
    rw [Bool.eq_iff_iff, HC.out]
    simp_all
    try omega

theorem named_no {s : ByteArray} {k : Nat} {c : UInt8} (hk : (bytes s)[k]? = some c) (hc : nameByte c = false) : namedB s = false := by
  have : (bytes s).all nameByte = false := List.all_eq_false.2 ⟨c, List.mem_of_getElem? hk, by simp [hc]⟩
  simp [namedB, this]
theorem named_yes {s : ByteArray} (h : ∀ (k : Nat) (c : UInt8), (bytes s)[k]? = some c → nameByte c = true) : namedB s = (decide (1 ≤ s.size) && decide (s.size ≤ 24)) := by
  have : (bytes s).all nameByte = true := List.all_eq_true.2 fun c hc => by
    obtain ⟨k, hk⟩ := List.getElem?_of_mem hc
    exact h k c hk
  simp [namedB, this]

set_option maxHeartbeats 400000 in
theorem named_any (s : ByteArray) (w : World) (hs : s.size ≤ maxLen) : Calls Tryz.prog 43 #[.string s] w fun e w' => e = .returned (.bool (namedB s)) ∧ w = w' := by
  unfold maxLen at hs
  by_cases h1 : s.size < 1
  · have e : namedB s = false := by simp [namedB]; omega
    have E := Lib.hid e; clear e
    have hd : decide ((s.size : Int) < 1) = true := by simp; omega
    go_enter Tryz.func43, Tryz.ntmps43
    go_wp2
    go_ret
    exact ⟨ret_bool E.out.symm, rfl⟩
  · have hd : decide ((s.size : Int) < 1) = false := by simp; omega
    by_cases h2 : 24 < s.size
    · have e : namedB s = false := by simp [namedB]; omega
      have E := Lib.hid e; clear e
      have hd2 : decide ((24 : Int) < s.size) = true := by simp; omega
      go_enter Tryz.func43, Tryz.ntmps43
      go_wp2
      go_ret
      exact ⟨ret_bool E.out.symm, rfl⟩
    · have hd2 : decide ((24 : Int) < s.size) = false := by simp; omega
      go_enter Tryz.func43, Tryz.ntmps43
      go_wp2
      clear hd hd2
      go_loop [14] (fun i => ∃ k : Nat, k ≤ s.size ∧ i = .int .i64 k ∧ Hid (∀ (j : Nat) (c : UInt8), j < k → (bytes s)[j]? = some c → nameByte c = true)) (fun i => s.size - (intOf i).toNat)
      case atStart => exact ⟨0, Nat.zero_le _, rfl, fun j c hj => absurd hj (Nat.not_lt_zero _)⟩
      case round =>
        obtain ⟨k, hk, rfl, hno⟩ := hrel
        by_cases hlt : k < s.size
        · have hat : (bytes s)[k]? = some s[k] := byte_at hlt
          have hf := fits_any s[k] w
          cases hb : nameByte s[k]
          · rw [hb] at hf
            have e := named_no hat hb
            have E := Lib.hid e
            have HF := Lib.hid hf
            clear hf hb e hat hno
            go_wp2_with (go_at_call 62; refine HF.out.mono ?_; rintro e w' ⟨rfl, rfl⟩)
            go_ret
            exact ⟨ret_bool E.out.symm, rfl⟩
          · rw [hb] at hf
            have HA : Hid (∀ (j : Nat) (c : UInt8), j < k + 1 → (bytes s)[j]? = some c → nameByte c = true) := fun j c hj hjc => by
              by_cases e : j = k
              · subst e; rw [hat] at hjc; cases hjc; exact hb
              · exact hno.out j c (by omega) hjc
            have HF := Lib.hid hf
            clear hf hb hat hno
            go_wp2_with (go_at_call 62; refine HF.out.mono ?_; rintro e w' ⟨rfl, rfl⟩)
            exact ⟨⟨k + 1, by omega, by go_num, HA⟩, by simp [intOf]; omega⟩
        · have e : namedB s = true := by
            rw [named_yes fun j c hc => hno.out j c (by have := (List.getElem?_eq_some_iff.1 hc).1; rw [bytes_length] at this; omega) hc]
            simp; omega
          have E := Lib.hid e; clear e hno
          go_wp2
          go_ret
          exact ⟨ret_bool E.out.symm, rfl⟩

set_option maxHeartbeats 800000 in
theorem refNamed_any (s : ByteArray) (w : World) (hs : s.size ≤ maxLen) : Calls Tryz.prog 45 #[.string s] w fun e w' => e = .returned (.bool (namedB s)) ∧ w = w' := by
  unfold maxLen at hs
  go_enter Tryz.func45, Tryz.ntmps45
  go_wp2
  go_loop [3] (fun i => ∃ k : Nat, k ≤ s.size ∧ i = .int .i64 k ∧ Hid (∀ (j : Nat) (c : UInt8), j < k → (bytes s)[j]? = some c → nameByte c = true)) (fun i => s.size - (intOf i).toNat)
  case atStart => exact ⟨0, Nat.zero_le _, rfl, fun j c hj => absurd hj (Nat.not_lt_zero _)⟩
  case round =>
    obtain ⟨k, hk, rfl, hno⟩ := hrel
    by_cases hlt : k < s.size
    · have hat : (bytes s)[k]? = some s[k] := byte_at hlt
      have hc := nameByte_iff s[k]
      cases hb : nameByte s[k]
      · have e := named_no hat hb
        have E := Lib.hid e
        rw [hb] at hc
        have HC := Lib.hid hc
        clear hb e hat hno hc
        go_wp2
        all_goals first
          | (go_ret; exact ⟨ret_bool E.out.symm, rfl⟩)
          | (exfalso; have := HC.out; simp at this; simp_all; try omega)
      · have HA : Hid (∀ (j : Nat) (c : UInt8), j < k + 1 → (bytes s)[j]? = some c → nameByte c = true) := fun j c hj hjc => by
          by_cases e : j = k
          · subst e; rw [hat] at hjc; cases hjc; exact hb
          · exact hno.out j c (by omega) hjc
        rw [hb] at hc
        have HC := Lib.hid hc
        clear hb hat hno hc
        go_wp2
        all_goals first
          | exact ⟨⟨k + 1, by omega, by go_num, HA⟩, by simp [intOf]; omega⟩
          | (exfalso; have := HC.out; simp at this; simp_all; try omega)
    · have e : namedB s = (decide (1 ≤ s.size) && decide (s.size ≤ 24)) := named_yes fun j c hc => hno.out j c (by have := (List.getElem?_eq_some_iff.1 hc).1; rw [bytes_length] at this; omega) hc
      have E := Lib.hid e; clear e hno
      go_wp2
      all_goals
        go_ret
        refine ⟨ret_bool ?_, rfl⟩
        rw [E.out, Bool.eq_iff_iff]
        simp only [Bool.and_eq_true, decide_eq_true_eq]
        try simp
        try omega

end Go.Proofs.YtbhnbkcokhfopaaGreat

/-
  What the document's Right comes to, as a call.
-/
namespace Go.Proofs.YtbhnbkcokhfopaaGreat
open Go.RowKit

set_option maxHeartbeats 400000 in
theorem refRight_any (s : ByteArray) (w : World) (hs : s.size ≤ maxLen) :
    Calls Tryz.prog 63 #[.string s] w fun e w' => e = .returned (.bool (rightB s)) ∧ w = w' := by
  unfold maxLen at hs
  go_enter Tryz.func63, Tryz.ntmps63
  go_wp2
  go_loop [3] (fun i => ∃ k : Nat, k ≤ s.size ∧ i = .int .i64 k ∧ Hid (∀ j : Nat, j < k → s.data.toList[j]? ≠ some 10)) (fun i => s.size - (intOf i).toNat)
  case atStart => exact ⟨0, Nat.zero_le _, rfl, fun j hj => absurd hj (Nat.not_lt_zero _)⟩
  case round =>
    obtain ⟨k, hk, rfl, hno⟩ := hrel
    by_cases hlt : k < s.size
    · go_wp2
      · have h10 := byte_is (c := s[k]) ‹_›
        have e : rightB s = false := by
          unfold rightB
          rw [hasEnd_yes (k := k) (by rw [byte_at hlt, h10])]; simp
        have E := Lib.hid e
        go_ret
        exact ⟨ret_bool E.out.symm, rfl⟩
      · have h10 := byte_isnt (c := s[k]) ‹_›
        refine ⟨⟨k + 1, by omega, by go_num, fun j hj => ?_⟩, by simp [intOf]; omega⟩
        by_cases e : j = k
        · subst e; rw [byte_at hlt]; simpa using h10
        · exact hno.out j (by omega)
    · have e : rightB s = decide (s.size ≤ 60) := by
        unfold rightB
        rw [hasEnd_no (fun j => ?_)]; simp
        by_cases hj : j < k
        · exact hno.out j hj
        · rw [List.getElem?_eq_none (by simp; omega)]; simp
      have E := Lib.hid e; clear e hno
      go_wp2
      go_ret
      exact ⟨ret_bool (by rw [E.out]; simp; omega), rfl⟩

end Go.Proofs.YtbhnbkcokhfopaaGreat

/-
  What the document's All comes to, as a call.
-/
namespace Go.Proofs.YtbhnbkcokhfopaaGreat
open Go.RowKit

set_option maxHeartbeats 400000 in
theorem refAll_any (A : Option Addr) (n c : Nat) (l : List ByteArray) (w : World) (hx : Row w A n l) (hn : n ≤ 65536) (hs : ∀ x ∈ l, x.size ≤ maxLen) :
    Calls Tryz.prog 48 #[.slice A n c] w fun e w' => e = .returned (.bool (allB l)) ∧ w = w' := by
  have HX := Lib.hid hx; clear hx
  have HS := Lib.hid hs; clear hs
  go_enter Tryz.func48, Tryz.ntmps48
  go_wp2
  go_loop [3] (fun i => ∃ k : Nat, k ≤ n ∧ i = .int .i64 k ∧ Hid (∀ j : Nat, j < k → rightB (l.getD j ByteArray.empty) = true)) (fun i => n - (intOf i).toNat)
  case atStart => exact ⟨0, Nat.zero_le _, rfl, fun j hj => absurd hj (Nat.not_lt_zero _)⟩
  case round =>
    obtain ⟨k, hk, rfl, hall⟩ := hrel
    by_cases hlt : k < n
    · obtain ⟨b1, o1, rfl, g1⟩ := HX.out.get hlt
      have hkl : k < l.length := by rw [HX.out.len]; exact hlt
      have hsz : (l.getD k ByteArray.empty).size ≤ maxLen := by
        simp only [List.getD, List.getElem?_eq_getElem hkl, Option.getD_some]
        exact HS.out _ (List.getElem_mem hkl)
      have hr := refRight_any (l.getD k ByteArray.empty) w hsz
      cases hb : rightB (l.getD k ByteArray.empty)
      · rw [hb] at hr
        have e := allB_get hkl hb
        have E := Lib.hid e
        have HR := Lib.hid hr; clear hr hb hsz e hkl hall
        generalize l.getD k ByteArray.empty = x at g1 HR
        go_wp2_with (go_at_call 63; refine HR.out.mono ?_; rintro e w' ⟨rfl, rfl⟩)
        go_ret
        exact ⟨ret_bool E.out.symm, rfl⟩
      · rw [hb] at hr
        have HA : Hid (∀ j : Nat, j < k + 1 → rightB (l.getD j ByteArray.empty) = true) := fun j hj => by
          by_cases e : j = k
          · rw [e]; exact hb
          · exact hall.out j (by omega)
        have HR := Lib.hid hr; clear hr hb hsz hkl hall
        generalize l.getD k ByteArray.empty = x at g1 HR
        go_wp2_with (go_at_call 63; refine HR.out.mono ?_; rintro e w' ⟨rfl, rfl⟩)
        exact ⟨⟨k + 1, by omega, by go_num, HA⟩, by simp [intOf]; omega⟩
    · have e : allB l = true := allB_all fun j hj => hall.out j (by rw [HX.out.len] at hj; omega)
      have E := Lib.hid e; clear e hall
      go_wp2
      go_ret
      exact ⟨ret_bool E.out.symm, rfl⟩

end Go.Proofs.YtbhnbkcokhfopaaGreat
