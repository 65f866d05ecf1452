import Derived.Test.YtbhnbkcokhfopaaGreatProg
import Derived.Test.YtbhnbkcokhfopaaGreatPk1
import Derived.Test.YtbhnbkcokhfopaaGreatPk2
import Derived.Maps.OwnSet
import Derived.Maps.RangeWalk
import Derived.Test.YtbhnbkcokhfopaaGreatPk3
import Derived.Deep.LoopGhost
import Derived.Deep.QuietTactic
import Derived.BigQuiet
import Derived.Lib.Hide

/-
  Trees in memory: a map from names to rows of lines, what it holds, and how it is kept while memory grows.
-/
namespace Go.Proofs.YtbhnbkcokhfopaaGreat
open Go.RowKit Go.Maps

/-- How a file's lines read: as the slice itself. -/
def raw : Value → Option (DataW Value × List MemPlace)
  | .slice A n c => some (.held (.slice A n c), [])
  | _ => none
theorem raw_mk (A : Option Addr) (n c : Nat) : raw (.slice A n c) = some (.held (.slice A n c), []) := rfl
theorem raw_inv {v : Value} {y : DataW Value × List MemPlace} (h : raw v = some y) : ∃ A n c, v = .slice A n c ∧ y = (.held v, []) := by
  cases v <;> simp [raw] at h
  exact ⟨_, _, _, rfl, h.symm⟩

def ent (f : ByteArray × Value) : Lit × DataW Value := (.string (bytes f.1), .held f.2)
/-- What a map of these files reads as. -/
def datum (vs : Fl Value) : DataW Value := .map (vs.map ent)

theorem ent_same (f : ByteArray × Value) (n : ByteArray) : (ent f).1.sameKey (.string (bytes n)) = decide (f.1 = n) := by
  simp only [ent, Lit.sameKey]
  by_cases h : f.1 = n
  · simp [h]
  · simp [h]; exact fun e => h (bytes_inj e)
theorem ent_before (f g : ByteArray × Value) : (ent f).1.before (ent g).1 = ltN f.1 g.1 := rfl

theorem has_datum (vs : Fl Value) (n : ByteArray) : Maps.has (datum vs) (.string (bytes n)) = hasT vs n := by
  rw [Bool.eq_iff_iff, hasT_iff]
  simp only [datum, Maps.has_eq, List.any_map, List.any_eq_true, Function.comp_apply, ent_same, decide_eq_true_eq]
theorem atKey_datum (vs : Fl Value) (n : ByteArray) (z : DataW Value) : (datum vs).atKey (.string (bytes n)) z = match getT vs n with | some v => .held v | none => z := by
  simp only [datum, DataW.atKey, List.find?_map, Function.comp_def, ent_same, getT]
  cases vs.find? fun f => decide (f.1 = n) <;> rfl
theorem size_datum (vs : Fl Value) : Maps.size (datum vs) = vs.length := by simp [datum, Maps.size_eq]
theorem del_datum (vs : Fl Value) (n : ByteArray) : (datum vs).del (.string (bytes n)) = datum (withoutT vs n) := by
  have e : ∀ f : ByteArray × Value, (!decide (f.1 = n)) = decide (f.1 ≠ n) := fun f => by simp
  simp only [datum, DataW.del, withoutT, List.filter_map, Function.comp_def, ent_same, e]
theorem insert_datum (n : ByteArray) (v : Value) : ∀ u : Fl Value, Rising u → (∀ f ∈ u, f.1 ≠ n) →
    DataW.insert (ent (n, v)) (u.map ent) = (u.filter (fun f => ltN f.1 n) ++ (n, v) :: u.filter (fun f => ltN n f.1)).map ent
  | [], _, _ => rfl
  | y :: r, hr, hn => by
    have hy := hn y List.mem_cons_self
    simp only [List.map_cons, DataW.insert]
    have hbf : (ent (n, v)).1.before (ent y).1 = ltN n y.1 := rfl
    by_cases h : ltN n y.1 = true
    · rw [if_pos (hbf.trans h)]
      have h1 : (y :: r).filter (fun f => ltN f.1 n) = [] := List.filter_eq_nil_iff.2 fun f hf => by
        rcases List.mem_cons.1 hf with rfl | hf
        · simp [ltN_asymm h]
        · simp [ltN_asymm (ltN_trans h (rising_head hr hf))]
      have h2 : (y :: r).filter (fun f => ltN n f.1) = y :: r := List.filter_eq_self.2 fun f hf => by
        rcases List.mem_cons.1 hf with rfl | hf
        · exact h
        · exact ltN_trans h (rising_head hr hf)
      rw [h1, h2]; rfl
    · rw [if_neg (fun e => h (hbf.symm.trans e))]
      have hlt : ltN y.1 n = true := (ltN_total hy).resolve_right h
      rw [insert_datum n v r (rising_tail hr) fun f hf => hn f (List.mem_cons_of_mem _ hf)]
      simp only [List.filter_cons, hlt, if_true]
      rw [if_neg h]; rfl
theorem put_datum {vs : Fl Value} (h : Rising vs) (n : ByteArray) (v : Value) : (datum vs).put (.string (bytes n)) (.held v) = datum (withT vs n v) := by
  have e : (vs.map ent).filter (fun p => !p.1.sameKey (.string (bytes n))) = (withoutT vs n).map ent := by
    have e : ∀ f : ByteArray × Value, (!decide (f.1 = n)) = decide (f.1 ≠ n) := fun f => by simp
    simp only [withoutT, List.filter_map, Function.comp_def, ent_same, e]
  simp only [datum, DataW.put, e]
  rw [show ((Lit.string (bytes n), DataW.held v) : Lit × DataW Value) = ent (n, v) from rfl, insert_datum n v _ (rising_without h n) fun f hf => (mem_without.1 hf).2]
  rfl

theorem own_tight {H : Type} {P : Program} {k : TypeId} {R : Value → Option (DataW H × List MemPlace)} {w : World} {b n : Nat} {D : DataW H} (h : w.ownsMap P k R b n D) : w.ownsMap P k R b (Maps.size D) D := by
  obtain ⟨es, clock, hb, F, hs, rfl⟩ := h
  exact ⟨es, clock, hb, F, by simp [Maps.size, length_sorted], rfl⟩

/-- The value is a slice that reads as these lines. -/
def Reads (w : World) (v : Value) (l : List ByteArray) : Prop := ∃ A n c, v = .slice A n c ∧ n ≤ c ∧ Row w A n l

/-- A file's value, and its lines. -/
abbrev Held := Value × List ByteArray

/-- Block B is a map of the files z. -/
structure FA (w : World) (B : Nat) (z : Fl Held) : Prop where
  own : w.ownsMap Tryz.prog 9 raw B z.length (datum (mapT (·.1) z))
  rise : Rising z
  reads : ∀ f ∈ z, Reads w f.2.1 f.2.2

/-- Block B is a map of the files t. -/
def FilesAt (w : World) (B : Nat) (t : Tr) : Prop := ∃ z, FA w B z ∧ mapT (·.2) z = t

/-- Block p holds the map of block B: a tree of the files t. -/
structure TreeAt (w : World) (p B : Nat) (t : Tr) : Prop where
  cell : w.cell? ⟨p, 0, none⟩ = some (.map (some B))
  files : FilesAt w B t

/-- Nothing has turned but block B. -/
def Turned (B : Nat) (w w' : World) : Prop := w.grownBy w' (some B)

section
variable {w w' w'' : World} {A : Option Addr} {n B p : Nat} {l : List ByteArray} {v : Value} {z : Fl Held} {t : Tr}

theorem Turned.refl (B : Nat) (w : World) : Turned B w w := ⟨rfl, rfl, rfl, Nat.le_refl _, fun _ _ _ => rfl⟩
theorem Later.turned (h : Later w w') (B : Nat) : Turned B w w' := ⟨h.os, h.tape, h.output, h.size, fun i hi _ => h.block i hi⟩
theorem Turned.trans (h : Turned B w w') (k : Turned B w' w'') : Turned B w w'' :=
  ⟨k.os.trans h.os, k.tape.trans h.tape, k.output.trans h.output, Nat.le_trans h.size k.size, fun i hi hne => (k.block i (Nat.lt_of_lt_of_le hi h.size) hne).trans (h.block i hi hne)⟩
/-- A block that was not there at w has turned: of what was there nothing has. -/
theorem Later.turn (h : Later w w') (k : Turned B w' w'') (hB : w.heap.size ≤ B) : Later w w'' :=
  ⟨k.os.trans h.os, k.tape.trans h.tape, k.output.trans h.output, Nat.le_trans h.size k.size, fun i hi => (k.block i (Nat.lt_of_lt_of_le hi h.size) (fun e => by cases e; omega)).trans (h.block i hi)⟩
theorem Turned.le (h : Turned B w w') : w.heap.size ≤ w'.heap.size := h.size
theorem Turned.cell (h : Turned B w w') {a : Addr} {u : Value} (hc : w.cell? a = some u) (hne : a.block ≠ B) : w'.cell? a = some u :=
  (World.cell?_of_block (h.block a.block (lt_of_cell hc) (fun e => hne (by cases e; rfl)))).trans hc
theorem Turned.of_map (h : w.mapTurned w' B) : Turned B w w' := h.grown

theorem not_map {es : Array MapEntry} {c : Nat} {a : Addr} {u : Value} (hm : w.heap[B]? = some (.map es c)) (hc : w.cell? a = some u) : a.block ≠ B := by
  rintro rfl
  simp [World.cell?, hm] at hc

theorem Row.turned (h : Row w A n l) (hg : Turned B w w') {es : Array MapEntry} {c : Nat} (hm : w.heap[B]? = some (.map es c)) : Row w' A n l :=
  ⟨h.1, fun hn => by
    obtain ⟨b, o, e, hc⟩ := h.2 hn
    exact ⟨b, o, e, fun j s hs => hg.cell (hc j s hs) (not_map hm (hc j s hs))⟩⟩
theorem Reads.later (h : Reads w v l) (hl : Later w w') : Reads w' v l := by
  obtain ⟨A, n, c, rfl, hc, hr⟩ := h; exact ⟨A, n, c, rfl, hc, hr.later hl⟩
theorem Reads.turned (h : Reads w v l) (hg : Turned B w w') {es : Array MapEntry} {c : Nat} (hm : w.heap[B]? = some (.map es c)) : Reads w' v l := by
  obtain ⟨A, n, c, rfl, hc, hr⟩ := h; exact ⟨A, n, c, rfl, hc, hr.turned hg hm⟩
theorem Reads.nil (w : World) : Reads w (.slice none 0 0) [] := ⟨none, 0, 0, rfl, Nat.le_refl _, Row.none⟩

theorem FA.map (h : FA w B z) : ∃ es c, w.heap[B]? = some (.map es c) := by
  obtain ⟨es, c, hb, _⟩ := h.own; exact ⟨es, c, hb⟩
theorem FA.lt (h : FA w B z) : B < w.heap.size := h.own.lt
theorem FA.later (h : FA w B z) (hl : Later w w') : FA w' B z :=
  ⟨h.own.kept (row := none) ⟨hl.os, hl.tape, hl.output, hl.size, fun i hi _ => hl.block i hi⟩ (by simp), h.rise, fun f hf => (h.reads f hf).later hl⟩
/-- Another map has turned. -/
theorem FA.other {B' : Nat} (h : FA w B z) (hg : Turned B' w w') (hne : B ≠ B') {es : Array MapEntry} {c : Nat} (hm : w.heap[B']? = some (.map es c)) : FA w' B z :=
  ⟨h.own.kept hg (by simpa using hne), h.rise, fun f hf => (h.reads f hf).turned hg hm⟩
theorem FA.put (h : FA w B z) {k : Nat} {nm : ByteArray} (hw : w'.ownsMap Tryz.prog 9 raw B k ((datum (mapT (·.1) z)).put (.string (bytes nm)) (.held v))) (ht : w.mapTurned w' B) (hr : Reads w v l) : FA w' B (withT z nm (v, l)) := by
  have e : (datum (mapT (·.1) z)).put (.string (bytes nm)) (.held v) = datum (mapT (·.1) (withT z nm (v, l))) := by
    rw [put_datum (rising_map.2 h.rise), ← withT_map (fun x : Held => x.1)]
  obtain ⟨es, c, hm⟩ := h.map
  have hg := Turned.of_map ht
  refine ⟨?_, rising_with h.rise _ _, fun f hf => ?_⟩
  · have := own_tight hw
    rw [e, size_datum, mapT_length] at this
    exact this
  · rcases mem_with.1 hf with rfl | hf
    · exact hr.turned hg hm
    · exact (h.reads f hf.1).turned hg hm
theorem FA.del (h : FA w B z) {k : Nat} {nm : ByteArray} (hw : w'.ownsMap Tryz.prog 9 raw B k ((datum (mapT (·.1) z)).del (.string (bytes nm)))) (ht : w.mapTurned w' B) : FA w' B (withoutT z nm) := by
  obtain ⟨es, c, hm⟩ := h.map
  have hg := Turned.of_map ht
  refine ⟨?_, rising_without h.rise _, fun f hf => (h.reads f (mem_without.1 hf).1).turned hg hm⟩
  have := own_tight hw
  rw [del_datum, withoutT_map, size_datum, mapT_length] at this
  exact this
/-- A new map. -/
theorem FA.made (w : World) : FA (w.alloc (.map #[] 0)) w.heap.size [] := ⟨World.ownsMap_made w _ _ _, rising_nil, fun f hf => by cases hf⟩

theorem FilesAt.later (h : FilesAt w B t) (hl : Later w w') : FilesAt w' B t := by obtain ⟨z, h, rfl⟩ := h; exact ⟨z, h.later hl, rfl⟩
theorem FilesAt.lt (h : FilesAt w B t) : B < w.heap.size := by obtain ⟨z, h, _⟩ := h; exact h.lt
theorem FilesAt.map (h : FilesAt w B t) : ∃ es c, w.heap[B]? = some (.map es c) := by obtain ⟨z, h, _⟩ := h; exact h.map
theorem FilesAt.rise (h : FilesAt w B t) : Rising t := by obtain ⟨z, h, rfl⟩ := h; exact rising_map.2 h.rise
theorem FilesAt.other {B' : Nat} (h : FilesAt w B t) (hg : Turned B' w w') (hne : B ≠ B') {es : Array MapEntry} {c : Nat} (hm : w.heap[B']? = some (.map es c)) : FilesAt w' B t := by
  obtain ⟨z, h, rfl⟩ := h; exact ⟨z, h.other hg hne hm, rfl⟩
theorem TreeAt.later (h : TreeAt w p B t) (hl : Later w w') : TreeAt w' p B t := ⟨hl.cell h.cell, h.files.later hl⟩
theorem TreeAt.ne (h : TreeAt w p B t) : p ≠ B := by
  obtain ⟨es, c, hm⟩ := h.files.map
  exact not_map hm h.cell
theorem TreeAt.lt (h : TreeAt w p B t) : p < w.heap.size := lt_of_cell h.cell
/-- The tree's own map has turned, to other files. -/
theorem TreeAt.to {t' : Tr} (h : TreeAt w p B t) (hg : Turned B w w') (hf : FilesAt w' B t') : TreeAt w' p B t' := ⟨hg.cell h.cell h.ne, hf⟩
theorem TreeAt.other {B' : Nat} (h : TreeAt w p B t) (hg : Turned B' w w') (hne : B ≠ B') {es : Array MapEntry} {c : Nat} (hm : w.heap[B']? = some (.map es c)) : TreeAt w' p B t :=
  ⟨hg.cell h.cell (not_map hm h.cell), h.files.other hg hne hm⟩
end

theorem keyed9 : Keyed Tryz.prog 9 := string_keyed Tryz.underlying9
theorem key9 {s : ByteArray} (h : s.size ≤ maxLen) : keyOf Tryz.prog 9 (.string s) = some (.string (bytes s)) := WideMaps.keyOf_string_mk Tryz.underlying9 h

theorem zero29 (w : World) : (zeroValue 45).run Tryz.prog w = .ok (.slice none 0 0) w := by kernel_rfl

/-- A look-up of a file that is there. -/
theorem FA.look_yes {w : World} {B : Nat} {z : Fl Held} (h : FA w B z) {nm : ByteArray} (hs : nm.size ≤ maxLen) {x : Held} (hx : getT z nm = some x) :
    (Instr.lookup 73 (.map (some B)) (.string nm) true).run Tryz.prog w = .ok (.tuple #[x.1, .bool true]) w := by
  obtain ⟨v, ps, hrun, hv⟩ := h.own.look_ok keyed9 Tryz.underlying73 (zero29 w) (raw_mk none 0 0) (key9 hs)
  rw [atKey_datum, getT_map, hx] at hv
  rw [has_datum, hasT_map, getT_has hx] at hrun
  obtain ⟨A, n, c, rfl, hy⟩ := raw_inv hv
  simp only [Option.map_some, Prod.mk.injEq, DataW.held.injEq] at hy
  rw [hrun, ← hy.1]
/-- A look-up of a file that is not. -/
theorem FA.look_no {w : World} {B : Nat} {z : Fl Held} (h : FA w B z) {nm : ByteArray} (hs : nm.size ≤ maxLen) (hx : getT z nm = none) :
    (Instr.lookup 73 (.map (some B)) (.string nm) true).run Tryz.prog w = .ok (.tuple #[.slice none 0 0, .bool false]) w := by
  obtain ⟨v, ps, hrun, hv⟩ := h.own.look_ok keyed9 Tryz.underlying73 (zero29 w) (raw_mk none 0 0) (key9 hs)
  rw [atKey_datum, getT_map, hx] at hv
  rw [has_datum, hasT_map, hasT_no.2 (getT_none.1 hx)] at hrun
  obtain ⟨A, n, c, rfl, hy⟩ := raw_inv hv
  simp only [Option.map_none, Prod.mk.injEq, DataW.held.injEq] at hy
  rw [hrun, ← hy.1]
/-- What is there reads as its lines. -/
theorem FA.get {w : World} {B : Nat} {z : Fl Held} (h : FA w B z) {nm : ByteArray} {x : Held} (hx : getT z nm = some x) : Reads w x.1 x.2 := h.reads _ (getT_mem hx)

end Go.Proofs.YtbhnbkcokhfopaaGreat

/-
  A cell that is written: what stands, and what has turned.
-/
namespace Go.Proofs.YtbhnbkcokhfopaaGreat
open Go.RowKit Go.Maps

/-- The first line of an own row: its cell may be written. -/
theorem Own.first {w0 w : World} {v : Value} {l : List ByteArray} (h : Own 9 w0 w v l) (h1 : 1 ≤ l.length) :
    ∃ g cap cur, v = .slice (some ⟨g, 0, none⟩) l.length cap ∧ l.length ≤ cap ∧ w0.heap.size ≤ g ∧ w.heap[g]? = some (.cells cur 9 (0, 0)) ∧ w.cell? ⟨g, 0, none⟩ = some (.string (l.getD 0 ByteArray.empty)) := by
  rcases h.1.2 with ⟨_, h0⟩ | ⟨g, cap, cur, hv, hg, hh, hnc, hm, hs, ht⟩
  · omega
  · refine ⟨g, cap, cur, hv, hnc, hg, hh, ?_⟩
    obtain ⟨A, c, hv2, _, hr⟩ := h.row
    rw [hv] at hv2
    simp only [Value.slice.injEq] at hv2
    obtain ⟨rfl, -, -⟩ := hv2
    obtain ⟨b, o, e, hc⟩ := hr.get (k := 0) (by omega)
    simp only [Option.some.injEq, Addr.mk.injEq] at e
    obtain ⟨rfl, rfl, -⟩ := e
    exact hc
theorem frozen_no {w : World} {g : Nat} {cur : Array Value} {t : TypeId} (h : w.heap[g]? = some (.cells cur t (0, 0))) (i : Nat) : w.frozen? ⟨g, i, none⟩ = false := by
  simp [World.frozen?, h]
theorem turned_set (w : World) (g i : Nat) (u : Value) : Turned g w (w.setCell ⟨g, i, none⟩ u) :=
  ⟨rfl, rfl, rfl, by simp, fun k _ hne => RowKit.Below.heap_setCell _ _ _ _ (fun e => hne (by rw [e]))⟩
/-- A block that was not there has turned, behind block B. -/
theorem Turned.more {B g : Nat} {w w' w'' : World} (h : Turned B w w') (k : Turned g w' w'') (hg : w.heap.size ≤ g) : Turned B w w'' :=
  ⟨k.os.trans h.os, k.tape.trans h.tape, k.output.trans h.output, Nat.le_trans h.size k.size, fun i hi hne => (k.block i (Nat.lt_of_lt_of_le hi h.size) (fun e => by cases e; omega)).trans (h.block i hi hne)⟩
theorem right_size {l : List ByteArray} (h : allB l = true) {s : ByteArray} (hs : s ∈ l) : s.size ≤ 60 := by
  have := List.all_eq_true.1 h s hs
  simp only [rightB, Bool.and_eq_true, decide_eq_true_eq] at this
  exact this.1
theorem reads_lt {w : World} {v : Value} {l : List ByteArray} (h : Reads w v l) (h1 : l ≠ []) : ∀ k, v.ownBlock = some k → k < w.heap.size := by
  obtain ⟨A, n, c, rfl, _, hr⟩ := h
  intro k hk
  have hn : 0 < n := by
    rcases Nat.eq_zero_or_pos n with h0 | h0
    · exact absurd (List.eq_nil_of_length_eq_zero (hr.len.trans h0)) h1
    · exact h0
  obtain ⟨b, o, rfl, hc⟩ := hr.get hn
  simp only [Value.ownBlock, Option.some.injEq] at hk
  rw [← hk]
  exact lt_of_cell hc

/-- Another block has turned: an own row stands. -/
theorem Own.other {e : TypeId} {w0 w w' : World} {v : Value} {ss : List ByteArray} {g : Nat} (h : Own e w0 w v ss) (hg : Turned g w w') (hv : v.ownBlock ≠ some g) (hl : Later w0 w') : Own e w0 w' v ss :=
  ⟨h.1.kept hg (.inr hv), hl⟩

end Go.Proofs.YtbhnbkcokhfopaaGreat

/-
  What prim's Clone comes to, as a call.
-/
namespace Go.Proofs.YtbhnbkcokhfopaaGreat
open Go.RowKit

/-- Block g is made of these cells. -/
def BoxAt (w : World) (g : Nat) (cs : Array Value) (t : TypeId) : Prop := w.heap[g]? = some (.cells cs t (0, 0))
section
variable {w w' : World} {g : Nat} {cs : Array Value} {t : TypeId}
theorem BoxAt.lt (h : BoxAt w g cs t) : g < w.heap.size := (Array.getElem?_eq_some_iff.1 h).1
theorem BoxAt.later (h : BoxAt w g cs t) (hl : Later w w') : BoxAt w' g cs t := (hl.block g h.lt).trans h
theorem BoxAt.other {b : Nat} (h : BoxAt w g cs t) (hg : Turned b w w') (hne : g ≠ b) : BoxAt w' g cs t := (hg.block g h.lt (by simpa using hne)).trans h
theorem BoxAt.cell (h : BoxAt w g cs t) {i : Nat} {v : Value} (hv : cs[i]? = some v) : w.cell? ⟨g, i, none⟩ = some v := by
  unfold BoxAt at h
  simp only [World.cell?, h]
  exact hv
theorem BoxAt.frozen (h : BoxAt w g cs t) (i : Nat) : w.frozen? ⟨g, i, none⟩ = false := frozen_no h i
theorem BoxAt.made (w : World) (cs : Array Value) (t : TypeId) : BoxAt (w.alloc (.cells cs t)) w.heap.size cs t := heap_alloc_new w _
theorem BoxAt.set (h : BoxAt w g cs t) (i : Nat) (v : Value) : BoxAt (w.setCell ⟨g, i, none⟩ v) g (cs.setIfInBounds i v) t := heap_setCell_same w g i cs t v h
theorem BoxAt.alloc (h : BoxAt w g cs t) (o : Obj) : BoxAt (w.alloc o) g cs t := h.later ((Later.refl w).alloc o)
/-- Six cells, written one behind the other. -/
theorem BoxAt.set6 {x0 x1 x2 x3 x4 x5 : Value} (h : BoxAt w g #[x0, x1, x2, x3, x4, x5] t) (v0 v1 v2 v3 v4 v5 : Value) : BoxAt ((((((w.setCell ⟨g, 0, none⟩ v0).setCell ⟨g, 1, none⟩ v1).setCell ⟨g, 2, none⟩ v2).setCell ⟨g, 3, none⟩ v3).setCell ⟨g, 4, none⟩ v4).setCell ⟨g, 5, none⟩ v5) g #[v0, v1, v2, v3, v4, v5] t :=
  (((((h.set 0 v0).set 1 v1).set 2 v2).set 3 v3).set 4 v4).set 5 v5
theorem turned_set6 (w : World) (g : Nat) (v0 v1 v2 v3 v4 v5 : Value) : Turned g w ((((((w.setCell ⟨g, 0, none⟩ v0).setCell ⟨g, 1, none⟩ v1).setCell ⟨g, 2, none⟩ v2).setCell ⟨g, 3, none⟩ v3).setCell ⟨g, 4, none⟩ v4).setCell ⟨g, 5, none⟩ v5) :=
  (((((turned_set w g 0 v0).trans (turned_set _ g 1 v1)).trans (turned_set _ g 2 v2)).trans (turned_set _ g 3 v3)).trans (turned_set _ g 4 v4)).trans (turned_set _ g 5 v5)
end
theorem Tryz.primSize : (Tryz.prog.info? 53).map (·.size) = some 6 := by kernel_rfl

set_option maxRecDepth 100000 in
set_option maxHeartbeats 800000 in
theorem primClone_any (x : PrC) (w : World) (hx : PrOk w x) :
    Calls Tryz.prog 40 #[prV x] w (GivesPr x.v w) := by
  obtain ⟨⟨kd, nm, to, pl, old, new⟩, A, n, c, B, m, d⟩ := x
  unfold prV
  dsimp only
  have HX := Lib.hid hx
  clear hx
  go_enter Tryz.func40, Tryz.ntmps40
  go_wp2_with fail
  have hb0 : BoxAt ((w.alloc (.cells #[.int .i64 kd, .string nm, .string to, .int .i64 pl, .slice A n c, .slice B m d] 53)).alloc (.cells #[.int .i64 0, .string ⟨#[]⟩, .string ⟨#[]⟩, .int .i64 0, .slice none 0 0, .slice none 0 0] 53)) w.heap.size #[.int .i64 kd, .string nm, .string to, .int .i64 pl, .slice A n c, .slice B m d] 53 := (BoxAt.made w _ _).alloc _
  have hb1 : BoxAt ((w.alloc (.cells #[.int .i64 kd, .string nm, .string to, .int .i64 pl, .slice A n c, .slice B m d] 53)).alloc (.cells #[.int .i64 0, .string ⟨#[]⟩, .string ⟨#[]⟩, .int .i64 0, .slice none 0 0, .slice none 0 0] 53)) (w.heap.size + 1) #[.int .i64 0, .string ⟨#[]⟩, .string ⟨#[]⟩, .int .i64 0, .slice none 0 0, .slice none 0 0] 53 := by
    have := BoxAt.made (w.alloc (.cells #[.int .i64 kd, .string nm, .string to, .int .i64 pl, .slice A n c, .slice B m d] 53)) #[.int .i64 0, .string ⟨#[]⟩, .string ⟨#[]⟩, .int .i64 0, .slice none 0 0, .slice none 0 0] 53
    simpa using this
  have hlb : Later w ((w.alloc (.cells #[.int .i64 kd, .string nm, .string to, .int .i64 pl, .slice A n c, .slice B m d] 53)).alloc (.cells #[.int .i64 0, .string ⟨#[]⟩, .string ⟨#[]⟩, .int .i64 0, .slice none 0 0, .slice none 0 0] 53)) := ((Later.refl w).alloc _).alloc _
  generalize (w.alloc (.cells #[.int .i64 kd, .string nm, .string to, .int .i64 pl, .slice A n c, .slice B m d] 53)).alloc (.cells #[.int .i64 0, .string ⟨#[]⟩, .string ⟨#[]⟩, .int .i64 0, .slice none 0 0, .slice none 0 0] 53) = wb at hb0 hb1 hlb ⊢
  have hlt := hb1.lt
  refine (clone_any A n c old wb (HX.out.old.later hlb) HX.out.omost).mono ?_
  rintro e w1 ⟨u, rfl, hu⟩
  obtain ⟨A1, c1, hv1, hcc1, hr1⟩ := hu.row
  subst hv1
  have b0 := hb0.later hu.later
  have c4 := b0.cell (i := 4) rfl
  have f4 := b0.frozen 4
  have b0' := b0.set 4 (.slice A1 old.length c1)
  have c5 := b0'.cell (i := 5) rfl
  have f5 := b0'.frozen 5
  have HB0 := Lib.hid b0'
  have HB1 := Lib.hid ((hb1.later hu.later).other (turned_set w1 w.heap.size 4 (.slice A1 old.length c1)) (by omega))
  have hle := hu.later.le
  have HL1 := Lib.hid ((hlb.trans hu.later).turn (turned_set w1 w.heap.size 4 (.slice A1 old.length c1)) (Nat.le_refl _))
  have HU := Lib.hid (hu.base hlb)
  have HU1 : Hid (Own 9 w (w1.setCell ⟨w.heap.size, 4, none⟩ (.slice A1 old.length c1)) (.slice A1 old.length c1) old) := (HU.out).other (turned_set w1 w.heap.size 4 (.slice A1 old.length c1)) (fun e => by have := hu.block _ e; omega) HL1.out
  have HUB : Hid (∀ b, (Value.slice A1 old.length c1).ownBlock = some b → wb.heap.size ≤ b) := hu.block
  clear hb0 hb1 hu b0 b0' hr1 hcc1
  go_wp2_with fail
  generalize w1.setCell ⟨w.heap.size, 4, none⟩ (.slice A1 old.length c1) = w2 at HB0 HB1 HL1 HU1 c5 f5 ⊢
  clear c4 f4 HU
  refine (clone_any B m d new w2 (HX.out.new.later HL1.out) HX.out.nmost).mono ?_
  rintro e w3 ⟨u2, rfl, hu2⟩
  obtain ⟨A3, c3, hv3, hcc3, hr3⟩ := hu2.row
  subst hv3
  have b0 := HB0.out.later hu2.later
  have b1 := HB1.out.later hu2.later
  have e5 := b0.cell (i := 5) rfl
  have g5 := b0.frozen 5
  have hlt2 := HB1.out.lt
  have d0 := b0.set 5 (.slice A3 new.length c3)
  have d1 := b1.other (turned_set w3 w.heap.size 5 (.slice A3 new.length c3)) (by omega)
  have HL4 := Lib.hid ((HL1.out.trans hu2.later).turn (turned_set w3 w.heap.size 5 (.slice A3 new.length c3)) (Nat.le_refl _))
  have HU4 : Hid (Own 9 w (w3.setCell ⟨w.heap.size, 5, none⟩ (.slice A3 new.length c3)) (.slice A1 old.length c1) old) := (HU1.out.on hu2.later).other (turned_set w3 w.heap.size 5 (.slice A3 new.length c3)) (fun e => by have := HUB.out _ e; omega) HL4.out
  have HV4 : Hid (Own 9 w (w3.setCell ⟨w.heap.size, 5, none⟩ (.slice A3 new.length c3)) (.slice A3 new.length c3) new) := (hu2.base HL1.out).other (turned_set w3 w.heap.size 5 (.slice A3 new.length c3)) (fun e => by have := hu2.block _ e; omega) HL4.out
  have HVB : Hid (∀ b, (Value.slice A3 new.length c3).ownBlock = some b → w2.heap.size ≤ b) := hu2.block
  have HUL : Hid (∀ b, (Value.slice A1 old.length c1).ownBlock = some b → b < w2.heap.size) := fun b hb => HU1.out.lt hb
  clear hu2 b0 b1 c5 f5
  have x0 := d0.cell (i := 0) rfl; have x1 := d0.cell (i := 1) rfl; have x2 := d0.cell (i := 2) rfl; have x3 := d0.cell (i := 3) rfl; have x4 := d0.cell (i := 4) rfl; have x5 := d0.cell (i := 5) rfl
  have y0 := d1.cell (i := 0) rfl; have y1 := d1.cell (i := 1) rfl; have y2 := d1.cell (i := 2) rfl; have y3 := d1.cell (i := 3) rfl; have y4 := d1.cell (i := 4) rfl; have y5 := d1.cell (i := 5) rfl
  have z0 := d1.frozen 0; have z1 := d1.frozen 1; have z2 := d1.frozen 2; have z3 := d1.frozen 3; have z4 := d1.frozen 4; have z5 := d1.frozen 5
  have HD1 := Lib.hid d1
  clear d0 d1
  go_wp2
  have hset := turned_set6 (w3.setCell ⟨w.heap.size, 5, none⟩ (.slice A3 new.length c3)) (w.heap.size + 1) (.int .i64 kd) (.string nm) (.string to) (.int .i64 pl) (.slice A1 old.length c1) (.slice A3 new.length c3)
  have hlw := HL4.out.turn hset (by omega)
  refine bodyPost_ret (results_cell_row rfl _ _ (w.heap.size + 1) 53 _ (0, 0) _ rfl (HD1.out.set6 (.int .i64 kd) (.string nm) (.string to) (.int .i64 pl) (.slice A1 old.length c1) (.slice A3 new.length c3)) Tryz.underlying53 rfl Tryz.primSize) rfl ?_
  refine ⟨(.slice A1 old.length c1), (.slice A3 new.length c3), rfl, HU4.out.other hset (fun e => ?_) hlw, HV4.out.other hset (fun e => ?_) hlw, fun b h1 h2 => ?_⟩
  · have := HUB.out _ e; omega
  · have := HVB.out _ e; omega
  · have := HUL.out _ h1
    have := HVB.out _ h2
    omega

end Go.Proofs.YtbhnbkcokhfopaaGreat

/-
  Two prims in the other order, as plain values: when they have one, and what follows of it. Nothing of any program.
-/
namespace Go.Proofs.YtbhnbkcokhfopaaGreat
open Go.RowKit

def placed (p : Pr) (k : Int) : Pr := { p with place := k }
def inFile (p : Pr) (n : ByteArray) : Pr := { p with name := n }
/-- Do two name one file? -/
def commonP (p q : Pr) : Bool := (namesP p).any fun a => (namesP q).any fun b => decide (a = b)

/-- P4.1, of two that are right. -/
def twoP (p q : Pr) : Pr × Pr × Bool :=
  if p.kind = 0 ∧ q.kind = 0 ∧ p.name = q.name then
    (if q.place > p.place + p.new.length then (placed q (q.place - p.new.length + p.old.length), p, true)
    else if q.place + q.old.length < p.place then (q, placed p (p.place + q.new.length - q.old.length), true)
    else (p, q, false))
  else if p.kind = 0 ∧ q.kind = 3 ∧ p.name = q.name then (q, inFile p q.to, true)
  else if p.kind = 3 ∧ q.kind = 0 ∧ p.to = q.name then (inFile q p.name, p, true)
  else if p.kind = 0 ∧ q.kind = 0 then (q, p, true)
  else (q, p, !commonP p q)

/-- P4.1: first and second, or none. -/
def swapP (p q : Pr) : Option (Pr × Pr) :=
  if rightP p = true ∧ rightP q = true ∧ (twoP p q).2.2 = true ∧ rightP (twoP p q).1 = true ∧ rightP (twoP p q).2.1 = true then some ((twoP p q).1, (twoP p q).2.1) else none

/-- The name behind x of a file; the name ahead of x. -/
def fwdN (x : Pr) (n : ByteArray) : Option ByteArray := if x.kind = 3 then (if n = x.name then some x.to else if n = x.to then none else some n) else if n = x.name then none else some n
def bwdN (x : Pr) (n : ByteArray) : Option ByteArray := if x.kind = 3 then (if n = x.to then some x.name else if n = x.name then none else some n) else if n = x.name then none else some n

theorem mem_names {p : Pr} {n : ByteArray} : n ∈ namesP p ↔ n = p.name ∨ p.kind = 3 ∧ n = p.to := by
  unfold namesP
  by_cases h : p.kind = 3
  · simp only [h, ne_eq, not_true, if_false, true_and]
    split
    · simp
    · simp [or_comm]
  · simp [h]
theorem common_iff {p q : Pr} : commonP p q = true ↔ ∃ n, n ∈ namesP p ∧ n ∈ namesP q := by
  simp only [commonP, List.any_eq_true, decide_eq_true_eq]
  constructor
  · rintro ⟨a, ha, b, hb, rfl⟩; exact ⟨a, ha, hb⟩
  · rintro ⟨a, ha, hb⟩; exact ⟨a, ha, a, hb, rfl⟩
theorem common_comm (p q : Pr) : commonP p q = commonP q p := by
  rw [Bool.eq_iff_iff, common_iff, common_iff]
  exact ⟨fun ⟨n, a, b⟩ => ⟨n, b, a⟩, fun ⟨n, a, b⟩ => ⟨n, b, a⟩⟩
theorem common_no {p q : Pr} : commonP p q = false ↔ ∀ n, n ∈ namesP p → n ∉ namesP q := by
  rw [← Bool.not_eq_true, common_iff]
  exact ⟨fun h n a b => h ⟨n, a, b⟩, fun h ⟨n, a, b⟩ => h n a b⟩

/-- A right Move goes elsewhere. -/
theorem move_else {x : Pr} (hr : rightP x = true) (e : x.kind = 3) : x.to ≠ x.name := ((right_parts hr).2.2.2.2.2 e).2
theorem fwd_bwd {x : Pr} (hr : rightP x = true) {n m : ByteArray} : fwdN x n = some m ↔ bwdN x m = some n := by
  unfold fwdN bwdN
  by_cases h : x.kind = 3
  · have hne := move_else hr h
    simp only [h, if_true]
    constructor
    · split
      · rintro ⟨⟩; rename_i e; subst e; simp
      · split
        · rintro ⟨⟩
        · rintro ⟨⟩; rename_i h1 h2; rw [if_neg h2, if_neg h1]
    · split
      · rintro ⟨⟩; rename_i e; subst e; simp
      · split
        · rintro ⟨⟩
        · rintro ⟨⟩; rename_i h1 h2; rw [if_neg h2, if_neg h1]
  · simp only [h, if_false]
    constructor
    · split
      · rintro ⟨⟩
      · rintro ⟨⟩; rename_i h1; rw [if_neg h1]
    · split
      · rintro ⟨⟩
      · rintro ⟨⟩; rename_i h1; rw [if_neg h1]

theorem named_fwd {x : Pr} (hr : rightP x = true) {n m : ByteArray} (hn : namedB n = true) (h : fwdN x n = some m) : namedB m = true := by
  unfold fwdN at h
  split at h
  · rename_i e
    split at h
    · cases h; exact ((right_parts hr).2.2.2.2.2 e).1
    · split at h
      · cases h
      · cases h; exact hn
  · split at h
    · cases h
    · cases h; exact hn
theorem named_bwd {x : Pr} (hr : rightP x = true) {n m : ByteArray} (hn : namedB n = true) (h : bwdN x n = some m) : namedB m = true := by
  unfold bwdN at h
  split at h
  · split at h
    · cases h; exact (right_parts hr).1
    · split at h
      · cases h
      · cases h; exact hn
  · split at h
    · cases h
    · cases h; exact hn

/-- A Hunk in another file, or at another place, is right just if the name, or the place, is. -/
theorem right_inFile {p : Pr} (h0 : p.kind = 0) (hr : rightP p = true) {n : ByteArray} (hn : namedB n = true) : rightP (inFile p n) = true := by
  simp only [rightP, inFile, h0, if_true, Bool.and_eq_true] at hr ⊢
  exact ⟨hn, hr.2⟩
theorem right_placed {p : Pr} (h0 : p.kind = 0) (hr : rightP p = true) {k : Int} (hk : 0 ≤ k) : rightP (placed p k) = decide (k ≤ 1048576) := by
  simp only [rightP, placed, h0, if_true, Bool.and_eq_true] at hr ⊢
  obtain ⟨h1, ⟨⟨⟨h2, h3⟩, h4⟩, h5⟩, h6⟩ := hr
  rw [h1, h2, h4, h5, h6]
  simp [hk]
theorem place_in {p : Pr} (hr : rightP p = true) (h0 : p.kind = 0) : 0 ≤ p.place ∧ p.place ≤ 1048576 := (right_parts hr).2.2.2.2.1 h0

section
variable {p q : Pr}
/-- Two Hunks. -/
def swapHH (p q : Pr) : Option (Pr × Pr) :=
  if p.name = q.name then
    (if q.place > p.place + p.new.length then (if q.place - p.new.length + p.old.length ≤ 1048576 then some (placed q (q.place - p.new.length + p.old.length), p) else none)
    else if q.place + q.old.length < p.place then (if p.place + q.new.length - q.old.length ≤ 1048576 then some (q, placed p (p.place + q.new.length - q.old.length)) else none)
    else none)
  else some (q, p)
theorem swap_HH (hp : rightP p = true) (hq : rightP q = true) (h : p.kind = 0) (k : q.kind = 0) : swapP p q = swapHH p q := by
  have pp := place_in hp h
  have qq := place_in hq k
  simp only [swapP, twoP, swapHH, h, k, true_and, hp, hq]
  by_cases e : p.name = q.name
  · simp only [e, if_true]
    by_cases h1 : q.place > p.place + p.new.length
    · have hk : 0 ≤ q.place - p.new.length + p.old.length := by omega
      simp only [h1, if_true, hp, right_placed k hq hk, decide_eq_true_eq, and_true, true_and]
    · simp only [h1, if_false]
      by_cases h2 : q.place + q.old.length < p.place
      · have hk : 0 ≤ p.place + q.new.length - q.old.length := by omega
        simp only [h2, if_true, hq, right_placed h hp hk, decide_eq_true_eq, true_and]
      · simp [h2]
  · simp [e, hp, hq]
/-- A Hunk, and none. -/
theorem swap_HN (hp : rightP p = true) (hq : rightP q = true) (h : p.kind = 0) (k : q.kind ≠ 0) : swapP p q = (fwdN q p.name).map fun n => (q, inFile p n) := by
  have hn := (right_parts hp).1
  simp only [swapP, twoP, h, k, true_and, false_and, and_false, if_false, hp, hq, Int.reduceEq]
  by_cases k3 : q.kind = 3
  · simp only [k3, true_and, fwdN, if_true]
    by_cases e : p.name = q.name
    · have ht := right_inFile h hp ((right_parts hq).2.2.2.2.2 k3).1
      simp [e, hq, ht]
    · simp only [e, if_false]
      by_cases e2 : p.name = q.to
      · have : commonP p q = true := common_iff.2 ⟨p.name, mem_names.2 (.inl rfl), mem_names.2 (.inr ⟨k3, e2⟩)⟩
        simp [this, e2]
      · have : commonP p q = false := common_no.2 fun n a b => by
          rw [mem_names] at a b
          simp only [h, Int.reduceEq, false_and, or_false] at a
          subst a
          rcases b with b | b
          · exact e b
          · exact e2 b.2
        simp [this, e2, hp, hq, inFile]
  · simp only [k3, false_and, if_false, fwdN]
    by_cases e : p.name = q.name
    · have : commonP p q = true := common_iff.2 ⟨p.name, mem_names.2 (.inl rfl), mem_names.2 (.inl e)⟩
      simp [this, e]
    · have : commonP p q = false := common_no.2 fun n a b => by
        rw [mem_names] at a b
        simp only [h, k3, Int.reduceEq, false_and, or_false] at a b
        exact e (a.symm.trans b)
      simp [this, e, hp, hq, inFile]
/-- None, and a Hunk. -/
theorem swap_NH (hp : rightP p = true) (hq : rightP q = true) (h : p.kind ≠ 0) (k : q.kind = 0) : swapP p q = (bwdN p q.name).map fun n => (inFile q n, p) := by
  simp only [swapP, twoP, h, k, true_and, false_and, if_false, hp, hq]
  by_cases k3 : p.kind = 3
  · simp only [k3, true_and, bwdN, if_true]
    by_cases e : p.to = q.name
    · have ht := right_inFile k hq (right_parts hp).1
      simp [e, hp, ht]
    · have e' : q.name ≠ p.to := fun x => e x.symm
      simp only [e, e', if_false]
      by_cases e2 : q.name = p.name
      · have : commonP p q = true := common_iff.2 ⟨p.name, mem_names.2 (.inl rfl), mem_names.2 (.inl e2.symm)⟩
        simp [this, e2]
      · have : commonP p q = false := common_no.2 fun n a b => by
          rw [mem_names] at a b
          simp only [k, Int.reduceEq, false_and, or_false] at b
          subst b
          rcases a with a | a
          · exact e2 a
          · exact e' a.2
        simp [this, e2, hp, hq, inFile]
  · simp only [k3, false_and, if_false, bwdN]
    by_cases e : q.name = p.name
    · have : commonP p q = true := common_iff.2 ⟨p.name, mem_names.2 (.inl rfl), mem_names.2 (.inl e.symm)⟩
      simp [this, e]
    · have : commonP p q = false := common_no.2 fun n a b => by
        rw [mem_names] at a b
        simp only [k, k3, Int.reduceEq, false_and, or_false] at a b
        exact e (b.symm.trans a)
      simp [this, e, hp, hq, inFile]
/-- No Hunk of both. -/
theorem swap_NN (hp : rightP p = true) (hq : rightP q = true) (h : p.kind ≠ 0) (k : q.kind ≠ 0) : swapP p q = if commonP p q = true then none else some (q, p) := by
  simp only [swapP, twoP, h, k, and_false, false_and, if_false, hp, hq, true_and, and_true]
  cases commonP p q <;> simp
theorem swap_right {a b : Pr} (h : swapP p q = some (a, b)) : rightP p = true ∧ rightP q = true ∧ rightP a = true ∧ rightP b = true := by
  simp only [swapP] at h
  split at h
  · rename_i hc
    cases h
    exact ⟨hc.1, hc.2.1, hc.2.2.2.1, hc.2.2.2.2⟩
  · cases h
end

end Go.Proofs.YtbhnbkcokhfopaaGreat
