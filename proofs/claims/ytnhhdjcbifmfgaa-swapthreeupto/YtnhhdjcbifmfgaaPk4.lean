import Derived.Test.YtnhhdjcbifmfgaaProg
import Derived.Test.YtnhhdjcbifmfgaaPk1
import Derived.Test.YtnhhdjcbifmfgaaPk2
import Derived.Maps.OwnSet
import Derived.Maps.RangeWalk
import Derived.Test.YtnhhdjcbifmfgaaPk3
import Derived.Deep.LoopGhost
import Derived.Deep.QuietTactic
import Derived.BigQuiet
import Derived.Lib.Hide
import Derived.Test.YtnhhdjcbifmfgaaChecked
import Derived.Shelf.Strings.Search3

/-
  Trees in memory: a map from names to rows of lines, what it holds, and how it is kept while memory grows.
-/
namespace Go.Proofs.Ytnhhdjcbifmfgaa
open Go.RowKit Go.Maps

/-- How a file's lines read: as the slice itself. -/
def raw : Value → Option (DataW Value × List MemPlace)
  | .slice A n c => some (.held (.slice A n c), [])
  | _ => none
theorem raw_mk (A : Option Addr) (n c : Nat) : raw (.slice A n c) = some (.held (.slice A n c), []) := rfl
theorem raw_inv {v : Value} {y : DataW Value × List MemPlace} (h : raw v = some y) : ∃ A n c, v = .slice A n c ∧ y = (.held v, []) := by
  cases v <;> simp [raw] at h
  exact ⟨_, _, _, rfl, h.symm⟩

def ent (f : ByteArray × Value) : Lit × DataW Value := (.string (bytes f.1), .held f.2)
/-- What a map of these files reads as. -/
def datum (vs : Fl Value) : DataW Value := .map (vs.map ent)

theorem ent_same (f : ByteArray × Value) (n : ByteArray) : (ent f).1.sameKey (.string (bytes n)) = decide (f.1 = n) := by
  simp only [ent, Lit.sameKey]
  by_cases h : f.1 = n
  · simp [h]
  · simp [h]; exact fun e => h (bytes_inj e)
theorem ent_before (f g : ByteArray × Value) : (ent f).1.before (ent g).1 = ltN f.1 g.1 := rfl

theorem has_datum (vs : Fl Value) (n : ByteArray) : Maps.has (datum vs) (.string (bytes n)) = hasT vs n := by
  rw [Bool.eq_iff_iff, hasT_iff]
  simp only [datum, Maps.has_eq, List.any_map, List.any_eq_true, Function.comp_apply, ent_same, decide_eq_true_eq]
theorem atKey_datum (vs : Fl Value) (n : ByteArray) (z : DataW Value) : (datum vs).atKey (.string (bytes n)) z = match getT vs n with | some v => .held v | none => z := by
  simp only [datum, DataW.atKey, List.find?_map, Function.comp_def, ent_same, getT]
  cases vs.find? fun f => decide (f.1 = n) <;> rfl
theorem size_datum (vs : Fl Value) : Maps.size (datum vs) = vs.length := by simp [datum, Maps.size_eq]
theorem del_datum (vs : Fl Value) (n : ByteArray) : (datum vs).del (.string (bytes n)) = datum (withoutT vs n) := by
  have e : ∀ f : ByteArray × Value, (!decide (f.1 = n)) = decide (f.1 ≠ n) := fun f => by simp
  simp only [datum, DataW.del, withoutT, List.filter_map, Function.comp_def, ent_same, e]
theorem insert_datum (n : ByteArray) (v : Value) : ∀ u : Fl Value, Rising u → (∀ f ∈ u, f.1 ≠ n) →
    DataW.insert (ent (n, v)) (u.map ent) = (u.filter (fun f => ltN f.1 n) ++ (n, v) :: u.filter (fun f => ltN n f.1)).map ent
  | [], _, _ => rfl
  | y :: r, hr, hn => by
    have hy := hn y List.mem_cons_self
    simp only [List.map_cons, DataW.insert]
    have hbf : (ent (n, v)).1.before (ent y).1 = ltN n y.1 := rfl
    by_cases h : ltN n y.1 = true
    · rw [if_pos (hbf.trans h)]
      have h1 : (y :: r).filter (fun f => ltN f.1 n) = [] := List.filter_eq_nil_iff.2 fun f hf => by
        rcases List.mem_cons.1 hf with rfl | hf
        · simp [ltN_asymm h]
        · simp [ltN_asymm (ltN_trans h (rising_head hr hf))]
      have h2 : (y :: r).filter (fun f => ltN n f.1) = y :: r := List.filter_eq_self.2 fun f hf => by
        rcases List.mem_cons.1 hf with rfl | hf
        · exact h
        · exact ltN_trans h (rising_head hr hf)
      rw [h1, h2]; rfl
    · rw [if_neg (fun e => h (hbf.symm.trans e))]
      have hlt : ltN y.1 n = true := (ltN_total hy).resolve_right h
      rw [insert_datum n v r (rising_tail hr) fun f hf => hn f (List.mem_cons_of_mem _ hf)]
      simp only [List.filter_cons, hlt, if_true]
      rw [if_neg h]; rfl
theorem put_datum {vs : Fl Value} (h : Rising vs) (n : ByteArray) (v : Value) : (datum vs).put (.string (bytes n)) (.held v) = datum (withT vs n v) := by
  have e : (vs.map ent).filter (fun p => !p.1.sameKey (.string (bytes n))) = (withoutT vs n).map ent := by
    have e : ∀ f : ByteArray × Value, (!decide (f.1 = n)) = decide (f.1 ≠ n) := fun f => by simp
    simp only [withoutT, List.filter_map, Function.comp_def, ent_same, e]
  simp only [datum, DataW.put, e]
  rw [show ((Lit.string (bytes n), DataW.held v) : Lit × DataW Value) = ent (n, v) from rfl, insert_datum n v _ (rising_without h n) fun f hf => (mem_without.1 hf).2]
  rfl

theorem own_tight {H : Type} {P : Program} {k : TypeId} {R : Value → Option (DataW H × List MemPlace)} {w : World} {b n : Nat} {D : DataW H} (h : w.ownsMap P k R b n D) : w.ownsMap P k R b (Maps.size D) D := by
  obtain ⟨es, clock, hb, F, hs, rfl⟩ := h
  exact ⟨es, clock, hb, F, by simp [Maps.size, length_sorted], rfl⟩

/-- The value is a slice that reads as these lines. -/
def Reads (w : World) (v : Value) (l : List ByteArray) : Prop := ∃ A n c, v = .slice A n c ∧ n ≤ c ∧ Row w A n l

/-- The value's row lies in a block of texts. -/
def Typed (w : World) (v : Value) : Prop := ∀ k, v.ownBlock = some k → ∃ cur, w.heap[k]? = some (.cells cur 9)

/-- A file's value, and its lines. -/
abbrev Held := Value × List ByteArray

/-- Block B is a map of the files z. -/
structure FA (w : World) (B : Nat) (z : Fl Held) : Prop where
  own : w.ownsMap Try.prog 9 raw B z.length (datum (mapT (·.1) z))
  rise : Rising z
  reads : ∀ f ∈ z, Reads w f.2.1 f.2.2
  typed : ∀ f ∈ z, Typed w f.2.1

/-- Block B is a map of the files t. -/
def FilesAt (w : World) (B : Nat) (t : Tr) : Prop := ∃ z, FA w B z ∧ mapT (·.2) z = t

/-- Block p holds the map of block B: a tree of the files t. -/
structure TreeAt (w : World) (p B : Nat) (t : Tr) : Prop where
  cell : w.cell? ⟨p, 0, none⟩ = some (.map (some B))
  files : FilesAt w B t

/-- Nothing has turned but block B. -/
def Turned (B : Nat) (w w' : World) : Prop := w.grownBy w' (some B)

section
variable {w w' w'' : World} {A : Option Addr} {n B p : Nat} {l : List ByteArray} {v : Value} {z : Fl Held} {t : Tr}

theorem Turned.refl (B : Nat) (w : World) : Turned B w w := ⟨rfl, rfl, rfl, Nat.le_refl _, fun _ _ _ => rfl⟩
theorem Later.turned (h : Later w w') (B : Nat) : Turned B w w' := ⟨h.os, h.tape, h.output, h.size, fun i hi _ => h.block i hi⟩
theorem Turned.trans (h : Turned B w w') (k : Turned B w' w'') : Turned B w w'' :=
  ⟨k.os.trans h.os, k.tape.trans h.tape, k.output.trans h.output, Nat.le_trans h.size k.size, fun i hi hne => (k.block i (Nat.lt_of_lt_of_le hi h.size) hne).trans (h.block i hi hne)⟩
/-- A block that was not there at w has turned: of what was there nothing has. -/
theorem Later.turn (h : Later w w') (k : Turned B w' w'') (hB : w.heap.size ≤ B) : Later w w'' :=
  ⟨k.os.trans h.os, k.tape.trans h.tape, k.output.trans h.output, Nat.le_trans h.size k.size, fun i hi => (k.block i (Nat.lt_of_lt_of_le hi h.size) (fun e => by cases e; omega)).trans (h.block i hi)⟩
theorem Turned.le (h : Turned B w w') : w.heap.size ≤ w'.heap.size := h.size
theorem Turned.cell (h : Turned B w w') {a : Addr} {u : Value} (hc : w.cell? a = some u) (hne : a.block ≠ B) : w'.cell? a = some u :=
  (World.cell?_of_block (h.block a.block (lt_of_cell hc) (fun e => hne (by cases e; rfl)))).trans hc
theorem Turned.of_map (h : w.mapTurned w' B) : Turned B w w' := h.grown

theorem not_map {es : Array MapEntry} {c : Nat} {a : Addr} {u : Value} (hm : w.heap[B]? = some (.map es c)) (hc : w.cell? a = some u) : a.block ≠ B := by
  rintro rfl
  simp [World.cell?, hm] at hc

theorem Row.turned (h : Row w A n l) (hg : Turned B w w') {es : Array MapEntry} {c : Nat} (hm : w.heap[B]? = some (.map es c)) : Row w' A n l :=
  ⟨h.1, fun hn => by
    obtain ⟨b, o, e, hc⟩ := h.2 hn
    exact ⟨b, o, e, fun j s hs => hg.cell (hc j s hs) (not_map hm (hc j s hs))⟩⟩
theorem Reads.later (h : Reads w v l) (hl : Later w w') : Reads w' v l := by
  obtain ⟨A, n, c, rfl, hc, hr⟩ := h; exact ⟨A, n, c, rfl, hc, hr.later hl⟩
theorem Reads.turned (h : Reads w v l) (hg : Turned B w w') {es : Array MapEntry} {c : Nat} (hm : w.heap[B]? = some (.map es c)) : Reads w' v l := by
  obtain ⟨A, n, c, rfl, hc, hr⟩ := h; exact ⟨A, n, c, rfl, hc, hr.turned hg hm⟩
theorem Typed.nil (w : World) (n c : Nat) : Typed w (.slice none n c) := fun k h => by cases h
theorem Typed.later (h : Typed w v) (hl : Later w w') : Typed w' v := fun k hk => by
  obtain ⟨cur, hc⟩ := h k hk
  exact ⟨cur, (hl.block k (Array.getElem?_eq_some_iff.1 hc).1).trans hc⟩
theorem Typed.off (h : Typed w v) (hg : Turned B w w') (hB : ∀ cur, w.heap[B]? ≠ some (.cells cur 9)) : Typed w' v := fun k hk => by
  obtain ⟨cur, hc⟩ := h k hk
  refine ⟨cur, (hg.block k (Array.getElem?_eq_some_iff.1 hc).1 (fun e => ?_)).trans hc⟩
  cases e
  exact hB cur hc
theorem Typed.turned (h : Typed w v) (hg : Turned B w w') {es : Array MapEntry} {c : Nat} (hm : w.heap[B]? = some (.map es c)) : Typed w' v := h.off hg (fun cur e => by rw [hm] at e; cases e)
theorem Reads.nil (w : World) : Reads w (.slice none 0 0) [] := ⟨none, 0, 0, rfl, Nat.le_refl _, Row.none⟩

theorem FA.map (h : FA w B z) : ∃ es c, w.heap[B]? = some (.map es c) := by
  obtain ⟨es, c, hb, _⟩ := h.own; exact ⟨es, c, hb⟩
theorem FA.lt (h : FA w B z) : B < w.heap.size := h.own.lt
theorem FA.later (h : FA w B z) (hl : Later w w') : FA w' B z :=
  ⟨h.own.kept (row := none) ⟨hl.os, hl.tape, hl.output, hl.size, fun i hi _ => hl.block i hi⟩ (by simp), h.rise, (fun f hf => (h.reads f hf).later hl), fun f hf => (h.typed f hf).later hl⟩
/-- Another map has turned. -/
theorem FA.other {B' : Nat} (h : FA w B z) (hg : Turned B' w w') (hne : B ≠ B') {es : Array MapEntry} {c : Nat} (hm : w.heap[B']? = some (.map es c)) : FA w' B z :=
  ⟨h.own.kept hg (by simpa using hne), h.rise, (fun f hf => (h.reads f hf).turned hg hm), fun f hf => (h.typed f hf).turned hg hm⟩
theorem FA.put (h : FA w B z) {k : Nat} {nm : ByteArray} (hw : w'.ownsMap Try.prog 9 raw B k ((datum (mapT (·.1) z)).put (.string (bytes nm)) (.held v))) (ht : w.mapTurned w' B) (hr : Reads w v l) (hty : Typed w v) : FA w' B (withT z nm (v, l)) := by
  have e : (datum (mapT (·.1) z)).put (.string (bytes nm)) (.held v) = datum (mapT (·.1) (withT z nm (v, l))) := by
    rw [put_datum (rising_map.2 h.rise), ← withT_map (fun x : Held => x.1)]
  obtain ⟨es, c, hm⟩ := h.map
  have hg := Turned.of_map ht
  refine ⟨?_, rising_with h.rise _ _, fun f hf => ?_, fun f hf => ?_⟩
  · have := own_tight hw
    rw [e, size_datum, mapT_length] at this
    exact this
  · rcases mem_with.1 hf with rfl | hf
    · exact hr.turned hg hm
    · exact (h.reads f hf.1).turned hg hm
  · rcases mem_with.1 hf with rfl | hf
    · exact hty.turned hg hm
    · exact (h.typed f hf.1).turned hg hm
theorem FA.del (h : FA w B z) {k : Nat} {nm : ByteArray} (hw : w'.ownsMap Try.prog 9 raw B k ((datum (mapT (·.1) z)).del (.string (bytes nm)))) (ht : w.mapTurned w' B) : FA w' B (withoutT z nm) := by
  obtain ⟨es, c, hm⟩ := h.map
  have hg := Turned.of_map ht
  refine ⟨?_, rising_without h.rise _, (fun f hf => (h.reads f (mem_without.1 hf).1).turned hg hm), fun f hf => (h.typed f (mem_without.1 hf).1).turned hg hm⟩
  have := own_tight hw
  rw [del_datum, withoutT_map, size_datum, mapT_length] at this
  exact this
/-- A new map. -/
theorem FA.made (w : World) : FA (w.alloc (.map #[] 0)) w.heap.size [] := ⟨World.ownsMap_made w _ _ _, rising_nil, (fun f hf => by cases hf), fun f hf => by cases hf⟩

theorem FilesAt.later (h : FilesAt w B t) (hl : Later w w') : FilesAt w' B t := by obtain ⟨z, h, rfl⟩ := h; exact ⟨z, h.later hl, rfl⟩
theorem FilesAt.lt (h : FilesAt w B t) : B < w.heap.size := by obtain ⟨z, h, _⟩ := h; exact h.lt
theorem FilesAt.map (h : FilesAt w B t) : ∃ es c, w.heap[B]? = some (.map es c) := by obtain ⟨z, h, _⟩ := h; exact h.map
theorem FilesAt.rise (h : FilesAt w B t) : Rising t := by obtain ⟨z, h, rfl⟩ := h; exact rising_map.2 h.rise
theorem FilesAt.other {B' : Nat} (h : FilesAt w B t) (hg : Turned B' w w') (hne : B ≠ B') {es : Array MapEntry} {c : Nat} (hm : w.heap[B']? = some (.map es c)) : FilesAt w' B t := by
  obtain ⟨z, h, rfl⟩ := h; exact ⟨z, h.other hg hne hm, rfl⟩
theorem TreeAt.later (h : TreeAt w p B t) (hl : Later w w') : TreeAt w' p B t := ⟨hl.cell h.cell, h.files.later hl⟩
theorem TreeAt.ne (h : TreeAt w p B t) : p ≠ B := by
  obtain ⟨es, c, hm⟩ := h.files.map
  exact not_map hm h.cell
theorem TreeAt.lt (h : TreeAt w p B t) : p < w.heap.size := lt_of_cell h.cell
/-- The tree's own map has turned, to other files. -/
theorem TreeAt.to {t' : Tr} (h : TreeAt w p B t) (hg : Turned B w w') (hf : FilesAt w' B t') : TreeAt w' p B t' := ⟨hg.cell h.cell h.ne, hf⟩
theorem TreeAt.other {B' : Nat} (h : TreeAt w p B t) (hg : Turned B' w w') (hne : B ≠ B') {es : Array MapEntry} {c : Nat} (hm : w.heap[B']? = some (.map es c)) : TreeAt w' p B t :=
  ⟨hg.cell h.cell (not_map hm h.cell), h.files.other hg hne hm⟩
end

theorem keyed9 : Keyed Try.prog 9 := string_keyed Try.underlying9
theorem key9 {s : ByteArray} (h : s.size ≤ maxLen) : keyOf Try.prog 9 (.string s) = some (.string (bytes s)) := WideMaps.keyOf_string_mk Try.underlying9 h

theorem zero29 (w : World) : (zeroValue 22).run Try.prog w = .ok (.slice none 0 0) w := by kernel_rfl

/-- What is owned lies in a block of its type. -/
theorem Own.typed {w0 w : World} {v : Value} {ss : List ByteArray} (h : Own 9 w0 w v ss) : Typed w v := fun k hk => by
  rcases h.1.2 with ⟨rfl, _⟩ | ⟨g, cap, cur, rfl, _, hh, _⟩
  · cases hk
  · simp only [Value.ownBlock, Option.some.injEq] at hk
    subst hk
    exact ⟨cur, hh⟩
/-- What is there reads as its lines. -/
theorem FA.get {w : World} {B : Nat} {z : Fl Held} (h : FA w B z) {nm : ByteArray} {x : Held} (hx : getT z nm = some x) : Reads w x.1 x.2 := h.reads _ (getT_mem hx)

end Go.Proofs.Ytnhhdjcbifmfgaa

/-
  A cell that is written: what stands, and what has turned.
-/
namespace Go.Proofs.Ytnhhdjcbifmfgaa
open Go.RowKit Go.Maps

/-- The first line of an own row: its cell may be written. -/
theorem Own.first {w0 w : World} {v : Value} {l : List ByteArray} (h : Own 9 w0 w v l) (h1 : 1 ≤ l.length) :
    ∃ g cap cur, v = .slice (some ⟨g, 0, none⟩) l.length cap ∧ l.length ≤ cap ∧ w0.heap.size ≤ g ∧ w.heap[g]? = some (.cells cur 9 (0, 0)) ∧ w.cell? ⟨g, 0, none⟩ = some (.string (l.getD 0 ByteArray.empty)) := by
  rcases h.1.2 with ⟨_, h0⟩ | ⟨g, cap, cur, hv, hg, hh, hnc, hm, hs, ht⟩
  · omega
  · refine ⟨g, cap, cur, hv, hnc, hg, hh, ?_⟩
    obtain ⟨A, c, hv2, _, hr⟩ := h.row
    rw [hv] at hv2
    simp only [Value.slice.injEq] at hv2
    obtain ⟨rfl, -, -⟩ := hv2
    obtain ⟨b, o, e, hc⟩ := hr.get (k := 0) (by omega)
    simp only [Option.some.injEq, Addr.mk.injEq] at e
    obtain ⟨rfl, rfl, -⟩ := e
    exact hc
theorem frozen_no {w : World} {g : Nat} {cur : Array Value} {t : TypeId} (h : w.heap[g]? = some (.cells cur t (0, 0))) (i : Nat) : w.frozen? ⟨g, i, none⟩ = false := by
  simp [World.frozen?, h]
theorem turned_set (w : World) (g i : Nat) (u : Value) : Turned g w (w.setCell ⟨g, i, none⟩ u) :=
  ⟨rfl, rfl, rfl, by simp, fun k _ hne => RowKit.Below.heap_setCell _ _ _ _ (fun e => hne (by rw [e]))⟩
/-- A block that was not there has turned, behind block B. -/
theorem Turned.more {B g : Nat} {w w' w'' : World} (h : Turned B w w') (k : Turned g w' w'') (hg : w.heap.size ≤ g) : Turned B w w'' :=
  ⟨k.os.trans h.os, k.tape.trans h.tape, k.output.trans h.output, Nat.le_trans h.size k.size, fun i hi hne => (k.block i (Nat.lt_of_lt_of_le hi h.size) (fun e => by cases e; omega)).trans (h.block i hi hne)⟩
theorem right_size {l : List ByteArray} (h : allB l = true) {s : ByteArray} (hs : s ∈ l) : s.size ≤ 60 := by
  have := List.all_eq_true.1 h s hs
  simp only [rightB, Bool.and_eq_true, decide_eq_true_eq] at this
  exact this.1
theorem reads_lt {w : World} {v : Value} {l : List ByteArray} (h : Reads w v l) (h1 : l ≠ []) : ∀ k, v.ownBlock = some k → k < w.heap.size := by
  obtain ⟨A, n, c, rfl, _, hr⟩ := h
  intro k hk
  have hn : 0 < n := by
    rcases Nat.eq_zero_or_pos n with h0 | h0
    · exact absurd (List.eq_nil_of_length_eq_zero (hr.len.trans h0)) h1
    · exact h0
  obtain ⟨b, o, rfl, hc⟩ := hr.get hn
  simp only [Value.ownBlock, Option.some.injEq] at hk
  rw [← hk]
  exact lt_of_cell hc

/-- Another block has turned: an own row stands. -/
theorem Own.other {e : TypeId} {w0 w w' : World} {v : Value} {ss : List ByteArray} {g : Nat} (h : Own e w0 w v ss) (hg : Turned g w w') (hv : v.ownBlock ≠ some g) (hl : Later w0 w') : Own e w0 w' v ss :=
  ⟨h.1.kept hg (.inr hv), hl⟩

end Go.Proofs.Ytnhhdjcbifmfgaa

/-
  What prim's Clone comes to, as a call.
-/
namespace Go.Proofs.Ytnhhdjcbifmfgaa
open Go.RowKit

/-- Block g is made of these cells. -/
def BoxAt (w : World) (g : Nat) (cs : Array Value) (t : TypeId) : Prop := w.heap[g]? = some (.cells cs t (0, 0))
section
variable {w w' : World} {g : Nat} {cs : Array Value} {t : TypeId}
theorem BoxAt.lt (h : BoxAt w g cs t) : g < w.heap.size := (Array.getElem?_eq_some_iff.1 h).1
theorem BoxAt.later (h : BoxAt w g cs t) (hl : Later w w') : BoxAt w' g cs t := (hl.block g h.lt).trans h
theorem BoxAt.other {b : Nat} (h : BoxAt w g cs t) (hg : Turned b w w') (hne : g ≠ b) : BoxAt w' g cs t := (hg.block g h.lt (by simpa using hne)).trans h
theorem BoxAt.cell (h : BoxAt w g cs t) {i : Nat} {v : Value} (hv : cs[i]? = some v) : w.cell? ⟨g, i, none⟩ = some v := by
  unfold BoxAt at h
  simp only [World.cell?, h]
  exact hv
theorem BoxAt.frozen (h : BoxAt w g cs t) (i : Nat) : w.frozen? ⟨g, i, none⟩ = false := frozen_no h i
theorem BoxAt.made (w : World) (cs : Array Value) (t : TypeId) : BoxAt (w.alloc (.cells cs t)) w.heap.size cs t := heap_alloc_new w _
theorem BoxAt.set (h : BoxAt w g cs t) (i : Nat) (v : Value) : BoxAt (w.setCell ⟨g, i, none⟩ v) g (cs.setIfInBounds i v) t := heap_setCell_same w g i cs t v h
theorem BoxAt.alloc (h : BoxAt w g cs t) (o : Obj) : BoxAt (w.alloc o) g cs t := h.later ((Later.refl w).alloc o)
/-- Six cells, written one behind the other. -/
theorem BoxAt.set6 {x0 x1 x2 x3 x4 x5 : Value} (h : BoxAt w g #[x0, x1, x2, x3, x4, x5] t) (v0 v1 v2 v3 v4 v5 : Value) : BoxAt ((((((w.setCell ⟨g, 0, none⟩ v0).setCell ⟨g, 1, none⟩ v1).setCell ⟨g, 2, none⟩ v2).setCell ⟨g, 3, none⟩ v3).setCell ⟨g, 4, none⟩ v4).setCell ⟨g, 5, none⟩ v5) g #[v0, v1, v2, v3, v4, v5] t :=
  (((((h.set 0 v0).set 1 v1).set 2 v2).set 3 v3).set 4 v4).set 5 v5
theorem turned_set6 (w : World) (g : Nat) (v0 v1 v2 v3 v4 v5 : Value) : Turned g w ((((((w.setCell ⟨g, 0, none⟩ v0).setCell ⟨g, 1, none⟩ v1).setCell ⟨g, 2, none⟩ v2).setCell ⟨g, 3, none⟩ v3).setCell ⟨g, 4, none⟩ v4).setCell ⟨g, 5, none⟩ v5) :=
  (((((turned_set w g 0 v0).trans (turned_set _ g 1 v1)).trans (turned_set _ g 2 v2)).trans (turned_set _ g 3 v3)).trans (turned_set _ g 4 v4)).trans (turned_set _ g 5 v5)
end
theorem Try.primSize : (Try.prog.info? 28).map (·.size) = some 6 := by kernel_rfl

set_option maxRecDepth 100000 in
set_option maxHeartbeats 800000 in
theorem primClone_any (x : PrC) (w : World) (hx : PrOk w x) :
    Calls Try.prog 15 #[prV x] w (GivesPr x.v w) := by
  obtain ⟨⟨kd, nm, to, pl, old, new⟩, A, n, c, B, m, d⟩ := x
  unfold prV
  dsimp only
  have HX := Lib.hid hx
  clear hx
  go_enter Try.func15, Try.ntmps15
  go_wp2_with fail
  have hb0 : BoxAt ((w.alloc (.cells #[.int .i64 kd, .string nm, .string to, .int .i64 pl, .slice A n c, .slice B m d] 28)).alloc (.cells #[.int .i64 0, .string ⟨#[]⟩, .string ⟨#[]⟩, .int .i64 0, .slice none 0 0, .slice none 0 0] 28)) w.heap.size #[.int .i64 kd, .string nm, .string to, .int .i64 pl, .slice A n c, .slice B m d] 28 := (BoxAt.made w _ _).alloc _
  have hb1 : BoxAt ((w.alloc (.cells #[.int .i64 kd, .string nm, .string to, .int .i64 pl, .slice A n c, .slice B m d] 28)).alloc (.cells #[.int .i64 0, .string ⟨#[]⟩, .string ⟨#[]⟩, .int .i64 0, .slice none 0 0, .slice none 0 0] 28)) (w.heap.size + 1) #[.int .i64 0, .string ⟨#[]⟩, .string ⟨#[]⟩, .int .i64 0, .slice none 0 0, .slice none 0 0] 28 := by
    have := BoxAt.made (w.alloc (.cells #[.int .i64 kd, .string nm, .string to, .int .i64 pl, .slice A n c, .slice B m d] 28)) #[.int .i64 0, .string ⟨#[]⟩, .string ⟨#[]⟩, .int .i64 0, .slice none 0 0, .slice none 0 0] 28
    simpa using this
  have hlb : Later w ((w.alloc (.cells #[.int .i64 kd, .string nm, .string to, .int .i64 pl, .slice A n c, .slice B m d] 28)).alloc (.cells #[.int .i64 0, .string ⟨#[]⟩, .string ⟨#[]⟩, .int .i64 0, .slice none 0 0, .slice none 0 0] 28)) := ((Later.refl w).alloc _).alloc _
  generalize (w.alloc (.cells #[.int .i64 kd, .string nm, .string to, .int .i64 pl, .slice A n c, .slice B m d] 28)).alloc (.cells #[.int .i64 0, .string ⟨#[]⟩, .string ⟨#[]⟩, .int .i64 0, .slice none 0 0, .slice none 0 0] 28) = wb at hb0 hb1 hlb ⊢
  have hlt := hb1.lt
  refine (clone_any A n c old wb (HX.out.old.later hlb) HX.out.omost).mono ?_
  rintro e w1 ⟨u, rfl, hu⟩
  obtain ⟨A1, c1, hv1, hcc1, hr1⟩ := hu.row
  subst hv1
  have b0 := hb0.later hu.later
  have c4 := b0.cell (i := 4) rfl
  have f4 := b0.frozen 4
  have b0' := b0.set 4 (.slice A1 old.length c1)
  have c5 := b0'.cell (i := 5) rfl
  have f5 := b0'.frozen 5
  have HB0 := Lib.hid b0'
  have HB1 := Lib.hid ((hb1.later hu.later).other (turned_set w1 w.heap.size 4 (.slice A1 old.length c1)) (by omega))
  have hle := hu.later.le
  have HL1 := Lib.hid ((hlb.trans hu.later).turn (turned_set w1 w.heap.size 4 (.slice A1 old.length c1)) (Nat.le_refl _))
  have HU := Lib.hid (hu.base hlb)
  have HU1 : Hid (Own 9 w (w1.setCell ⟨w.heap.size, 4, none⟩ (.slice A1 old.length c1)) (.slice A1 old.length c1) old) := (HU.out).other (turned_set w1 w.heap.size 4 (.slice A1 old.length c1)) (fun e => by have := hu.block _ e; omega) HL1.out
  have HUB : Hid (∀ b, (Value.slice A1 old.length c1).ownBlock = some b → wb.heap.size ≤ b) := hu.block
  clear hb0 hb1 hu b0 b0' hr1 hcc1
  go_wp2_with fail
  generalize w1.setCell ⟨w.heap.size, 4, none⟩ (.slice A1 old.length c1) = w2 at HB0 HB1 HL1 HU1 c5 f5 ⊢
  clear c4 f4 HU
  refine (clone_any B m d new w2 (HX.out.new.later HL1.out) HX.out.nmost).mono ?_
  rintro e w3 ⟨u2, rfl, hu2⟩
  obtain ⟨A3, c3, hv3, hcc3, hr3⟩ := hu2.row
  subst hv3
  have b0 := HB0.out.later hu2.later
  have b1 := HB1.out.later hu2.later
  have e5 := b0.cell (i := 5) rfl
  have g5 := b0.frozen 5
  have hlt2 := HB1.out.lt
  have d0 := b0.set 5 (.slice A3 new.length c3)
  have d1 := b1.other (turned_set w3 w.heap.size 5 (.slice A3 new.length c3)) (by omega)
  have HL4 := Lib.hid ((HL1.out.trans hu2.later).turn (turned_set w3 w.heap.size 5 (.slice A3 new.length c3)) (Nat.le_refl _))
  have HU4 : Hid (Own 9 w (w3.setCell ⟨w.heap.size, 5, none⟩ (.slice A3 new.length c3)) (.slice A1 old.length c1) old) := (HU1.out.on hu2.later).other (turned_set w3 w.heap.size 5 (.slice A3 new.length c3)) (fun e => by have := HUB.out _ e; omega) HL4.out
  have HV4 : Hid (Own 9 w (w3.setCell ⟨w.heap.size, 5, none⟩ (.slice A3 new.length c3)) (.slice A3 new.length c3) new) := (hu2.base HL1.out).other (turned_set w3 w.heap.size 5 (.slice A3 new.length c3)) (fun e => by have := hu2.block _ e; omega) HL4.out
  have HVB : Hid (∀ b, (Value.slice A3 new.length c3).ownBlock = some b → w2.heap.size ≤ b) := hu2.block
  have HUL : Hid (∀ b, (Value.slice A1 old.length c1).ownBlock = some b → b < w2.heap.size) := fun b hb => HU1.out.lt hb
  clear hu2 b0 b1 c5 f5
  have x0 := d0.cell (i := 0) rfl; have x1 := d0.cell (i := 1) rfl; have x2 := d0.cell (i := 2) rfl; have x3 := d0.cell (i := 3) rfl; have x4 := d0.cell (i := 4) rfl; have x5 := d0.cell (i := 5) rfl
  have y0 := d1.cell (i := 0) rfl; have y1 := d1.cell (i := 1) rfl; have y2 := d1.cell (i := 2) rfl; have y3 := d1.cell (i := 3) rfl; have y4 := d1.cell (i := 4) rfl; have y5 := d1.cell (i := 5) rfl
  have z0 := d1.frozen 0; have z1 := d1.frozen 1; have z2 := d1.frozen 2; have z3 := d1.frozen 3; have z4 := d1.frozen 4; have z5 := d1.frozen 5
  have HD1 := Lib.hid d1
  clear d0 d1
  go_wp2
  have hset := turned_set6 (w3.setCell ⟨w.heap.size, 5, none⟩ (.slice A3 new.length c3)) (w.heap.size + 1) (.int .i64 kd) (.string nm) (.string to) (.int .i64 pl) (.slice A1 old.length c1) (.slice A3 new.length c3)
  have hlw := HL4.out.turn hset (by omega)
  refine bodyPost_ret (results_cell_row rfl _ _ (w.heap.size + 1) 28 _ (0, 0) _ rfl (HD1.out.set6 (.int .i64 kd) (.string nm) (.string to) (.int .i64 pl) (.slice A1 old.length c1) (.slice A3 new.length c3)) Try.underlying28 rfl Try.primSize) rfl ?_
  refine ⟨(.slice A1 old.length c1), (.slice A3 new.length c3), rfl, HU4.out.other hset (fun e => ?_) hlw, HV4.out.other hset (fun e => ?_) hlw, fun b h1 h2 => ?_⟩
  · have := HUB.out _ e; omega
  · have := HVB.out _ e; omega
  · have := HUL.out _ h1
    have := HVB.out _ h2
    omega

end Go.Proofs.Ytnhhdjcbifmfgaa

/-
  What prim's Invert comes to, as a call.
-/
namespace Go.Proofs.Ytnhhdjcbifmfgaa
open Go.RowKit

end Go.Proofs.Ytnhhdjcbifmfgaa

/-
  What slices.Equal at rows of texts comes to, as a call.
-/
namespace Go.Proofs.Ytnhhdjcbifmfgaa
open Go.RowKit

set_option maxHeartbeats 400000 in
theorem equal_any (A B : Option Addr) (n c m d : Nat) (xs ys : List ByteArray) (w : World) (hx : Row w A n xs) (hy : Row w B m ys) (hn : n ≤ 65536) (hm : m ≤ 65536) :
    Calls Try.prog 16 #[.slice A n c, .slice B m d] w fun e w' => e = .returned (.bool (sameB xs ys)) ∧ ∃ q, w' = w.drewN q := by
  by_cases hnm : n = m
  · subst hnm
    have HX := Lib.hid hx; clear hx
    have HY := Lib.hid hy; clear hy
    go_enter Try.func16, Try.ntmps16
    go_wp2
    go_loopg [13] n (fun g s13 wr => ∃ k q : Nat, k ≤ n ∧ n - k ≤ g ∧ s13 = .int .i64 k ∧ wr = w.drewN q ∧ Hid (xs.take k = ys.take k))
    case atStart => exact ⟨0, 0, Nat.zero_le _, by omega, rfl, rfl, by simp [Hid]⟩
    case round =>
      obtain ⟨k, q, hk, hg, rfl, rfl, heq⟩ := hrel
      by_cases hlt : k < n
      · obtain ⟨b1, o1, rfl, g1⟩ := HX.out.get hlt
        obtain ⟨b2, o2, rfl, g2⟩ := HY.out.get hlt
        generalize hxk : xs.getD k ByteArray.empty = x at g1
        generalize hyk : ys.getD k ByteArray.empty = y at g2
        have X := Lib.hid hxk; clear hxk
        have Y := Lib.hid hyk; clear hyk
        by_cases hxy : x = y
        · subst hxy
          go_wp2_with fail
          go_quiet (fail)
          go_wp2
          go_roundg (n - (k + 1))
          case measure => omega
          case rel => exact ⟨k + 1, _, by omega, by omega, by go_num, rfl, take_same (by rw [HX.out.len]; exact hlt) (by rw [HY.out.len]; exact hlt) heq.out (X.out.trans Y.out.symm)⟩
        · have hb := text_ne hxy
          go_wp2_with fail
          go_quiet (fail)
          go_wp2
          go_ret
          refine ⟨?_, _, World.drewN_drewN _ _ _⟩
          rw [beq_of_other (by rw [X.out, Y.out]; exact hxy)]
          rfl
      · have hkn : k = n := by omega
        have e : sameB xs ys = true := by
          rw [hkn, List.take_of_length_le (by rw [HX.out.len]; omega), List.take_of_length_le (by rw [HY.out.len]; omega)] at heq
          exact sameB_yes heq.out
        have E := Lib.hid e; clear e heq
        go_wp2
        go_ret
        exact ⟨by rw [E.out]; rfl, _, rfl⟩
  · have e : sameB xs ys = false := by
      refine sameB_no fun h => ?_; rw [h] at hx; exact hnm (hx.len.symm.trans hy.len)
    have E := Lib.hid e; clear e hx hy
    have hnm' : ¬ (n : Int) = (m : Int) := by omega
    go_enter Try.func16, Try.ntmps16
    go_wp2
    go_ret
    exact ⟨by rw [E.out]; rfl, 0, rfl⟩

end Go.Proofs.Ytnhhdjcbifmfgaa

/-
  What line.Same comes to, as a call.
-/
namespace Go.Proofs.Ytnhhdjcbifmfgaa
open Go.RowKit

set_option maxHeartbeats 400000 in
theorem same_any (A B : Option Addr) (n c m d : Nat) (xs ys : List ByteArray) (w : World) (hx : Row w A n xs) (hy : Row w B m ys) (hn : n ≤ 65536) (hm : m ≤ 65536) :
    Calls Try.prog 12 #[.slice A n c, .slice B m d] w fun e w' => e = .returned (.bool (sameB xs ys)) ∧ ∃ q, w' = w.drewN q := by
  have H := Lib.hid (equal_any A B n c m d xs ys w hx hy hn hm)
  clear hx hy
  go_enter Try.func12, Try.ntmps12
  go_wp2_with (go_at_call 16; refine H.out.mono ?_; rintro e w' ⟨rfl, q, rfl⟩)
  go_ret
  exact ⟨rfl, q, rfl⟩

end Go.Proofs.Ytnhhdjcbifmfgaa

/-
  What prim's Same comes to, as a call.
-/
namespace Go.Proofs.Ytnhhdjcbifmfgaa
open Go.RowKit

set_option maxRecDepth 100000 in
set_option maxHeartbeats 800000 in
theorem primSame_any (x y : PrC) (w : World) (hx : PrOk w x) (hy : PrOk w y) :
    Calls Try.prog 7 #[prV x, prV y] w (Says (sameP x.v y.v) w) := by
  obtain ⟨⟨kd, nm, to, pl, old, new⟩, A, n, c, B, m, d⟩ := x
  obtain ⟨⟨kd', nm', to', pl', old', new'⟩, A', n', c', B', m', d'⟩ := y
  have hlb : Later w ((w.alloc (.cells #[.int .i64 kd, .string nm, .string to, .int .i64 pl, .slice A n c, .slice B m d] 28)).alloc (.cells #[.int .i64 kd', .string nm', .string to', .int .i64 pl', .slice A' n' c', .slice B' m' d'] 28)) := ((Later.refl w).alloc _).alloc _
  have H1 := Lib.hid (same_any A A' n c n' c' old old' _ (hx.old.later hlb) (hy.old.later hlb) hx.omost hy.omost)
  have H2 := Lib.hid (fun (w1 : World) (h : Later w w1) => same_any B B' m d m' d' new new' w1 (hx.new.later h) (hy.new.later h) hx.nmost hy.nmost)
  have HLB := Lib.hid hlb
  have HX := Lib.hid hx; have HY := Lib.hid hy
  unfold prV
  dsimp only
  clear hx hy hlb
  by_cases h1 : kd = kd'
  · subst h1
    by_cases h2 : nm = nm'
    · subst h2
      by_cases h3 : to = to'
      · subst h3
        by_cases h4 : pl = pl'
        · subst h4
          have E : Hid (sameP ⟨kd, nm, to, pl, old, new⟩ ⟨kd, nm, to, pl, old', new'⟩ = (sameB old old' && sameB new new')) := by simp [Hid, sameP]
          rw [E.out]
          clear E
          cases h5 : sameB old old'
          · rw [h5] at H1
            rw [Bool.false_and]
            go_enter Try.func7, Try.ntmps7
            go_wp2_with fail
            refine H1.out.mono ?_
            rintro e w1 ⟨rfl, q, rfl⟩
            go_wp2
            go_ret
            exact ⟨rfl, HLB.out.drewN q⟩
          · rw [h5] at H1
            rw [Bool.true_and]
            generalize sameB new new' = b at H2 ⊢
            go_enter Try.func7, Try.ntmps7
            go_wp2_with fail
            refine H1.out.mono ?_
            rintro e w1 ⟨rfl, q, rfl⟩
            go_wp2_with fail
            refine (H2.out _ (HLB.out.drewN q)).mono ?_
            rintro e w1 ⟨rfl, q2, rfl⟩
            go_wp2
            go_ret
            exact ⟨rfl, HLB.out.drewN _⟩
        · have E : Hid (sameP ⟨kd, nm, to, pl, old, new⟩ ⟨kd, nm, to, pl', old', new'⟩ = false) := by simp [Hid, sameP, h4]
          rw [E.out]
          clear E
          go_enter Try.func7, Try.ntmps7
          go_wp2
          go_ret
          exact ⟨rfl, HLB.out⟩
      · have E : Hid (sameP ⟨kd, nm, to, pl, old, new⟩ ⟨kd, nm, to', pl', old', new'⟩ = false) := by simp [Hid, sameP, h3]
        rw [E.out]
        have hb := text_ne h3
        clear E
        go_enter Try.func7, Try.ntmps7
        go_wp2
        go_ret
        exact ⟨rfl, HLB.out⟩
    · have E : Hid (sameP ⟨kd, nm, to, pl, old, new⟩ ⟨kd, nm', to', pl', old', new'⟩ = false) := by simp [Hid, sameP, h2]
      rw [E.out]
      have hb := text_ne h2
      clear E
      go_enter Try.func7, Try.ntmps7
      go_wp2
      go_ret
      exact ⟨rfl, HLB.out⟩
  · have E : Hid (sameP ⟨kd, nm, to, pl, old, new⟩ ⟨kd', nm', to', pl', old', new'⟩ = false) := by simp [Hid, sameP, h1]
    rw [E.out]
    clear E
    go_enter Try.func7, Try.ntmps7
    go_wp2
    go_ret
    exact ⟨rfl, HLB.out⟩

end Go.Proofs.Ytnhhdjcbifmfgaa

/-
  What calls of the library come to, laid at this program: whether a text has a byte.
-/
namespace Go.Proofs
open Go.Shelf
def Try.lays144_ren : Go.Shelf.Ren := ⟨fun | 144 => 36 | 143 => 39 | 219 => 51 | 217 => 58 | 225 => 59 | 224 => 60 | 267 => 61 | 266 => 63 | 314 => 64 | n => n, fun | 9 => 9 | 4 => 4 | 3 => 3 | 5 => 5 | 46 => 58 | 146 => 83 | 51 => 69 | n => n, fun | 1 => 0 | n => n⟩
theorem Try.lays144 : Go.Proofs.Lays.n144 Try.prog Try.lays144_ren := {
  mixed := by kernel_rfl
  f143 := Try.func39.trans (congrArg some (by kernel_rfl))
  f144 := Try.func36.trans (congrArg some (by kernel_rfl))
  f217 := Try.func58.trans (congrArg some (by kernel_rfl))
  f219 := Try.func51.trans (congrArg some (by kernel_rfl))
  f224 := Try.func60.trans (congrArg some (by kernel_rfl))
  f225 := Try.func59.trans (congrArg some (by kernel_rfl))
  f266 := Try.func63.trans (congrArg some (by kernel_rfl))
  f267 := Try.func61.trans (congrArg some (by kernel_rfl))
  f314 := Try.func64.trans (congrArg some (by kernel_rfl))
  t3 := Try.underlying3
  a3 := Try.isAgg3
  z3 := Try.sizeOf3
  v3 := Try.zeroValue3
  t4 := Try.underlying4
  a4 := Try.isAgg4
  z4 := Try.sizeOf4
  v4 := Try.zeroValue4
  t5 := Try.underlying5
  a5 := Try.isAgg5
  z5 := Try.sizeOf5
  v5 := Try.zeroValue5
  t9 := Try.underlying9
  a9 := Try.isAgg9
  z9 := Try.sizeOf9
  v9 := Try.zeroValue9
  t46 := Try.underlying58
  a46 := Try.isAgg58
  z46 := Try.sizeOf58
  v46 := Try.zeroValue58
  t51 := Try.underlying69
  a51 := Try.isAgg69
  z51 := Try.sizeOf69
  v51 := Try.zeroValue69
  t146 := Try.underlying83
  a146 := Try.isAgg83
  z146 := Try.sizeOf83
  v146 := Try.zeroValue83
  g1 := by kernel_rfl }
open Go.RowKit Go.Lib in
theorem Try.strings_Contains_one (s : ByteArray) (c : UInt8) (w : World) :
    Calls Try.prog 36 #[.string s, .string ⟨#[c]⟩] w fun e w' => e = .returned (.bool (decide (0 ≤ Lib.indexByte s.data.toList c))) ∧ w' = w := Any.strings_Contains_one Try.lays144 s c w
end Go.Proofs

/-
  What line.Right comes to, as a call.
-/
namespace Go.Proofs.Ytnhhdjcbifmfgaa
open Go.RowKit

set_option maxHeartbeats 400000 in
theorem right_any (s : ByteArray) (w : World) (hs : s.size ≤ maxLen) :
    Calls Try.prog 32 #[.string s] w fun e w' => e = .returned (.bool (rightB s)) ∧ w = w' := by
  unfold maxLen at hs
  have hr : rightB s = (decide (s.size ≤ 60) && !hasEnd s) := rfl
  by_cases h : s.size ≤ 60
  · rw [decide_eq_true h, Bool.true_and] at hr
    have HR := Lib.hid hr; clear hr
    have hd : decide ((s.size : Int) ≤ 60) = true := by simp; omega
    have H := Lib.hid (Try.strings_Contains_one s 10 w)
    go_enter Try.func32, Try.ntmps32
    go_wp2_with (go_at_call 36; refine H.out.mono ?_; rintro e w' ⟨rfl, rfl⟩)
    go_ret
    exact ⟨by rw [HR.out]; rfl, rfl⟩
  · rw [decide_eq_false h, Bool.false_and] at hr
    have HR := Lib.hid hr; clear hr
    have hd : decide ((s.size : Int) ≤ 60) = false := by simp; omega
    go_enter Try.func32, Try.ntmps32
    go_wp2
    go_ret
    exact ⟨by rw [HR.out]; rfl, rfl⟩

end Go.Proofs.Ytnhhdjcbifmfgaa

/-
  What line.All comes to, as a call.
-/
namespace Go.Proofs.Ytnhhdjcbifmfgaa
open Go.RowKit

set_option maxHeartbeats 400000 in
theorem all_any (A : Option Addr) (n c : Nat) (l : List ByteArray) (w : World) (hx : Row w A n l) (hn : n ≤ 65536) (hs : ∀ x ∈ l, x.size ≤ maxLen) :
    Calls Try.prog 26 #[.slice A n c] w fun e w' => e = .returned (.bool (allB l)) ∧ w = w' := by
  have HX := Lib.hid hx; clear hx
  have HS := Lib.hid hs; clear hs
  go_enter Try.func26, Try.ntmps26
  go_wp2
  go_loop [7] (fun i => ∃ k : Nat, k ≤ n ∧ i = .int .i64 k ∧ Hid (∀ j : Nat, j < k → rightB (l.getD j ByteArray.empty) = true)) (fun i => n - (intOf i).toNat)
  case atStart => exact ⟨0, Nat.zero_le _, rfl, fun j hj => absurd hj (Nat.not_lt_zero _)⟩
  case round =>
    obtain ⟨k, hk, rfl, hall⟩ := hrel
    by_cases hlt : k < n
    · obtain ⟨b1, o1, rfl, g1⟩ := HX.out.get hlt
      have hkl : k < l.length := by rw [HX.out.len]; exact hlt
      have hsz : (l.getD k ByteArray.empty).size ≤ maxLen := by
        simp only [List.getD, List.getElem?_eq_getElem hkl, Option.getD_some]
        exact HS.out _ (List.getElem_mem hkl)
      have hr := right_any (l.getD k ByteArray.empty) w hsz
      cases hb : rightB (l.getD k ByteArray.empty)
      · rw [hb] at hr
        have e := allB_get hkl hb
        have E := Lib.hid e
        have HR := Lib.hid hr; clear hr hb hsz e hkl hall
        generalize l.getD k ByteArray.empty = x at g1 HR
        go_wp2_with (go_at_call 32; refine HR.out.mono ?_; rintro e w' ⟨rfl, rfl⟩)
        go_ret
        exact ⟨ret_bool E.out.symm, rfl⟩
      · rw [hb] at hr
        have HA : Hid (∀ j : Nat, j < k + 1 → rightB (l.getD j ByteArray.empty) = true) := fun j hj => by
          by_cases e : j = k
          · rw [e]; exact hb
          · exact hall.out j (by omega)
        have HR := Lib.hid hr; clear hr hb hsz hkl hall
        generalize l.getD k ByteArray.empty = x at g1 HR
        go_wp2_with (go_at_call 32; refine HR.out.mono ?_; rintro e w' ⟨rfl, rfl⟩)
        exact ⟨⟨k + 1, by omega, by go_num, HA⟩, by simp [intOf]; omega⟩
    · have e : allB l = true := allB_all fun j hj => hall.out j (by rw [HX.out.len] at hj; omega)
      have E := Lib.hid e; clear e hall
      go_wp2
      go_ret
      exact ⟨ret_bool E.out.symm, rfl⟩

end Go.Proofs.Ytnhhdjcbifmfgaa

/-
  What prim's changesLines and hasNoLines come to, as calls.
-/
namespace Go.Proofs.Ytnhhdjcbifmfgaa
open Go.RowKit

set_option maxHeartbeats 400000 in
theorem changes_any (x : PrC) (w : World) (hx : PrOk w x) :
    Calls Try.prog 18 #[prV x] w (Says (allB x.v.old && allB x.v.new && !sameB x.v.old x.v.new) w) := by
  obtain ⟨⟨kd, nm, to, pl, old, new⟩, A, n, c, B, m, d⟩ := x
  unfold prV
  dsimp only
  have hlb : Later w (w.alloc (.cells #[.int .i64 kd, .string nm, .string to, .int .i64 pl, .slice A n c, .slice B m d] 28)) := (Later.refl w).alloc _
  have H1 := Lib.hid (all_any A n c old _ (hx.old.later hlb) hx.omost hx.olds)
  have H2 := Lib.hid (all_any B m d new _ (hx.new.later hlb) hx.nmost hx.news)
  have H3 := Lib.hid (same_any A B n c m d old new _ (hx.old.later hlb) (hx.new.later hlb) hx.omost hx.nmost)
  have HLB := Lib.hid hlb
  clear hx hlb
  cases h1 : allB old
  · rw [h1] at H1
    go_enter Try.func18, Try.ntmps18
    go_wp2_with fail
    refine H1.out.mono ?_
    rintro e w1 ⟨rfl, rfl⟩
    go_wp2
    go_ret
    exact ⟨rfl, HLB.out⟩
  · rw [h1] at H1
    cases h2 : allB new
    · rw [h2] at H2
      go_enter Try.func18, Try.ntmps18
      go_wp2_with fail
      refine H1.out.mono ?_
      rintro e w1 ⟨rfl, rfl⟩
      go_wp2_with fail
      refine H2.out.mono ?_
      rintro e w1 ⟨rfl, rfl⟩
      go_wp2
      go_ret
      exact ⟨rfl, HLB.out⟩
    · rw [h2] at H2
      generalize sameB old new = b at H3 ⊢
      go_enter Try.func18, Try.ntmps18
      go_wp2_with fail
      refine H1.out.mono ?_
      rintro e w1 ⟨rfl, rfl⟩
      go_wp2_with fail
      refine H2.out.mono ?_
      rintro e w1 ⟨rfl, rfl⟩
      go_wp2_with fail
      refine H3.out.mono ?_
      rintro e w1 ⟨rfl, q, rfl⟩
      go_wp2
      go_ret
      exact ⟨rfl, HLB.out.drewN q⟩

/-- No place, no lines. -/
def bareP (p : Pr) : Bool := decide (p.place = 0) && decide (p.old = []) && decide (p.new = [])

set_option maxHeartbeats 400000 in
theorem bare_any (x : PrC) (w : World) (hx : PrOk w x) :
    Calls Try.prog 19 #[prV x] w (Says (bareP x.v) w) := by
  obtain ⟨⟨kd, nm, to, pl, old, new⟩, A, n, c, B, m, d⟩ := x
  unfold prV
  dsimp only
  have hlb : Later w (w.alloc (.cells #[.int .i64 kd, .string nm, .string to, .int .i64 pl, .slice A n c, .slice B m d] 28)) := (Later.refl w).alloc _
  have HLB := Lib.hid hlb
  have hn := hx.old.len
  have hm := hx.new.len
  have hn1 := hx.omost
  have hm1 := hx.nmost
  dsimp only at hn hm hn1 hm1
  clear hx hlb
  by_cases h0 : pl = 0
  · subst h0
    by_cases h1 : n = 0
    · have e1 : old = [] := List.eq_nil_of_length_eq_zero (hn.trans h1)
      by_cases h2 : m = 0
      · have e2 : new = [] := List.eq_nil_of_length_eq_zero (hm.trans h2)
        have E : Hid (bareP ⟨kd, nm, to, 0, old, new⟩ = true) := by simp [Hid, bareP, e1, e2]
        subst h1 h2
        clear e1 e2
        go_enter Try.func19, Try.ntmps19
        go_wp2
        go_ret
        exact ⟨ret_bool E.out.symm, HLB.out⟩
      · have e2 : new ≠ [] := by rintro rfl; exact h2 hm.symm
        have E : Hid (bareP ⟨kd, nm, to, 0, old, new⟩ = false) := by simp [Hid, bareP, e2]
        subst h1
        have h2' : ¬ (m : Int) = 0 := by omega
        clear e1 e2
        go_enter Try.func19, Try.ntmps19
        go_wp2
        go_ret
        exact ⟨by rw [E.out]; simp [h2], HLB.out⟩
    · have e1 : old ≠ [] := by rintro rfl; exact h1 hn.symm
      have E : Hid (bareP ⟨kd, nm, to, 0, old, new⟩ = false) := by simp [Hid, bareP, e1]
      have h1' : ¬ (n : Int) = 0 := by omega
      clear e1
      go_enter Try.func19, Try.ntmps19
      go_wp2
      go_ret
      exact ⟨ret_bool E.out.symm, HLB.out⟩
  · have E : Hid (bareP ⟨kd, nm, to, pl, old, new⟩ = false) := by simp [Hid, bareP, h0]
    go_enter Try.func19, Try.ntmps19
    go_wp2
    go_ret
    exact ⟨ret_bool E.out.symm, HLB.out⟩

end Go.Proofs.Ytnhhdjcbifmfgaa
