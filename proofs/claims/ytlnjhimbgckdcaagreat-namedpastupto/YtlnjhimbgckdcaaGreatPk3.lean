import Derived.Test.YtlnjhimbgckdcaaGreatChecked
import Derived.OrdersHeld
import Derived.WalkKit
import Derived.Test.YtlnjhimbgckdcaaGreatProg
import Derived.Test.YtlnjhimbgckdcaaGreatPk1
import Derived.Maps.OwnSet
import Derived.Maps.RangeWalk
import Derived.Test.YtlnjhimbgckdcaaGreatPk2
import Derived.Deep.LoopGhost
import Derived.Deep.QuietTactic
import Derived.BigQuiet
import Derived.Lib.Hide

/-
  A region that draws its order, by what stands behind each set of its operations.
-/
namespace Go.Proofs.YtlnjhimbgckdcaaGreat
open Go.RowKit

def more (l : Nat -> Bool) (i : Nat) : Nat -> Bool := fun j => if j = i then true else l j
theorem more_same (l : Nat -> Bool) (i : Nat) : more l i i = true := by simp [more]
theorem more_other (l : Nat -> Bool) {i j : Nat} (h : j ≠ i) : more l i j = l j := by simp [more, h]

def goesBack (ops : Array Oper) : Bool := (List.range ops.size).all fun i => ((ops[i]?).map (·.after.all fun e => !Region.binds .any e || decide (e.on < i))).getD true
def leftN (l : Nat -> Bool) : Nat -> Nat
  | 0 => 0
  | n + 1 => leftN l n + (if l n then 0 else 1)
theorem left_more (l : Nat -> Bool) {i : Nat} : ∀ n, i < n -> l i = false -> leftN (more l i) n + 1 = leftN l n
  | 0, h, _ => absurd h (Nat.not_lt_zero _)
  | n + 1, h, hi => by
    unfold leftN
    by_cases e : i = n
    · subst e
      have : ∀ k, k <= i -> leftN (more l i) k = leftN l k := fun k => by
        induction k with
        | zero => intro _; rfl
        | succ k ih => intro hk; unfold leftN; rw [ih (by omega), more_other l (by omega)]
      rw [this i (Nat.le_refl _), more_same, hi]
      simp
    · have := left_more l n (by omega) hi
      rw [more_other l (fun x => e x.symm)]
      omega
theorem left_zero (l : Nat -> Bool) : ∀ n, leftN l n = 0 -> ∀ i, i < n -> l i = true
  | 0, _, i, h => absurd h (Nat.not_lt_zero _)
  | n + 1, h0, i, h => by
    unfold leftN at h0
    by_cases e : i = n
    · subst e
      cases hl : l i
      · rw [hl] at h0; simp at h0
      · rfl
    · exact left_zero l n (by omega) i (by omega)

theorem getD_in {L : Array Bool} {i : Nat} (h : i < L.size) (d : Bool) : L.getD i d = L[i] := by simp [Array.getD, h]
theorem getD_more {L : Array Bool} {i : Nat} (h : i < L.size) : (fun j => (L.setIfInBounds i true).getD j false) = more (fun j => L.getD j false) i := by
  funext j
  unfold more
  by_cases e : j = i
  · subst e
    simp [Array.getD, h]
  · rw [if_neg e]
    by_cases hj : j < L.size
    · simp [Array.getD, hj, Ne.symm e]
    · simp [Array.getD, hj]

theorem ready_parts {ops : Array Oper} {L : Array Bool} (hs : L.size = ops.size) {i : Nat} (h : i ∈ Region.ready .any ops L) : i < ops.size /\ L.getD i false = false /\ ∀ o, ops[i]? = some o -> ∀ e ∈ o.after, Region.binds .any e = true -> L.getD e.on false = true := by
  simp only [Region.ready, List.mem_filter, List.mem_range, Bool.and_eq_true, Bool.not_eq_true'] at h
  obtain ⟨h1, h2, h3⟩ := h
  rw [getD_in (by omega)] at h2
  refine ⟨h1, by rw [getD_in (by omega)]; exact h2, fun o ho e he hb => ?_⟩
  rw [ho] at h3
  simp only [Option.map_some, Option.getD_some, Array.all_eq_true, Bool.or_eq_true, Bool.not_eq_true'] at h3
  obtain ⟨k, hk, rfl⟩ := Array.getElem_of_mem he
  rcases h3 k hk with h | h
  · rw [hb] at h; cases h
  · exact h
theorem ready_none {ops : Array Oper} (hg : goesBack ops = true) {L : Array Bool} (hs : L.size = ops.size) (h : Region.ready .any ops L = []) : ∀ i, i < ops.size -> L.getD i false = true := by
  intro i
  induction i using Nat.strongRecOn with
  | ind i ih =>
    intro hi
    cases hl : L.getD i false with
    | true => rfl
    | false =>
      exfalso
      have hm : i ∈ Region.ready .any ops L := by
        simp only [Region.ready, List.mem_filter, List.mem_range, Bool.and_eq_true, Bool.not_eq_true']
        refine ⟨hi, ?_, ?_⟩
        · rw [getD_in (by omega)] at hl ⊢; exact hl
        have h1 := List.all_eq_true.1 hg i (List.mem_range.2 hi)
        rw [Array.getElem?_eq_getElem hi] at h1 ⊢
        simp only [Option.map_some, Option.getD_some, Array.all_eq_true, Bool.or_eq_true, Bool.not_eq_true', decide_eq_true_eq] at h1 ⊢
        intro k hk
        rcases h1 k hk with h2 | h2
        · exact .inl h2
        · exact .inr (ih _ h2 (by omega))
      rw [h] at hm
      cases hm

theorem region_inv {P : Program} {ops : Array Oper} {Q : Exit -> Act -> World -> Prop} {id : Nat} {a : Act} {w : World} (hm : P.follows .mixedOrders = true) (hg : goesBack ops = true) (Inv : (Nat -> Bool) -> Act -> World -> Prop)
    (hstep : ∀ l a w i o, ops[i]? = some o -> l i = false -> (∀ e ∈ o.after, Region.binds .any e = true -> l e.on = true) -> Inv l a w -> wpOp P ops Q i (fun a' w' => Inv (more l i) a' w') a w)
    (hend : ∀ l a w, (∀ i, i < ops.size -> l i = true) -> Inv l a w -> Q .normal a w)
    (h0 : Inv (fun _ => false) a { w with drawn := w.drawn + 1 }) : (Code.region id ops true).wp P Q a w := by
  have key : ∀ fuel (L : Array Bool) a w, L.size = ops.size -> leftN (fun j => L.getD j false) ops.size <= fuel -> Inv (fun j => L.getD j false) a w -> wpAny P .any ops Q fuel L a w := by
    intro fuel
    induction fuel with
    | zero =>
      intro L a w hs hf h
      have hall := left_zero _ _ (Nat.le_zero.1 hf)
      refine ⟨?_, hend _ _ _ hall h⟩
      cases hr : Region.ready .any ops L with
      | nil => rfl
      | cons i rs =>
        have hi := ready_parts hs (i := i) (by rw [hr]; exact List.mem_cons_self)
        have := hall i hi.1
        rw [hi.2.1] at this
        cases this
    | succ fuel ih =>
      intro L a w hs hf h
      refine ⟨fun hr => hend _ _ _ (ready_none hg hs hr) h, fun i hi => ?_⟩
      obtain ⟨h1, h2, h3⟩ := ready_parts hs hi
      refine wpOp_mono ?_ (hstep _ a w i ops[i] (Array.getElem?_eq_getElem h1) h2 (h3 _ (Array.getElem?_eq_getElem h1)) h)
      intro a' w' h'
      refine ih _ _ _ (by simpa using hs) ?_ ?_
      · rw [getD_more (by omega)]
        have := left_more (fun j => L.getD j false) ops.size h1 h2
        omega
      · rw [getD_more (by omega)]; exact h'
  refine wp_region_any hm (key _ _ _ _ (by simp) ?_ ?_)
  · have : ∀ n (l : Nat -> Bool), leftN l n <= n := fun n l => by
      induction n with
      | zero => exact Nat.le_refl _
      | succ n ih => unfold leftN; split <;> omega
    exact this _ _
  · have e : (fun j => (Array.replicate ops.size false).getD j false) = fun _ => false := by
      funext j
      simp only [Array.getD]
      split <;> simp
    rw [e]
    exact h0

end Go.Proofs.YtlnjhimbgckdcaaGreat

/-
  Trees in memory: a map from names to rows of lines, what it holds, and how it is kept while memory grows.
-/
namespace Go.Proofs.YtlnjhimbgckdcaaGreat
open Go.RowKit Go.Maps

def raw : Value -> Option (DataW Value × List MemPlace)
  | .slice A n c => some (.held (.slice A n c), [])
  | _ => none
def ent (f : ByteArray × Value) : Lit × DataW Value := (.string (bytes f.1), .held f.2)
def datum (vs : Fl Value) : DataW Value := .map (vs.map ent)

theorem ent_same (f : ByteArray × Value) (n : ByteArray) : (ent f).1.sameKey (.string (bytes n)) = decide (f.1 = n) := by
  simp only [ent, Lit.sameKey]
  by_cases h : f.1 = n
  · simp [h]
  · simp [h]; exact fun e => h (bytes_inj e)
theorem size_datum (vs : Fl Value) : Maps.size (datum vs) = vs.length := by simp [datum, Maps.size_eq]
theorem insert_datum (n : ByteArray) (v : Value) : ∀ u : Fl Value, Rising u -> (∀ f ∈ u, f.1 ≠ n) →
    DataW.insert (ent (n, v)) (u.map ent) = (u.filter (fun f => ltN f.1 n) ++ (n, v) :: u.filter (fun f => ltN n f.1)).map ent
  | [], _, _ => rfl
  | y :: r, hr, hn => by
    have hy := hn y List.mem_cons_self
    simp only [List.map_cons, DataW.insert]
    have hbf : (ent (n, v)).1.before (ent y).1 = ltN n y.1 := rfl
    by_cases h : ltN n y.1 = true
    · rw [if_pos (hbf.trans h)]
      have h1 : (y :: r).filter (fun f => ltN f.1 n) = [] := List.filter_eq_nil_iff.2 fun f hf => by
        rcases List.mem_cons.1 hf with rfl | hf
        · simp [ltN_asymm h]
        · simp [ltN_asymm (ltN_trans h (rising_head hr hf))]
      have h2 : (y :: r).filter (fun f => ltN n f.1) = y :: r := List.filter_eq_self.2 fun f hf => by
        rcases List.mem_cons.1 hf with rfl | hf
        · exact h
        · exact ltN_trans h (rising_head hr hf)
      rw [h1, h2]; rfl
    · rw [if_neg (fun e => h (hbf.symm.trans e))]
      have hlt : ltN y.1 n = true := (ltN_total hy).resolve_right h
      rw [insert_datum n v r (rising_tail hr) fun f hf => hn f (List.mem_cons_of_mem _ hf)]
      simp only [List.filter_cons, hlt, if_true]
      rw [if_neg h]; rfl
theorem put_datum {vs : Fl Value} (h : Rising vs) (n : ByteArray) (v : Value) : (datum vs).put (.string (bytes n)) (.held v) = datum (withT vs n v) := by
  have e : (vs.map ent).filter (fun p => !p.1.sameKey (.string (bytes n))) = (withoutT vs n).map ent := by
    have e : ∀ f : ByteArray × Value, (!decide (f.1 = n)) = decide (f.1 ≠ n) := fun f => by simp
    simp only [withoutT, List.filter_map, Function.comp_def, ent_same, e]
  simp only [datum, DataW.put, e]
  rw [show ((Lit.string (bytes n), DataW.held v) : Lit × DataW Value) = ent (n, v) from rfl, insert_datum n v _ (rising_without h n) fun f hf => (mem_without.1 hf).2]
  rfl

theorem own_tight {H : Type} {P : Program} {k : TypeId} {R : Value -> Option (DataW H × List MemPlace)} {w : World} {b n : Nat} {D : DataW H} (h : w.ownsMap P k R b n D) : w.ownsMap P k R b (Maps.size D) D := by
  obtain ⟨es, clock, hb, F, hs, rfl⟩ := h
  exact ⟨es, clock, hb, F, by simp [Maps.size, length_sorted], rfl⟩

def Reads (w : World) (v : Value) (l : List ByteArray) : Prop := ∃ A n c, v = .slice A n c /\ n <= c /\ Row w A n l

abbrev Held := Value × List ByteArray

structure FA (w : World) (B : Nat) (z : Fl Held) : Prop where
  own : w.ownsMap Tryz.prog 9 raw B z.length (datum (mapT (·.1) z))
  rise : Rising z
  reads : ∀ f ∈ z, Reads w f.2.1 f.2.2

def FilesAt (w : World) (B : Nat) (t : Tr) : Prop := ∃ z, FA w B z /\ mapT (·.2) z = t

structure TreeAt (w : World) (p B : Nat) (t : Tr) : Prop where
  cell : w.cell? ⟨p, 0, none⟩ = some (.map (some B))
  files : FilesAt w B t

def Turned (B : Nat) (w w' : World) : Prop := w.grownBy w' (some B)

section
variable {w w' w'' : World} {A : Option Addr} {n B p : Nat} {l : List ByteArray} {v : Value} {z : Fl Held} {t : Tr}

theorem Turned.refl (B : Nat) (w : World) : Turned B w w := ⟨rfl, rfl, rfl, Nat.le_refl _, fun _ _ _ => rfl⟩
theorem Later.turned (h : Later w w') (B : Nat) : Turned B w w' := ⟨h.os, h.tape, h.output, h.size, fun i hi _ => h.block i hi⟩
theorem Turned.trans (h : Turned B w w') (k : Turned B w' w'') : Turned B w w'' :=
  ⟨k.os.trans h.os, k.tape.trans h.tape, k.output.trans h.output, Nat.le_trans h.size k.size, fun i hi hne => (k.block i (Nat.lt_of_lt_of_le hi h.size) hne).trans (h.block i hi hne)⟩
theorem Later.turn (h : Later w w') (k : Turned B w' w'') (hB : w.heap.size <= B) : Later w w'' :=
  ⟨k.os.trans h.os, k.tape.trans h.tape, k.output.trans h.output, Nat.le_trans h.size k.size, fun i hi => (k.block i (Nat.lt_of_lt_of_le hi h.size) (fun e => by cases e; omega)).trans (h.block i hi)⟩
theorem Turned.le (h : Turned B w w') : w.heap.size <= w'.heap.size := h.size
theorem Turned.cell (h : Turned B w w') {a : Addr} {u : Value} (hc : w.cell? a = some u) (hne : a.block ≠ B) : w'.cell? a = some u :=
  (World.cell?_of_block (h.block a.block (lt_of_cell hc) (fun e => hne (by cases e; rfl)))).trans hc
theorem Turned.of_map (h : w.mapTurned w' B) : Turned B w w' := h.grown

theorem not_map {es : Array MapEntry} {c : Nat} {a : Addr} {u : Value} (hm : w.heap[B]? = some (.map es c)) (hc : w.cell? a = some u) : a.block ≠ B := by
  rintro rfl
  simp [World.cell?, hm] at hc

theorem Row.turned (h : Row w A n l) (hg : Turned B w w') {es : Array MapEntry} {c : Nat} (hm : w.heap[B]? = some (.map es c)) : Row w' A n l :=
  ⟨h.1, fun hn => by
    obtain ⟨b, o, e, hc⟩ := h.2 hn
    exact ⟨b, o, e, fun j s hs => hg.cell (hc j s hs) (not_map hm (hc j s hs))⟩⟩
theorem Reads.later (h : Reads w v l) (hl : Later w w') : Reads w' v l := by
  obtain ⟨A, n, c, rfl, hc, hr⟩ := h; exact ⟨A, n, c, rfl, hc, hr.later hl⟩
theorem Reads.turned (h : Reads w v l) (hg : Turned B w w') {es : Array MapEntry} {c : Nat} (hm : w.heap[B]? = some (.map es c)) : Reads w' v l := by
  obtain ⟨A, n, c, rfl, hc, hr⟩ := h; exact ⟨A, n, c, rfl, hc, hr.turned hg hm⟩
theorem Reads.nil (w : World) : Reads w (.slice none 0 0) [] := ⟨none, 0, 0, rfl, Nat.le_refl _, Row.none⟩

theorem FA.map (h : FA w B z) : ∃ es c, w.heap[B]? = some (.map es c) := by
  obtain ⟨es, c, hb, _⟩ := h.own; exact ⟨es, c, hb⟩
theorem FA.lt (h : FA w B z) : B < w.heap.size := h.own.lt
theorem FA.later (h : FA w B z) (hl : Later w w') : FA w' B z :=
  ⟨h.own.kept (row := none) ⟨hl.os, hl.tape, hl.output, hl.size, fun i hi _ => hl.block i hi⟩ (by simp), h.rise, fun f hf => (h.reads f hf).later hl⟩
theorem FA.other {B' : Nat} (h : FA w B z) (hg : Turned B' w w') (hne : B ≠ B') {es : Array MapEntry} {c : Nat} (hm : w.heap[B']? = some (.map es c)) : FA w' B z :=
  ⟨h.own.kept hg (by simpa using hne), h.rise, fun f hf => (h.reads f hf).turned hg hm⟩
theorem FA.put (h : FA w B z) {k : Nat} {nm : ByteArray} (hw : w'.ownsMap Tryz.prog 9 raw B k ((datum (mapT (·.1) z)).put (.string (bytes nm)) (.held v))) (ht : w.mapTurned w' B) (hr : Reads w v l) : FA w' B (withT z nm (v, l)) := by
  have e : (datum (mapT (·.1) z)).put (.string (bytes nm)) (.held v) = datum (mapT (·.1) (withT z nm (v, l))) := by
    rw [put_datum (rising_map.2 h.rise), ← withT_map (fun x : Held => x.1)]
  obtain ⟨es, c, hm⟩ := h.map
  have hg := Turned.of_map ht
  refine ⟨?_, rising_with h.rise _ _, fun f hf => ?_⟩
  · have := own_tight hw
    rw [e, size_datum, mapT_length] at this
    exact this
  · rcases mem_with.1 hf with rfl | hf
    · exact hr.turned hg hm
    · exact (h.reads f hf.1).turned hg hm
theorem FA.made (w : World) : FA (w.alloc (.map #[] 0)) w.heap.size [] := ⟨World.ownsMap_made w _ _ _, rising_nil, fun f hf => by cases hf⟩

theorem FilesAt.later (h : FilesAt w B t) (hl : Later w w') : FilesAt w' B t := by obtain ⟨z, h, rfl⟩ := h; exact ⟨z, h.later hl, rfl⟩
theorem FilesAt.lt (h : FilesAt w B t) : B < w.heap.size := by obtain ⟨z, h, _⟩ := h; exact h.lt
theorem FilesAt.map (h : FilesAt w B t) : ∃ es c, w.heap[B]? = some (.map es c) := by obtain ⟨z, h, _⟩ := h; exact h.map
theorem FilesAt.rise (h : FilesAt w B t) : Rising t := by obtain ⟨z, h, rfl⟩ := h; exact rising_map.2 h.rise
theorem FilesAt.other {B' : Nat} (h : FilesAt w B t) (hg : Turned B' w w') (hne : B ≠ B') {es : Array MapEntry} {c : Nat} (hm : w.heap[B']? = some (.map es c)) : FilesAt w' B t := by
  obtain ⟨z, h, rfl⟩ := h; exact ⟨z, h.other hg hne hm, rfl⟩
theorem TreeAt.later (h : TreeAt w p B t) (hl : Later w w') : TreeAt w' p B t := ⟨hl.cell h.cell, h.files.later hl⟩
theorem TreeAt.ne (h : TreeAt w p B t) : p ≠ B := by
  obtain ⟨es, c, hm⟩ := h.files.map
  exact not_map hm h.cell
theorem TreeAt.lt (h : TreeAt w p B t) : p < w.heap.size := lt_of_cell h.cell
theorem TreeAt.to {t' : Tr} (h : TreeAt w p B t) (hg : Turned B w w') (hf : FilesAt w' B t') : TreeAt w' p B t' := ⟨hg.cell h.cell h.ne, hf⟩
theorem TreeAt.other {B' : Nat} (h : TreeAt w p B t) (hg : Turned B' w w') (hne : B ≠ B') {es : Array MapEntry} {c : Nat} (hm : w.heap[B']? = some (.map es c)) : TreeAt w' p B t :=
  ⟨hg.cell h.cell (not_map hm h.cell), h.files.other hg hne hm⟩
end

theorem FA.get {w : World} {B : Nat} {z : Fl Held} (h : FA w B z) {nm : ByteArray} {x : Held} (hx : getT z nm = some x) : Reads w x.1 x.2 := h.reads _ (getT_mem hx)

end Go.Proofs.YtlnjhimbgckdcaaGreat

/-
  A cell that is written: what stands, and what has turned.
-/
namespace Go.Proofs.YtlnjhimbgckdcaaGreat
open Go.RowKit Go.Maps

theorem Own.first {w0 w : World} {v : Value} {l : List ByteArray} (h : Own 9 w0 w v l) (h1 : 1 <= l.length) :
    ∃ g cap cur, v = .slice (some ⟨g, 0, none⟩) l.length cap /\ l.length <= cap /\ w0.heap.size <= g /\ w.heap[g]? = some (.cells cur 9 (0, 0)) /\ w.cell? ⟨g, 0, none⟩ = some (.string (l.getD 0 ByteArray.empty)) := by
  rcases h.1.2 with ⟨_, h0⟩ | ⟨g, cap, cur, hv, hg, hh, hnc, hm, hs, ht⟩
  · omega
  · refine ⟨g, cap, cur, hv, hnc, hg, hh, ?_⟩
    obtain ⟨A, c, hv2, _, hr⟩ := h.row
    rw [hv] at hv2
    simp only [Value.slice.injEq] at hv2
    obtain ⟨rfl, -, -⟩ := hv2
    obtain ⟨b, o, e, hc⟩ := hr.get (k := 0) (by omega)
    simp only [Option.some.injEq, Addr.mk.injEq] at e
    obtain ⟨rfl, rfl, -⟩ := e
    exact hc
theorem frozen_no {w : World} {g : Nat} {cur : Array Value} {t : TypeId} (h : w.heap[g]? = some (.cells cur t (0, 0))) (i : Nat) : w.frozen? ⟨g, i, none⟩ = false := by
  simp [World.frozen?, h]
theorem turned_set (w : World) (g i : Nat) (u : Value) : Turned g w (w.setCell ⟨g, i, none⟩ u) :=
  ⟨rfl, rfl, rfl, by simp, fun k _ hne => RowKit.Below.heap_setCell _ _ _ _ (fun e => hne (by rw [e]))⟩
theorem Turned.more {B g : Nat} {w w' w'' : World} (h : Turned B w w') (k : Turned g w' w'') (hg : w.heap.size <= g) : Turned B w w'' :=
  ⟨k.os.trans h.os, k.tape.trans h.tape, k.output.trans h.output, Nat.le_trans h.size k.size, fun i hi hne => (k.block i (Nat.lt_of_lt_of_le hi h.size) (fun e => by cases e; omega)).trans (h.block i hi hne)⟩
theorem Own.other {e : TypeId} {w0 w w' : World} {v : Value} {ss : List ByteArray} {g : Nat} (h : Own e w0 w v ss) (hg : Turned g w w') (hv : v.ownBlock ≠ some g) (hl : Later w0 w') : Own e w0 w' v ss :=
  ⟨h.1.kept hg (.inr hv), hl⟩

end Go.Proofs.YtlnjhimbgckdcaaGreat

/-
  What prim's Clone comes to, as a call.
-/
namespace Go.Proofs.YtlnjhimbgckdcaaGreat
open Go.RowKit

def BoxAt (w : World) (g : Nat) (cs : Array Value) (t : TypeId) : Prop := w.heap[g]? = some (.cells cs t (0, 0))
section
variable {w w' : World} {g : Nat} {cs : Array Value} {t : TypeId}
theorem BoxAt.lt (h : BoxAt w g cs t) : g < w.heap.size := (Array.getElem?_eq_some_iff.1 h).1
theorem BoxAt.later (h : BoxAt w g cs t) (hl : Later w w') : BoxAt w' g cs t := (hl.block g h.lt).trans h
theorem BoxAt.other {b : Nat} (h : BoxAt w g cs t) (hg : Turned b w w') (hne : g ≠ b) : BoxAt w' g cs t := (hg.block g h.lt (by simpa using hne)).trans h
theorem BoxAt.cell (h : BoxAt w g cs t) {i : Nat} {v : Value} (hv : cs[i]? = some v) : w.cell? ⟨g, i, none⟩ = some v := by
  unfold BoxAt at h
  simp only [World.cell?, h]
  exact hv
theorem BoxAt.frozen (h : BoxAt w g cs t) (i : Nat) : w.frozen? ⟨g, i, none⟩ = false := frozen_no h i
theorem BoxAt.made (w : World) (cs : Array Value) (t : TypeId) : BoxAt (w.alloc (.cells cs t)) w.heap.size cs t := heap_alloc_new w _
theorem BoxAt.set (h : BoxAt w g cs t) (i : Nat) (v : Value) : BoxAt (w.setCell ⟨g, i, none⟩ v) g (cs.setIfInBounds i v) t := heap_setCell_same w g i cs t v h
theorem BoxAt.alloc (h : BoxAt w g cs t) (o : Obj) : BoxAt (w.alloc o) g cs t := h.later ((Later.refl w).alloc o)
theorem BoxAt.set6 {x0 x1 x2 x3 x4 x5 : Value} (h : BoxAt w g #[x0, x1, x2, x3, x4, x5] t) (v0 v1 v2 v3 v4 v5 : Value) : BoxAt ((((((w.setCell ⟨g, 0, none⟩ v0).setCell ⟨g, 1, none⟩ v1).setCell ⟨g, 2, none⟩ v2).setCell ⟨g, 3, none⟩ v3).setCell ⟨g, 4, none⟩ v4).setCell ⟨g, 5, none⟩ v5) g #[v0, v1, v2, v3, v4, v5] t :=
  (((((h.set 0 v0).set 1 v1).set 2 v2).set 3 v3).set 4 v4).set 5 v5
theorem turned_set6 (w : World) (g : Nat) (v0 v1 v2 v3 v4 v5 : Value) : Turned g w ((((((w.setCell ⟨g, 0, none⟩ v0).setCell ⟨g, 1, none⟩ v1).setCell ⟨g, 2, none⟩ v2).setCell ⟨g, 3, none⟩ v3).setCell ⟨g, 4, none⟩ v4).setCell ⟨g, 5, none⟩ v5) :=
  (((((turned_set w g 0 v0).trans (turned_set _ g 1 v1)).trans (turned_set _ g 2 v2)).trans (turned_set _ g 3 v3)).trans (turned_set _ g 4 v4)).trans (turned_set _ g 5 v5)
end
theorem Tryz.primSize : (Tryz.prog.info? 58).map (·.size) = some 6 := by kernel_rfl

set_option maxRecDepth 100000 in
set_option maxHeartbeats 800000 in
theorem primClone_any (x : PrC) (w : World) (hx : PrOk w x) :
    Calls Tryz.prog 38 #[prV x] w (GivesPr x.v w) := by
  obtain ⟨⟨kd, nm, to, pl, old, new⟩, A, n, c, B, m, d⟩ := x
  unfold prV
  dsimp only
  have HX := Lib.hid hx
  clear hx
  go_enter Tryz.func38, Tryz.ntmps38
  go_wp2_with fail
  have hb0 : BoxAt ((w.alloc (.cells #[.int .i64 kd, .string nm, .string to, .int .i64 pl, .slice A n c, .slice B m d] 58)).alloc (.cells #[.int .i64 0, .string ⟨#[]⟩, .string ⟨#[]⟩, .int .i64 0, .slice none 0 0, .slice none 0 0] 58)) w.heap.size #[.int .i64 kd, .string nm, .string to, .int .i64 pl, .slice A n c, .slice B m d] 58 := (BoxAt.made w _ _).alloc _
  have hb1 : BoxAt ((w.alloc (.cells #[.int .i64 kd, .string nm, .string to, .int .i64 pl, .slice A n c, .slice B m d] 58)).alloc (.cells #[.int .i64 0, .string ⟨#[]⟩, .string ⟨#[]⟩, .int .i64 0, .slice none 0 0, .slice none 0 0] 58)) (w.heap.size + 1) #[.int .i64 0, .string ⟨#[]⟩, .string ⟨#[]⟩, .int .i64 0, .slice none 0 0, .slice none 0 0] 58 := by
    have := BoxAt.made (w.alloc (.cells #[.int .i64 kd, .string nm, .string to, .int .i64 pl, .slice A n c, .slice B m d] 58)) #[.int .i64 0, .string ⟨#[]⟩, .string ⟨#[]⟩, .int .i64 0, .slice none 0 0, .slice none 0 0] 58
    simpa using this
  have hlb : Later w ((w.alloc (.cells #[.int .i64 kd, .string nm, .string to, .int .i64 pl, .slice A n c, .slice B m d] 58)).alloc (.cells #[.int .i64 0, .string ⟨#[]⟩, .string ⟨#[]⟩, .int .i64 0, .slice none 0 0, .slice none 0 0] 58)) := ((Later.refl w).alloc _).alloc _
  generalize (w.alloc (.cells #[.int .i64 kd, .string nm, .string to, .int .i64 pl, .slice A n c, .slice B m d] 58)).alloc (.cells #[.int .i64 0, .string ⟨#[]⟩, .string ⟨#[]⟩, .int .i64 0, .slice none 0 0, .slice none 0 0] 58) = wb at hb0 hb1 hlb ⊢
  have hlt := hb1.lt
  refine (clone_any A n c old wb (HX.out.old.later hlb) HX.out.omost).mono ?_
  rintro e w1 ⟨u, rfl, hu⟩
  obtain ⟨A1, c1, hv1, hcc1, hr1⟩ := hu.row
  subst hv1
  have b0 := hb0.later hu.later
  have c4 := b0.cell (i := 4) rfl
  have f4 := b0.frozen 4
  have b0' := b0.set 4 (.slice A1 old.length c1)
  have c5 := b0'.cell (i := 5) rfl
  have f5 := b0'.frozen 5
  have HB0 := Lib.hid b0'
  have HB1 := Lib.hid ((hb1.later hu.later).other (turned_set w1 w.heap.size 4 (.slice A1 old.length c1)) (by omega))
  have hle := hu.later.le
  have HL1 := Lib.hid ((hlb.trans hu.later).turn (turned_set w1 w.heap.size 4 (.slice A1 old.length c1)) (Nat.le_refl _))
  have HU := Lib.hid (hu.base hlb)
  have HU1 : Hid (Own 9 w (w1.setCell ⟨w.heap.size, 4, none⟩ (.slice A1 old.length c1)) (.slice A1 old.length c1) old) := (HU.out).other (turned_set w1 w.heap.size 4 (.slice A1 old.length c1)) (fun e => by have := hu.block _ e; omega) HL1.out
  have HUB : Hid (∀ b, (Value.slice A1 old.length c1).ownBlock = some b -> wb.heap.size <= b) := hu.block
  clear hb0 hb1 hu b0 b0' hr1 hcc1
  go_wp2_with fail
  generalize w1.setCell ⟨w.heap.size, 4, none⟩ (.slice A1 old.length c1) = w2 at HB0 HB1 HL1 HU1 c5 f5 ⊢
  clear c4 f4 HU
  refine (clone_any B m d new w2 (HX.out.new.later HL1.out) HX.out.nmost).mono ?_
  rintro e w3 ⟨u2, rfl, hu2⟩
  obtain ⟨A3, c3, hv3, hcc3, hr3⟩ := hu2.row
  subst hv3
  have b0 := HB0.out.later hu2.later
  have b1 := HB1.out.later hu2.later
  have e5 := b0.cell (i := 5) rfl
  have g5 := b0.frozen 5
  have hlt2 := HB1.out.lt
  have d0 := b0.set 5 (.slice A3 new.length c3)
  have d1 := b1.other (turned_set w3 w.heap.size 5 (.slice A3 new.length c3)) (by omega)
  have HL4 := Lib.hid ((HL1.out.trans hu2.later).turn (turned_set w3 w.heap.size 5 (.slice A3 new.length c3)) (Nat.le_refl _))
  have HU4 : Hid (Own 9 w (w3.setCell ⟨w.heap.size, 5, none⟩ (.slice A3 new.length c3)) (.slice A1 old.length c1) old) := (HU1.out.on hu2.later).other (turned_set w3 w.heap.size 5 (.slice A3 new.length c3)) (fun e => by have := HUB.out _ e; omega) HL4.out
  have HV4 : Hid (Own 9 w (w3.setCell ⟨w.heap.size, 5, none⟩ (.slice A3 new.length c3)) (.slice A3 new.length c3) new) := (hu2.base HL1.out).other (turned_set w3 w.heap.size 5 (.slice A3 new.length c3)) (fun e => by have := hu2.block _ e; omega) HL4.out
  have HVB : Hid (∀ b, (Value.slice A3 new.length c3).ownBlock = some b -> w2.heap.size <= b) := hu2.block
  have HUL : Hid (∀ b, (Value.slice A1 old.length c1).ownBlock = some b -> b < w2.heap.size) := fun b hb => HU1.out.lt hb
  clear hu2 b0 b1 c5 f5
  have x0 := d0.cell (i := 0) rfl; have x1 := d0.cell (i := 1) rfl; have x2 := d0.cell (i := 2) rfl; have x3 := d0.cell (i := 3) rfl; have x4 := d0.cell (i := 4) rfl; have x5 := d0.cell (i := 5) rfl
  have y0 := d1.cell (i := 0) rfl; have y1 := d1.cell (i := 1) rfl; have y2 := d1.cell (i := 2) rfl; have y3 := d1.cell (i := 3) rfl; have y4 := d1.cell (i := 4) rfl; have y5 := d1.cell (i := 5) rfl
  have z0 := d1.frozen 0; have z1 := d1.frozen 1; have z2 := d1.frozen 2; have z3 := d1.frozen 3; have z4 := d1.frozen 4; have z5 := d1.frozen 5
  have HD1 := Lib.hid d1
  clear d0 d1
  go_wp2
  have hset := turned_set6 (w3.setCell ⟨w.heap.size, 5, none⟩ (.slice A3 new.length c3)) (w.heap.size + 1) (.int .i64 kd) (.string nm) (.string to) (.int .i64 pl) (.slice A1 old.length c1) (.slice A3 new.length c3)
  have hlw := HL4.out.turn hset (by omega)
  refine bodyPost_ret (results_cell_row rfl _ _ (w.heap.size + 1) 58 _ (0, 0) _ rfl (HD1.out.set6 (.int .i64 kd) (.string nm) (.string to) (.int .i64 pl) (.slice A1 old.length c1) (.slice A3 new.length c3)) Tryz.underlying58 rfl Tryz.primSize) rfl ?_
  refine ⟨(.slice A1 old.length c1), (.slice A3 new.length c3), rfl, HU4.out.other hset (fun e => ?_) hlw, HV4.out.other hset (fun e => ?_) hlw, fun b h1 h2 => ?_⟩
  · have := HUB.out _ e; omega
  · have := HVB.out _ e; omega
  · have := HUL.out _ h1
    have := HVB.out _ h2
    omega

end Go.Proofs.YtlnjhimbgckdcaaGreat

/-
  The operations of a region that draws its order, one by one; the frame behind them.
-/
namespace Go.Proofs.YtlnjhimbgckdcaaGreat
open Go.RowKit

def needs (o : Oper) (js : List Nat) : Bool := js.all fun j => o.after.any fun e => decide (e.on = j) && Region.binds .any e
def OpIs (ops : Array Oper) (i : Nat) (op : Op) (dst : Option Tmp) (js : List Nat) : Prop := ∃ o, ops[i]? = some o /\ o.op = op /\ o.dst = dst /\ o.guard = none /\ needs o js = true
theorem OpIs.waits {ops : Array Oper} {i : Nat} {op : Op} {dst : Option Tmp} {js : List Nat} (h : OpIs ops i op dst js) {o : Oper} (ho : ops[i]? = some o) {l : Nat -> Bool} (hl : ∀ e ∈ o.after, Region.binds .any e = true -> l e.on = true) : ∀ j ∈ js, l j = true := by
  obtain ⟨o', h1, -, -, -, h5⟩ := h
  rw [ho] at h1
  cases h1
  intro j hj
  have := List.all_eq_true.1 h5 j hj
  simp only [Array.any_eq_true, Bool.and_eq_true, decide_eq_true_eq] at this
  obtain ⟨k, hk, e1, e2⟩ := this
  rw [← e1]
  exact hl _ (Array.getElem_mem hk) e2

section
variable {P : Program} {ops : Array Oper} {Q : Exit -> Act -> World -> Prop} {K : Act -> World -> Prop} {i : Nat} {dst : Option Tmp} {js : List Nat} {a : Act} {w : World}
theorem OpIs.go {op : Op} (h : OpIs ops i op dst js) (hk : ∀ o : Oper, o.op = op -> o.dst = dst -> o.wp P a w K Q) : wpOp P ops Q i K a w := by
  obtain ⟨o, h1, h2, h3, h4, -⟩ := h
  unfold wpOp
  rw [h1]
  dsimp only
  rw [if_pos (by simp [Region.wanted, h4])]
  exact .inl (hk o h2 h3)
theorem OpIs.move {k : Tmp} (h : OpIs ops i (.move (.tmp k)) dst js) (hk : K (a.put dst (a.eval (.tmp k))) w) : wpOp P ops Q i K a w :=
  h.go fun o h1 h2 => by
    unfold Oper.wp execOp
    rw [h1]
    simp only [Sem.run_pure]
    show K _ _
    rw [h2]
    exact hk
theorem OpIs.assign {k : Tmp} (h : OpIs ops i (.assign (.tmp k)) dst js) (hk : K (a.put dst (a.eval (.tmp k))) w) : wpOp P ops Q i K a w :=
  h.go fun o h1 h2 => by
    unfold Oper.wp execOp
    rw [h1]
    simp only [Sem.run_pure]
    show K _ _
    rw [h2]
    exact hk
theorem OpIs.extract {k : Tmp} {n : Nat} {vs : Array Value} {v : Value} (h : OpIs ops i (.extract (.tmp k) n) dst js) (he : a.eval (.tmp k) = .tuple vs) (hv : vs[n]? = some v) (hk : K (a.put dst v) w) : wpOp P ops Q i K a w :=
  h.go fun o h1 h2 => by
    unfold Oper.wp execOp
    rw [h1]
    simp only [he, Instr.extract, hv, Sem.run_bind, Sem.run_pure, Result.andThen_ok]
    show K _ _
    rw [h2]
    exact hk
end

section
variable {ops : Array Oper} {Q : Exit -> Act -> World -> Prop} {K : Act -> World -> Prop} {i : Nat} {dst : Option Tmp} {js : List Nat} {a : Act} {w : World}
theorem OpIs.load {ty : TypeId} {k : Tmp} {g : Nat} {x : PrC} {t : TypeId} {fs : Array Field} (h : OpIs ops i (.load ty (.tmp k)) dst js) (hu : Tryz.prog.underlying ty = some (.struct fs)) (hi : (Tryz.prog.info? ty).map (·.size) = some 6)
    (he : a.eval (.tmp k) = .pointer (some ⟨g, 0, none⟩)) (hb : BoxAt w g (prL x).toArray t) (hk : K (a.put dst (prV x)) w) : wpOp Tryz.prog ops Q i K a w :=
  h.go fun o h1 h2 => by
    refine wp_load_row ty (.tmp k) h1 g he t (prL x).toArray (0, 0) _ hb hu rfl hi ?_
    rw [h2]
    exact hk
theorem OpIs.call1 {f : FuncId} {k : Tmp} {t : TypeId} {v : Value} {Post : Ending -> World -> Prop} (h : OpIs ops i (.call { callee := .value (.func f), args := #[.tmp k], argTypes := #[t] }) dst js) (hf : ∀ args w, (callFunc f args).run Tryz.prog w = .ok (.enter f args) w)
    (he : a.eval (.tmp k) = v) (hc : Calls Tryz.prog f #[v] w Post) (hk : ∀ e w', Post e w' -> ∃ u, e = .returned u /\ K (a.put dst u) w') : wpOp Tryz.prog ops Q i K a w :=
  h.go fun o h1 h2 => by
    have hr : (execOp a.eval o).run Tryz.prog w = .ok (.enter f #[v]) w := by
      unfold execOp
      rw [h1]
      simp only [resolve, invoke, Sem.run_bind, List.map_toArray, List.map_cons, List.map_nil, he]
      go_simp
    unfold Oper.wp
    rw [hr]
    show Calls _ _ _ _ _
    refine hc.mono ?_
    intro e w' hp
    obtain ⟨u, rfl, hku⟩ := hk e w' hp
    dsimp only
    rw [h2]
    exact hku
theorem OpIs.call2 {f : FuncId} {k m : Tmp} {t s : TypeId} {v u : Value} {Post : Ending -> World -> Prop} (h : OpIs ops i (.call { callee := .value (.func f), args := #[.tmp k, .tmp m], argTypes := #[t, s] }) dst js) (hf : ∀ args w, (callFunc f args).run Tryz.prog w = .ok (.enter f args) w)
    (he : a.eval (.tmp k) = v) (he2 : a.eval (.tmp m) = u) (hc : Calls Tryz.prog f #[v, u] w Post) (hk : ∀ e w', Post e w' -> ∃ r, e = .returned r /\ K (a.put dst r) w') : wpOp Tryz.prog ops Q i K a w :=
  h.go fun o h1 h2 => by
    have hr : (execOp a.eval o).run Tryz.prog w = .ok (.enter f #[v, u]) w := by
      unfold execOp
      rw [h1]
      simp only [resolve, invoke, Sem.run_bind, List.map_toArray, List.map_cons, List.map_nil, he, he2]
      go_simp
    unfold Oper.wp
    rw [hr]
    show Calls _ _ _ _ _
    refine hc.mono ?_
    intro e w' hp
    obtain ⟨r, rfl, hku⟩ := hk e w' hp
    dsimp only
    rw [h2]
    exact hku
def zeroL : Array Value := #[.int .i64 0, .string ⟨#[]⟩, .string ⟨#[]⟩, .int .i64 0, .slice none 0 0, .slice none 0 0]
theorem OpIs.alloc (h : OpIs ops i (.alloc 58) dst js) (hk : K (a.put dst (.pointer (some ⟨w.heap.size, 0, none⟩))) (w.alloc (.cells zeroL 58))) : wpOp Tryz.prog ops Q i K a w :=
  h.go fun o h1 h2 => by
    have hr : (execOp a.eval o).run Tryz.prog w = .ok (.value (.pointer (some ⟨w.heap.size, 0, none⟩))) (w.alloc (.cells zeroL 58)) := by
      unfold execOp
      rw [h1]
      go_simp
      rfl
    unfold Oper.wp
    rw [hr]
    show K _ _
    rw [h2]
    exact hk
theorem OpIs.store {j k : Tmp} {g : Nat} {x : PrC} {cs : Array Value} (h : OpIs ops i (.store 58 (.tmp j) (.tmp k)) none js) (hj : a.eval (.tmp j) = .pointer (some ⟨g, 0, none⟩)) (hv : a.eval (.tmp k) = prV x) (hb : BoxAt w g cs 58) (hs : cs.size = 6)
    (hk : ∀ w', BoxAt w' g (prL x).toArray 58 -> Turned g w w' -> K a w') : wpOp Tryz.prog ops Q i K a w :=
  h.go fun o h1 h2 => by
    match cs, hs with
    | ⟨[x0, x1, x2, x3, x4, x5]⟩, _ =>
      have y0 : w.cell? ⟨g, 0, none⟩ = some x0 := hb.cell rfl
      have y1 : w.cell? ⟨g, 1, none⟩ = some x1 := hb.cell rfl
      have y2 : w.cell? ⟨g, 2, none⟩ = some x2 := hb.cell rfl
      have y3 : w.cell? ⟨g, 3, none⟩ = some x3 := hb.cell rfl
      have y4 : w.cell? ⟨g, 4, none⟩ = some x4 := hb.cell rfl
      have y5 : w.cell? ⟨g, 5, none⟩ = some x5 := hb.cell rfl
      have z0 := hb.frozen 0; have z1 := hb.frozen 1; have z2 := hb.frozen 2; have z3 := hb.frozen 3; have z4 := hb.frozen 4; have z5 := hb.frozen 5
      have hb' := hb.set6 (.int .i64 x.v.kind) (.string x.v.name) (.string x.v.to) (.int .i64 x.v.place) (.slice x.A x.n x.c) (.slice x.B x.m x.d)
      have ht := turned_set6 w g (.int .i64 x.v.kind) (.string x.v.name) (.string x.v.to) (.int .i64 x.v.place) (.slice x.A x.n x.c) (.slice x.B x.m x.d)
      have hr : (execOp a.eval o).run Tryz.prog w = .ok .skip ((((((w.setCell ⟨g, 0, none⟩ (.int .i64 x.v.kind)).setCell ⟨g, 1, none⟩ (.string x.v.name)).setCell ⟨g, 2, none⟩ (.string x.v.to)).setCell ⟨g, 3, none⟩ (.int .i64 x.v.place)).setCell ⟨g, 4, none⟩ (.slice x.A x.n x.c)).setCell ⟨g, 5, none⟩ (.slice x.B x.m x.d)) := by
        clear hb hb' ht hk
        unfold prV at hv
        unfold execOp
        rw [h1]
        dsimp only
        rw [hj, hv]
        go_simp
      unfold Oper.wp
      rw [hr]
      show K _ _
      rw [h2]
      exact hk _ hb' ht
end

theorem eval_put_same' (a : Act) (k : Tmp) (v : Value) (h : k < a.tmps.size) : (a.put (some k) v).eval (.tmp k) = v := by
  simp [Act.put, Act.eval, h]
theorem eval_put_other' (a : Act) {j k : Tmp} (v : Value) (h : j ≠ k) : (a.put (some j) v).eval (.tmp k) = a.eval (.tmp k) := by
  simp [Act.put, Act.eval, h]

structure SameOut (a1 a : Act) (ds : List Nat) : Prop where
  defers : a.defers = a1.defers
  size : a.tmps.size = a1.tmps.size
  out : ∀ k, k ∉ ds -> a.tmps[k]? = a1.tmps[k]?
theorem SameOut.refl (a : Act) (ds : List Nat) : SameOut a a ds := ⟨rfl, rfl, fun _ _ => rfl⟩
theorem SameOut.put {a1 a : Act} {ds : List Nat} (h : SameOut a1 a ds) {k : Nat} (hk : k ∈ ds) (v : Value) : SameOut a1 (a.put (some k) v) ds :=
  ⟨by simp [Act.put, h.defers], by simp [Act.put, h.size], fun j hj => by
    have hne : k ≠ j := fun e => hj (e ▸ hk)
    simp only [Act.put]
    rw [Array.getElem?_setIfInBounds_ne hne]
    exact h.out j hj⟩
theorem SameOut.is {a1 a : Act} {ds : List Nat} (h : SameOut a1 a ds) : a = ds.foldl (fun b k => b.put (some k) (a.eval (.tmp k))) a1 := by
  obtain ⟨h1, h2, h3⟩ := h
  induction ds generalizing a1 with
  | nil =>
    cases a; cases a1
    simp only [List.foldl_nil] at *
    subst h1
    congr 1
    exact Array.ext h2 fun i hi hj => by
      have := h3 i (by simp)
      rw [Array.getElem?_eq_getElem hi, Array.getElem?_eq_getElem hj] at this
      exact Option.some.inj this
  | cons k ds ih =>
    rw [List.foldl_cons]
    refine ih (by simp [Act.put, h1]) (by simp [Act.put, h2]) fun j hj => ?_
    by_cases e : k = j
    · subst e
      simp only [Act.put, Act.eval]
      by_cases hs : k < a1.tmps.size
      · rw [Array.getElem?_setIfInBounds_self_of_lt hs, Array.getElem?_eq_getElem (by omega)]
        simp [Array.getD, h2, hs]
      · rw [Array.getElem?_eq_none (by omega), Array.getElem?_eq_none (by simp; omega)]
    · simp only [Act.put]
      rw [Array.getElem?_setIfInBounds_ne e]
      exact h3 j (by simp [hj, Ne.symm e])

end Go.Proofs.YtlnjhimbgckdcaaGreat

/-
  What tree.Named and the document's Named come to, as calls.
-/
namespace Go.Proofs.YtlnjhimbgckdcaaGreat
open Go.RowKit

theorem nameByte_iff (c : UInt8) : nameByte c = true ↔ (97 <= (c.toNat : Int) /\ (c.toNat : Int) <= 122) ∨ (48 <= (c.toNat : Int) /\ (c.toNat : Int) <= 57) ∨ (c.toNat : Int) = 46 ∨ (c.toNat : Int) = 45 ∨ (c.toNat : Int) = 95 ∨ (c.toNat : Int) = 47 := by
  have e : ∀ d : UInt8, c = d ↔ (c.toNat : Int) = d.toNat := fun d => ⟨fun h => by rw [h], fun h => UInt8.toNat.inj (by omega)⟩
  simp only [nameByte, Bool.or_eq_true, Bool.and_eq_true, decide_eq_true_eq, UInt8.le_iff_toNat_le, beq_iff_eq, e]
  simp only [UInt8.reduceToNat]
  omega

set_option maxHeartbeats 400000 in
theorem fits_any (c : UInt8) (w : World) : Calls Tryz.prog 81 #[.int .u8 (c.toNat : Int)] w fun e w' => e = .returned (.bool (nameByte c)) /\ w = w' := by
  have hc := nameByte_iff c
  generalize nameByte c = b at hc ⊢
  have HC := Lib.hid hc; clear hc
  have h0 : (0 : Int) <= (c.toNat : Int) := by omega
  have h1 : (c.toNat : Int) < 256 := by have := c.toNat_lt; omega
  generalize (c.toNat : Int) = n at *
  go_enter Tryz.func81, Tryz.ntmps81
  go_wp2
  all_goals
    go_ret
    refine ⟨ret_bool ?_, rfl⟩
    rw [Bool.eq_iff_iff, HC.out]
    simp_all
    try omega

theorem named_no {s : ByteArray} {k : Nat} {c : UInt8} (hk : (bytes s)[k]? = some c) (hc : nameByte c = false) : namedB s = false := by
  have : (bytes s).all nameByte = false := List.all_eq_false.2 ⟨c, List.mem_of_getElem? hk, by simp [hc]⟩
  simp [namedB, this]
theorem named_yes {s : ByteArray} (h : ∀ (k : Nat) (c : UInt8), (bytes s)[k]? = some c -> nameByte c = true) : namedB s = (decide (1 <= s.size) && decide (s.size <= 24)) := by
  have : (bytes s).all nameByte = true := List.all_eq_true.2 fun c hc => by
    obtain ⟨k, hk⟩ := List.getElem?_of_mem hc
    exact h k c hk
  simp [namedB, this]

set_option maxHeartbeats 400000 in
theorem named_any (s : ByteArray) (w : World) (hs : s.size <= maxLen) : Calls Tryz.prog 72 #[.string s] w fun e w' => e = .returned (.bool (namedB s)) /\ w = w' := by
  unfold maxLen at hs
  by_cases h1 : s.size < 1
  · have e : namedB s = false := by simp [namedB]; omega
    have E := Lib.hid e; clear e
    have hd : decide ((s.size : Int) < 1) = true := by simp; omega
    go_enter Tryz.func72, Tryz.ntmps72
    go_wp2
    go_ret
    exact ⟨ret_bool E.out.symm, rfl⟩
  · have hd : decide ((s.size : Int) < 1) = false := by simp; omega
    by_cases h2 : 24 < s.size
    · have e : namedB s = false := by simp [namedB]; omega
      have E := Lib.hid e; clear e
      have hd2 : decide ((24 : Int) < s.size) = true := by simp; omega
      go_enter Tryz.func72, Tryz.ntmps72
      go_wp2
      go_ret
      exact ⟨ret_bool E.out.symm, rfl⟩
    · have hd2 : decide ((24 : Int) < s.size) = false := by simp; omega
      go_enter Tryz.func72, Tryz.ntmps72
      go_wp2
      clear hd hd2
      go_loop [14] (fun i => ∃ k : Nat, k <= s.size /\ i = .int .i64 k /\ Hid (∀ (j : Nat) (c : UInt8), j < k -> (bytes s)[j]? = some c -> nameByte c = true)) (fun i => s.size - (intOf i).toNat)
      case atStart => exact ⟨0, Nat.zero_le _, rfl, fun j c hj => absurd hj (Nat.not_lt_zero _)⟩
      case round =>
        obtain ⟨k, hk, rfl, hno⟩ := hrel
        by_cases hlt : k < s.size
        · have hat : (bytes s)[k]? = some s[k] := byte_at hlt
          have hf := fits_any s[k] w
          cases hb : nameByte s[k]
          · rw [hb] at hf
            have e := named_no hat hb
            have E := Lib.hid e
            have HF := Lib.hid hf
            clear hf hb e hat hno
            go_wp2_with (go_at_call 81; refine HF.out.mono ?_; rintro e w' ⟨rfl, rfl⟩)
            go_ret
            exact ⟨ret_bool E.out.symm, rfl⟩
          · rw [hb] at hf
            have HA : Hid (∀ (j : Nat) (c : UInt8), j < k + 1 -> (bytes s)[j]? = some c -> nameByte c = true) := fun j c hj hjc => by
              by_cases e : j = k
              · subst e; rw [hat] at hjc; cases hjc; exact hb
              · exact hno.out j c (by omega) hjc
            have HF := Lib.hid hf
            clear hf hb hat hno
            go_wp2_with (go_at_call 81; refine HF.out.mono ?_; rintro e w' ⟨rfl, rfl⟩)
            exact ⟨⟨k + 1, by omega, by go_num, HA⟩, by simp [intOf]; omega⟩
        · have e : namedB s = true := by
            rw [named_yes fun j c hc => hno.out j c (by have := (List.getElem?_eq_some_iff.1 hc).1; rw [bytes_length] at this; omega) hc]
            simp; omega
          have E := Lib.hid e; clear e hno
          go_wp2
          go_ret
          exact ⟨ret_bool E.out.symm, rfl⟩

set_option maxHeartbeats 800000 in
theorem refNamed_any (s : ByteArray) (w : World) (hs : s.size <= maxLen) : Calls Tryz.prog 67 #[.string s] w fun e w' => e = .returned (.bool (namedB s)) /\ w = w' := by
  unfold maxLen at hs
  go_enter Tryz.func67, Tryz.ntmps67
  go_wp2
  go_loop [3] (fun i => ∃ k : Nat, k <= s.size /\ i = .int .i64 k /\ Hid (∀ (j : Nat) (c : UInt8), j < k -> (bytes s)[j]? = some c -> nameByte c = true)) (fun i => s.size - (intOf i).toNat)
  case atStart => exact ⟨0, Nat.zero_le _, rfl, fun j c hj => absurd hj (Nat.not_lt_zero _)⟩
  case round =>
    obtain ⟨k, hk, rfl, hno⟩ := hrel
    by_cases hlt : k < s.size
    · have hat : (bytes s)[k]? = some s[k] := byte_at hlt
      have hc := nameByte_iff s[k]
      cases hb : nameByte s[k]
      · have e := named_no hat hb
        have E := Lib.hid e
        rw [hb] at hc
        have HC := Lib.hid hc
        clear hb e hat hno hc
        go_wp2
        all_goals first
          | (go_ret; exact ⟨ret_bool E.out.symm, rfl⟩)
          | (exfalso; have := HC.out; simp at this; simp_all; try omega)
      · have HA : Hid (∀ (j : Nat) (c : UInt8), j < k + 1 -> (bytes s)[j]? = some c -> nameByte c = true) := fun j c hj hjc => by
          by_cases e : j = k
          · subst e; rw [hat] at hjc; cases hjc; exact hb
          · exact hno.out j c (by omega) hjc
        rw [hb] at hc
        have HC := Lib.hid hc
        clear hb hat hno hc
        go_wp2
        all_goals first
          | exact ⟨⟨k + 1, by omega, by go_num, HA⟩, by simp [intOf]; omega⟩
          | (exfalso; have := HC.out; simp at this; simp_all; try omega)
    · have e : namedB s = (decide (1 <= s.size) && decide (s.size <= 24)) := named_yes fun j c hc => hno.out j c (by have := (List.getElem?_eq_some_iff.1 hc).1; rw [bytes_length] at this; omega) hc
      have E := Lib.hid e; clear e hno
      go_wp2
      all_goals
        go_ret
        refine ⟨ret_bool ?_, rfl⟩
        rw [E.out, Bool.eq_iff_iff]
        simp only [Bool.and_eq_true, decide_eq_true_eq]
        try simp
        try omega

end Go.Proofs.YtlnjhimbgckdcaaGreat
