import Derived.Test.YtbhnbkcokhfopaaGreatChecked
import Derived.Test.YtbhnbkcokhfopaaGreatPk12
import Derived.Test.YtbhnbkcokhfopaaGreatPk4
import Derived.Test.YtbhnbkcokhfopaaGreatPk3
import Derived.Sort.KeysCollected
import Derived.Lib.Hide
import Derived.Sort.OwnSorted
import Derived.Deep.LoopGhost
import Derived.Deep.QuietTactic
import Derived.BigQuiet
import Derived.Test.YtbhnbkcokhfopaaGreatPk11
import Derived.WalkKit
import Derived.Laws.StructEq
import Derived.Deep.RegionHeld3
import Derived.Test.YtbhnbkcokhfopaaGreatPk9
import Derived.Deep.Cut
import Derived.Test.YtbhnbkcokhfopaaGreatPk10
import Derived.Test.YtbhnbkcokhfopaaGreatPk8

/-
  What tree's Names comes to, as a call.
-/
namespace Go.Proofs.YtbhnbkcokhfopaaGreat
open Go.RowKit Go.Maps Go.Sort

theorem before_lt : ∀ a b : List UInt8, bytesBefore a b = true ↔ a < b
  | [], [] => by simp [bytesBefore]
  | [], b :: s => by simp [bytesBefore]
  | a :: r, [] => by simp [bytesBefore]
  | a :: r, b :: s => by
    simp only [bytesBefore, Bool.or_eq_true, decide_eq_true_eq, Bool.and_eq_true, beq_iff_eq, List.cons_lt_cons_iff, before_lt r s]

theorem keys_datum (vs : Fl Value) : strKeys (datum vs) = vs.map fun f => bytes f.1 := by
  simp [strKeys, datum, ent, strOf, Function.comp_def]

theorem keys_sorted {vs : Fl Value} (h : Rising vs) {ss : List (List UInt8)} (hp : ss.Perm (strKeys (datum vs))) : ss.mergeSort (fun x y => decide (x ≤ y)) = vs.map fun f => bytes f.1 := by
  have e : ss.mergeSort leB = (strKeys (datum vs)).mergeSort leB := mergeSort_of_perm hp
  rw [show (fun x y : List UInt8 => decide (x ≤ y)) = leB from rfl, e, keys_datum]
  refine List.mergeSort_of_pairwise (List.pairwise_map.2 (h.imp fun {a b} hab => ?_))
  simp only [leB, decide_eq_true_eq]
  exact List.le_of_lt ((before_lt _ _).1 hab)

theorem keys_values {vs : Fl Value} (h : Rising vs) {ss : List (List UInt8)} (hp : ss.Perm (strKeys (datum vs))) :
    (ss.mergeSort (fun x y => decide (x ≤ y))).map encStr = (vs.map (·.1)).map Value.string ∧ ss.length = (vs.map (·.1)).length := by
  refine ⟨?_, by have := hp.length_eq; rw [keys_datum] at this; simpa using this⟩
  rw [keys_sorted h hp, List.map_map, List.map_map]
  refine List.map_congr_left fun f _ => ?_
  show Value.string (txt (bytes f.1)) = Value.string f.1
  rw [txt_bytes]

/-- The names of a tree's files. -/
def namesT (t : Tr) : List ByteArray := t.map (·.1)
theorem names_map (z : Fl Held) : namesT (mapT (·.2) z) = (mapT (·.1) z).map (·.1) := by simp [namesT, mapT]

set_option maxHeartbeats 400000 in
theorem names_any (p B : Nat) (t : Tr) (w : World) (ht : TreeAt w p B t) (hl : t.length ≤ 65536) :
    Calls Tryz.prog 27 #[.pointer (some ⟨p, 0, none⟩)] w (GivesOwn (namesT t) w) := by
  obtain ⟨hc, z, hz, rfl⟩ := ht
  have hsz : Maps.size (datum (mapT (·.1) z)) ≤ 65536 := by rw [size_datum, mapT_length]; rw [mapT_length] at hl; exact hl
  have HK := Lib.hid (callsIn_wide.1 (Tryz.maps_Keys (some B) w))
  have HS := Lib.hid (callsIn_wide.1 (Tryz.slices_Sorted_keys B z.length _ raw w hz.own (by simp only [maxLen]; omega) (by omega)))
  have HV := Lib.hid (fun (ss : List (List UInt8)) (hp : ss.Perm (strKeys (datum (mapT (·.1) z)))) => keys_values (rising_map.2 hz.rise) hp)
  rw [names_map]
  clear hz hsz hl
  go_enter Tryz.func27, Tryz.ntmps27
  go_wp2_with (first
    | (go_at_call 55; refine HK.out.mono ?_; rintro e w' ⟨rfl, rfl⟩)
    | (go_at_call 54; refine HS.out.mono ?_; rintro e w' ⟨v, ss, rfl, hS, hrow, hnil, hb⟩))
  go_ret
  obtain ⟨e1, e2⟩ := HV.out ss hS
  rw [e1, e2] at hrow
  exact ⟨v, rfl, ownsRow_base_a hrow (by simp), ((Later.refl w).alloc _).trans hb⟩

end Go.Proofs.YtbhnbkcokhfopaaGreat

/-
  What prim's Names comes to, as a call.
-/
namespace Go.Proofs.YtbhnbkcokhfopaaGreat
open Go.RowKit Go.Maps Go.Sort

theorem Row.lit2 (w : World) (o : Obj) (ss : List ByteArray) (t : TypeId) : Row ((w.alloc o).alloc (.cells (ss.map Value.string).toArray t)) (some ⟨w.heap.size + 1, 0, .none⟩) ss.length ss := by
  have := Row.lit (w.alloc o) ss t
  rw [show (w.alloc o).heap.size = w.heap.size + 1 from by simp] at this
  exact this
theorem enc_bytes (s : ByteArray) : encStr (bytes s) = .string s := by
  show Value.string (txt (bytes s)) = _
  rw [txt_bytes]

theorem sorted_two (a b : ByteArray) : ([bytes a, bytes b]).mergeSort (fun x y => decide (x ≤ y)) = (if ltN a b = true then [a, b] else [b, a]).map bytes := by
  by_cases h : ltN a b = true
  · rw [if_pos h]
    refine List.mergeSort_of_pairwise (List.pairwise_cons.2 ⟨fun y hy => ?_, List.pairwise_singleton _ _⟩)
    simp at hy
    subst hy
    simp only [decide_eq_true_eq]
    exact List.le_of_lt ((before_lt _ _).1 h)
  · rw [if_neg h]
    have e : ([bytes a, bytes b]).mergeSort leB = ([bytes b, bytes a]).mergeSort leB := mergeSort_of_perm (List.Perm.swap _ _ _)
    rw [show (fun x y : List UInt8 => decide (x ≤ y)) = leB from rfl, e]
    refine List.mergeSort_of_pairwise (List.pairwise_cons.2 ⟨fun y hy => ?_, List.pairwise_singleton _ _⟩)
    simp at hy
    subst hy
    simp only [leB, decide_eq_true_eq]
    exact List.not_lt.1 fun hl => h ((before_lt _ _).2 hl)

theorem namesP_move (nm to : ByteArray) (pl : Int) (old new : List ByteArray) : namesP ⟨3, nm, to, pl, old, new⟩ = if ltN nm to = true then [nm, to] else [to, nm] := by simp [namesP]
theorem namesP_one (k : Int) (nm to : ByteArray) (pl : Int) (old new : List ByteArray) (h : k ≠ 3) : namesP ⟨k, nm, to, pl, old, new⟩ = [nm] := by simp [namesP, h]

end Go.Proofs.YtbhnbkcokhfopaaGreat

/-
  What the document's Names comes to, as a call.
-/
namespace Go.Proofs.YtbhnbkcokhfopaaGreat
open Go.RowKit Go.Maps

end Go.Proofs.YtbhnbkcokhfopaaGreat

/-
  Prims as values, and what the document's calls on them tell (but Invert).
-/
namespace Go.Proofs.YtbhnbkcokhfopaaGreat
open Go.RowKit Go.Maps

/-- A row of lines, nothing else has turned. -/
def GivesL (l : List ByteArray) (w : World) (e : Ending) (w' : World) : Prop := ∃ v, e = .returned v ∧ Reads w' v l ∧ Later w w'
theorem GivesRow.l {l : List ByteArray} {w w' : World} {e : Ending} (h : GivesRow l w e w') : GivesL l w e w' := by
  obtain ⟨A, c, rfl, hc, hr, hl⟩ := h
  exact ⟨_, rfl, ⟨A, _, c, rfl, hc, hr⟩, hl⟩

section
variable {w : World} {v u : Value} {p q : Pr}
theorem refSame_v (h : PrimAt w v p) (k : PrimAt w u q) : Calls Tryz.prog 30 #[v, u] w (Says (sameP p q) w) := by
  obtain ⟨x, rfl, rfl, hx⟩ := h; obtain ⟨y, rfl, rfl, hy⟩ := k; exact refSameP_any x y w hx hy
theorem lineSame_v {l r : List ByteArray} (h : Reads w v l) (k : Reads w u r) (hl : l.length ≤ 65536) (hr : r.length ≤ 65536) : Calls Tryz.prog 38 #[v, u] w (Says (sameB l r) w) := by
  obtain ⟨A, n, c, rfl, hc, h1⟩ := h
  obtain ⟨B, m, d, rfl, hd, h2⟩ := k
  refine (same_any A B n c m d l r w h1 h2 (by rw [← h1.len]; exact hl) (by rw [← h2.len]; exact hr)).mono ?_
  rintro e w' ⟨rfl, q, rfl⟩
  exact ⟨rfl, (Later.refl w).drewN q⟩
theorem namesP_length (p : Pr) : (namesP p).length ≤ 65536 := by
  unfold namesP
  split
  · simp
  · split <;> simp
end

end Go.Proofs.YtbhnbkcokhfopaaGreat

/-
  What slices.Index, Contains, IndexFunc and ContainsFunc come to, as calls, over rows of texts.
-/
namespace Go.Proofs.YtbhnbkcokhfopaaGreat
open Go.RowKit Go.Maps

theorem mem_getD {l : List ByteArray} {k : Nat} (h : k < l.length) : l.getD k ByteArray.empty ∈ l := by
  simp only [List.getD, List.getElem?_eq_getElem h, Option.getD_some]
  exact List.getElem_mem h
theorem not_mem_of {l : List ByteArray} {p : ByteArray → Prop} (h : ∀ j : Nat, j < l.length → ¬ p (l.getD j ByteArray.empty)) : ¬ ∃ s ∈ l, p s := by
  rintro ⟨s, hs, hp⟩
  obtain ⟨j, hj, rfl⟩ := List.getElem_of_mem hs
  refine h j hj ?_
  simpa only [List.getD, List.getElem?_eq_getElem hj, Option.getD_some] using hp

/-- A place, or none. -/
def FindsAt (Q : Prop) (w : World) (e : Ending) (w' : World) : Prop := (∃ k : Int, e = .returned (.int .i64 k) ∧ (0 ≤ k ↔ Q)) ∧ w = w'

end Go.Proofs.YtbhnbkcokhfopaaGreat

/-
  What swap's meet comes to, as a call.
-/
namespace Go.Proofs.YtbhnbkcokhfopaaGreat
open Go.RowKit Go.Maps

theorem two_boxes (w : World) (a b : Array Value) (t : TypeId) : BoxAt ((w.alloc (.cells a t)).alloc (.cells b t)) w.heap.size a t ∧ BoxAt ((w.alloc (.cells a t)).alloc (.cells b t)) (w.heap.size + 1) b t ∧ Later w ((w.alloc (.cells a t)).alloc (.cells b t)) := by
  refine ⟨(BoxAt.made w a t).alloc _, ?_, ((Later.refl w).alloc _).alloc _⟩
  have := BoxAt.made (w.alloc (.cells a t)) b t
  simpa using this
theorem BoxAt.all {w : World} {g : Nat} {x : PrC} {t : TypeId} (h : BoxAt w g (prL x).toArray t) : w.cell? ⟨g, 0, none⟩ = some (.int .i64 x.v.kind) ∧ w.cell? ⟨g, 1, none⟩ = some (.string x.v.name) ∧ w.cell? ⟨g, 2, none⟩ = some (.string x.v.to) ∧ w.cell? ⟨g, 3, none⟩ = some (.int .i64 x.v.place) ∧ w.cell? ⟨g, 4, none⟩ = some (.slice x.A x.n x.c) ∧ w.cell? ⟨g, 5, none⟩ = some (.slice x.B x.m x.d) :=
  ⟨h.cell rfl, h.cell rfl, h.cell rfl, h.cell rfl, h.cell rfl, h.cell rfl⟩

end Go.Proofs.YtbhnbkcokhfopaaGreat

/-
  Two arrays of two ints, compared.
-/
namespace Go.Proofs.YtbhnbkcokhfopaaGreat
open Go.RowKit

end Go.Proofs.YtbhnbkcokhfopaaGreat

/-
  What swap's turn comes to, as a call.
-/
namespace Go.Proofs.YtbhnbkcokhfopaaGreat
open Go.RowKit Go.Maps

theorem both_all {w : World} {g k : Nat} {x y : PrC} {t : TypeId} (h : BoxAt w g (prL x).toArray t) (h' : BoxAt w k (prL y).toArray t) : w.cell? ⟨g, 0, none⟩ = some (.int .i64 x.v.kind) ∧ w.cell? ⟨g, 1, none⟩ = some (.string x.v.name) ∧ w.cell? ⟨g, 2, none⟩ = some (.string x.v.to) ∧ w.cell? ⟨g, 3, none⟩ = some (.int .i64 x.v.place) ∧ w.cell? ⟨g, 4, none⟩ = some (.slice x.A x.n x.c) ∧ w.cell? ⟨g, 5, none⟩ = some (.slice x.B x.m x.d) ∧ w.cell? ⟨k, 0, none⟩ = some (.int .i64 y.v.kind) ∧ w.cell? ⟨k, 1, none⟩ = some (.string y.v.name) ∧ w.cell? ⟨k, 2, none⟩ = some (.string y.v.to) ∧ w.cell? ⟨k, 3, none⟩ = some (.int .i64 y.v.place) ∧ w.cell? ⟨k, 4, none⟩ = some (.slice y.A y.n y.c) ∧ w.cell? ⟨k, 5, none⟩ = some (.slice y.B y.m y.d) :=
  ⟨h.cell rfl, h.cell rfl, h.cell rfl, h.cell rfl, h.cell rfl, h.cell rfl, h'.cell rfl, h'.cell rfl, h'.cell rfl, h'.cell rfl, h'.cell rfl, h'.cell rfl⟩
end Go.Proofs.YtbhnbkcokhfopaaGreat

/-
  What swap's Swap comes to, as a call.
-/
namespace Go.Proofs.YtbhnbkcokhfopaaGreat
open Go.RowKit Go.Maps

theorem IsPr.off {p : Pr} {w0 w w' : World} {u v : Value} {B : Nat} (h : IsPr p w0 w u v) (hg : Turned B w w') (hu : ∀ k, u.ownBlock = some k → B < k) (hv : ∀ k, v.ownBlock = some k → B < k) (hl : Later w0 w') : IsPr p w0 w' u v :=
  ⟨h.old.other hg (fun e => by have := hu _ e; omega) hl, h.new.other hg (fun e => by have := hv _ e; omega) hl, h.apart⟩
theorem swapR_none {p q : Pr} (h : swapP p q = none) : swapR (swapP p q) = noneP := by rw [h]; rfl
theorem heed_of {p q : Pr} (hp : rightP p = true) (hq : rightP q = true) {a b : Pr} {t : Bool} (h1 : a = (turnP p q).1) (h2 : b = (turnP p q).2.1) (h3 : t = (turnP p q).2.2) : swapP p q = heedP (a, b, t) := by
  rw [swapP_turn p q hp hq, h1, h2, h3]

end Go.Proofs.YtbhnbkcokhfopaaGreat

/-
  What seq's clone comes to, as a call.
-/
namespace Go.Proofs.YtbhnbkcokhfopaaGreat
open Go.RowKit Go.Maps

/-- A prim whose rows lie behind all that was there. -/
theorem IsPr.fresh {w0 w : World} {x : PrC} (h : IsPr x.v w0 w (.slice x.A x.n x.c) (.slice x.B x.m x.d)) : Fresh w0 x := ⟨h.old.block, h.new.block⟩
/-- What Clone (or Invert) tells, as a prim that stands there. -/
theorem GivesPr.prim {p : Pr} {w w' : World} {e : Ending} (h : GivesPr p w e w') (hm : Mild p) : ∃ y : PrC, e = .returned (prV y) ∧ y.v = p ∧ PrOk w' y ∧ Fresh w y ∧ Later w w' := by
  obtain ⟨u, v, rfl, hp⟩ := h
  obtain ⟨A, c, rfl, hc, hr⟩ := hp.old.row
  obtain ⟨B, d, rfl, hd, hs⟩ := hp.new.row
  exact ⟨⟨p, A, _, c, B, _, d⟩, rfl, rfl, ⟨hr, hs, hc, hd, hm.omost, hm.nmost, hm.name, hm.to, hm.lo, hm.hi, hm.olds, hm.news⟩, ⟨hp.old.block, hp.new.block⟩, hp.later⟩
theorem Fresh.base {w0 w : World} {x : PrC} (h : Fresh w x) (hl : Later w0 w) : Fresh w0 x := ⟨fun k hk => Nat.le_trans hl.le (h.1 k hk), fun k hk => Nat.le_trans hl.le (h.2 k hk)⟩
theorem cloneP_any (x : PrC) (w : World) (hx : PrOk w x) : Calls Tryz.prog 40 #[prV x] w fun e w' => ∃ y : PrC, e = .returned (prV y) ∧ y.v = x.v ∧ PrOk w' y ∧ Fresh w y ∧ Later w w' :=
  (primClone_any x w hx).mono fun _ _ h => h.prim hx.mild
theorem invertP_any (x : PrC) (w : World) (hx : PrOk w x) : Calls Tryz.prog 36 #[prV x] w fun e w' => ∃ y : PrC, e = .returned (prV y) ∧ y.v = invertP x.v ∧ PrOk w' y ∧ Fresh w y ∧ Later w w' :=
  (primInvert_any x w hx).mono fun _ _ h => h.prim hx.mild.invert

/-- A row of its own of prims of its own. -/
def GivesC (l : List Pr) (w : World) (e : Ending) (w' : World) : Prop := ∃ v xs, e = .returned v ∧ OwnPs 53 w w' v xs ∧ valsP xs = l ∧ ∀ x ∈ xs, Fresh w x

end Go.Proofs.YtbhnbkcokhfopaaGreat

/-
  What diff's Lines comes to, as a call.
-/
namespace Go.Proofs.YtbhnbkcokhfopaaGreat
open Go.RowKit Go.Maps

section
variable {k n : Nat} {w w' : World} {b o : Nat} {css : List (List Value)}
theorem RowK.off (h : RowK k w (some ⟨b, o, .none⟩) n css) {g : Nat} (ht : Turned g w w') (hne : b ≠ g) : RowK k w' (some ⟨b, o, .none⟩) n css :=
  ⟨h.1, h.2.1, fun hn => by
    obtain ⟨b', o', e, hc⟩ := h.2.2 hn
    cases e
    refine ⟨b, o, rfl, fun j i cs v h1 h2 => ?_⟩
    have h3 := hc j i cs v h1 h2
    rw [World.cell?_of_block (ht.block b (lt_of_cell h3) (by simpa using hne))]
    exact h3⟩
theorem RowK.grew (h : RowK k w (some ⟨b, o, .none⟩) n css) {r : Option Nat} (ht : w.grownBy w' r) (hne : r ≠ some b) : RowK k w' (some ⟨b, o, .none⟩) n css :=
  ⟨h.1, h.2.1, fun hn => by
    obtain ⟨b', o', e, hc⟩ := h.2.2 hn
    cases e
    refine ⟨b, o, rfl, fun j i cs v h1 h2 => ?_⟩
    have h3 := hc j i cs v h1 h2
    rw [World.cell?_of_block (ht.block b (lt_of_cell h3) (fun e => hne e.symm))]
    exact h3⟩
theorem RowK.pair {L : List (Nat × Nat)} (h : RowK 2 w (some ⟨b, o, .none⟩) n (pairsV L)) {j : Nat} (hj : j < n) : ∃ s, L[j]? = some s ∧ w.cell? ⟨b, o + j * 2, .none⟩ = some (.int .i64 (s.1 : Nat)) ∧ w.cell? ⟨b, o + j * 2 + 1, .none⟩ = some (.int .i64 (s.2 : Nat)) := by
  obtain ⟨b', o', e, cs, hcs, _, hc⟩ := h.get hj
  cases e
  have hl : j < L.length := by have := h.len; rw [pairsV_length] at this; omega
  have hz := List.getElem?_eq_getElem hl
  simp only [pairsV, List.getElem?_map, hz, Option.map_some, Option.some.injEq] at hcs
  subst hcs
  exact ⟨L[j], hz, hc 0 _ rfl, hc 1 _ rfl⟩
end

/-- Two pairs compared. -/
theorem wpList_neq_two {ops : Array Oper} {rest : List Oper} {op : Oper} {a : Act} {w : World} {Q : Exit → Act → World → Prop} (hgd : op.guard = none) (x y : Operand) (ho : op.op = .binOp .neq 55 x y 55) {i k i' k' : Nat}
    (hx : a.eval x = .agg #[.int .i64 (i : Nat), .int .i64 (k : Nat)]) (hy : a.eval y = .agg #[.int .i64 (i' : Nat), .int .i64 (k' : Nat)]) (b : Bool) (hb : b = decide (¬ (i = i' ∧ k = k')))
    (h : wpList Tryz.prog ops Q rest (a.put op.dst (.bool b)) w) : wpList Tryz.prog ops Q (op :: rest) a w := by
  refine wpList_plain hgd fun K hK => ?_
  have hr : (execOp a.eval op).run Tryz.prog w = .ok (.value (.bool b)) w := by
    unfold execOp
    rw [ho]
    simp only [hx, hy]
    go_simp
    subst hb
    by_cases h1 : i = i'
    · by_cases h2 : k = k'
      · simp [h1, h2]
      · have : ¬ ((k : Int) = k') := by omega
        simp [h1, h2, this]
    · have : ¬ ((i : Int) = i') := by omega
      simp [h1, this]
  unfold Oper.wp
  rw [hr]
  exact hK _ _ h

set_option maxRecDepth 100000 in
set_option maxHeartbeats 3200000 in
theorem lines_any (nm : ByteArray) (A B : Option Addr) (n c m d : Nat) (la lb : List ByteArray) (w : World) (ha : Row w A n la) (hb : Row w B m lb) (hc : n ≤ c) (hd : m ≤ d) (hn : n ≤ 65536) (hm : m ≤ 65536)
    (hnm : nm.size ≤ maxLen) (hsa : ∀ s ∈ la, s.size ≤ maxLen) (hsb : ∀ s ∈ lb, s.size ≤ maxLen) :
    Calls Tryz.prog 18 #[.string nm, .slice A n c, .slice B m d] w (GivesC (linesP nm la lb) w) := by
  have hna := ha.len; have hnb := hb.len
  by_cases h1 : 200 < n
  · have HE := Lib.hid (lines_great (name := nm) (a := la) (b := lb) (.inl (by omega)))
    clear ha hb hna hnb hsa hsb
    go_enter Tryz.func18, Tryz.ntmps18
    go_wp2
    go_ret
    exact ⟨_, [], rfl, OwnPs.nil (Later.refl w), HE.out.symm, fun x hx => by cases hx⟩
  · by_cases h2 : 200 < m
    · have HE := Lib.hid (lines_great (name := nm) (a := la) (b := lb) (.inr (by omega)))
      clear ha hb hna hnb hsa hsb
      go_enter Tryz.func18, Tryz.ntmps18
      go_wp2
      go_ret
      exact ⟨_, [], rfl, OwnPs.nil (Later.refl w), HE.out.symm, fun x hx => by cases hx⟩
    · have HTO := Lib.hid (lines_to (name := nm) (a := la) (b := lb) (by omega) (by omega))
      have HRI := Lib.hid (common_rises (a := la) (b := lb) (by omega) (by omega))
      have hLn := common_length la lb
      rw [hna, hnb] at HTO HRI
      have hlF : Later w (w.alloc (.cells #[.int .i64 0, .int .i64 0] 55)) := (Later.refl w).alloc _
      have HCM := Lib.hid (common_any A B n c m d la lb _ (ha.later hlF) (hb.later hlF) hn hm)
      have HA := Lib.hid ha; have HB := Lib.hid hb; have HSA := Lib.hid hsa; have HSB := Lib.hid hsb
      clear ha hb hna hnb hsa hsb
      obtain ⟨i0, hi, hz0, hz1, hz2⟩ := info_parts Tryz.pairInfo
      obtain ⟨i1, hi1, hy0, hy1, hy2⟩ := info_parts Tryz.primInfo
      have hbF : BoxAt (w.alloc (.cells #[.int .i64 0, .int .i64 0] 55)) w.heap.size #[.int .i64 0, .int .i64 0] 55 := BoxAt.made w _ _
      have hszF : (w.alloc (.cells #[.int .i64 0, .int .i64 0] 55)).heap.size = w.heap.size + 1 := World.size_alloc _ _
      go_enter Tryz.func18, Tryz.ntmps18
      go_wp2_with fail
      refine HCM.out.mono ?_
      rintro e w2 ⟨v0, rfl, ho0⟩
      clear HCM
      generalize w.alloc (.cells #[.int .i64 0, .int .i64 0] 55) = w1 at ho0 hlF hbF hszF ⊢
      generalize hgF : w.heap.size = gF at hbF hszF ⊢
      have hlb : Later w2 (w2.alloc (.cells #[.int .i64 (n : Nat), .int .i64 (m : Nat)] 55)) := (Later.refl w2).alloc _
      have HR : Hid (RowK 2 (w2.alloc (.cells #[.int .i64 (n : Nat), .int .i64 (m : Nat)] 55)) (some ⟨w2.heap.size, 0, none⟩) 1 [[.int .i64 (n : Nat), .int .i64 (m : Nat)]]) := RowK.one w2 [.int .i64 (n : Nat), .int .i64 (m : Nat)] 55
      have HO0 := Lib.hid (ho0.on hlb)
      have HL0 := Lib.hid ((hlF.trans ho0.later).trans hlb)
      have HBF := Lib.hid ((hbF.later ho0.later).later hlb)
      have HZF := Lib.hid hszF; have HGF := Lib.hid hgF
      clear hlF hbF hszF hgF ho0 hlb
      go_wp2_with (at_builtin; refine Hid.out ?_)
      generalize w2.alloc (.cells #[.int .i64 (n : Nat), .int .i64 (m : Nat)] 55) = w2' at HR HO0 HL0 HBF ⊢
      refine Lib.hid (wpList_append_rowK5 rfl _ _ 49 rfl i0 _ 16 Tryz.underlying49 hi hz0 hz1 hz2 rfl (by decide) HO0.out rfl _ _ 1 1 _ rfl HR.out (by decide) (by simp [Value.oneCell']) (by rw [pairsV_length]; omega) (by decide) ?_)
      intro v3 w3 ho3 hg3 h5
      rw [← pairsV_append] at ho3
      generalize hL : commonL la lb ++ [(n, m)] = L at ho3 HTO HRI
      have hLl : L.length ≤ 201 := by rw [← hL]; simp; omega
      have hL1 : 0 < L.length := by rw [← hL]; simp
      clear hL hLn
      obtain ⟨A3, c3, hv3, hc3, hr3⟩ := ho3.row
      rw [pairsV_length] at hv3 hc3 hr3
      obtain ⟨g3, o3, hA3, _⟩ := hr3.2.2 hL1
      subst hA3
      subst hv3
      have hg3b := ho3.1.lt g3 rfl
      have HNF : Hid (g3 ≠ gF) := by
        have := hg3b.1
        rw [HZF.out] at this
        intro e; omega
      have HL3 := Lib.hid (show Later w w3 from Below.grown HL0.out hg3 HL0.out.size (fun b hb => by have := (HO0.out.1.lt b hb).1; rw [HZF.out] at this; rw [HGF.out]; omega))
      have HBF3 := Lib.hid (HBF.out.grew hg3 (fun e => by have := (HO0.out.1.lt _ e).1; rw [HZF.out] at this; omega))
      have HR3 := Lib.hid hr3
      have hg3l := hg3b.2
      have HF3 := Lib.hid HBF3.out.lt
      clear ho3 hg3 h5 hg3b hr3 HR HO0 HL0 HBF
      generalize hN3 : w3.heap.size = N3 at hg3l HF3
      have HN3 := Lib.hid hN3
      clear hN3
      go_wp2
      go_loopg [7, 31] (L.length + 1) (fun g s7 s31 wr => ∃ (j i k : Nat) (v : Value) (ys : List PrC), j ≤ L.length ∧ L.length - j ≤ g ∧ s31 = .int .i64 (j : Nat) ∧ s7 = v ∧ ys.length ≤ j ∧ Hid (OwnPs 53 w wr v ys) ∧ Hid (valsP ys ++ hunksTo nm la lb (L.drop j) i k = linesP nm la lb) ∧ Hid (Rises n m (L.drop j) i k) ∧ Hid (BoxAt wr gF #[.int .i64 (i : Nat), .int .i64 (k : Nat)] 55) ∧ Hid (∀ b, v.ownBlock = some b → N3 ≤ b) ∧ Hid (∀ y ∈ ys, Fresh w3 y) ∧ Hid (RowK 2 wr (some ⟨g3, o3, none⟩) L.length (pairsV L)) ∧ Hid (N3 ≤ wr.heap.size))
      case atStart => exact ⟨0, 0, 0, _, [], Nat.zero_le _, by omega, rfl, rfl, Nat.le_refl _, OwnPs.nil HL3.out, by show _ = _; rw [HTO.out]; rfl, HRI, HBF3, (fun b hb => by cases hb), (fun y hy => by cases hy), HR3, Nat.le_of_eq HN3.out.symm⟩
      case round =>
        obtain ⟨j, i, k, v, ys, hj, hg, rfl, hv, hyl, hO, hEq, hRi, hBF, hvb, hfr, hR, hS⟩ := hrel
        obtain rfl := hv.symm
        clear hv HBF3 HR3 HL3 HTO HRI
        by_cases hlt : j < L.length
        · obtain ⟨s, hs, p0, p1⟩ := hR.out.pair hlt
          obtain ⟨x, y⟩ := s
          obtain ⟨hix, hky, hxn, hym, hri2⟩ := rises_at hs hRi.out
          have HST := Lib.hid (hunksTo_at (name := nm) (a := la) (b := lb) (i := i) (k := k) hs)
          dsimp only at p0 p1 hix hky hxn hym hri2 HST
          have HRI2 := Lib.hid hri2
          clear hs hri2
          go_upto_region 8 with fail
          have hlT : Later wr (wr.alloc (.cells #[.int .i64 (x : Nat), .int .i64 (y : Nat)] 55)) := (Later.refl wr).alloc _
          have bT : BoxAt (wr.alloc (.cells #[.int .i64 (x : Nat), .int .i64 (y : Nat)] 55)) wr.heap.size #[.int .i64 (x : Nat), .int .i64 (y : Nat)] 55 := BoxAt.made wr _ _
          have hO0 := hO
          replace hO := Lib.hid (hO.out.on hlT); replace hBF := Lib.hid (hBF.out.later hlT); replace hR := Lib.hid (hR.out.later hlT)
          have hNr : N3 ≤ wr.heap.size := hS.out
          have HLTV := Lib.hid (fun b hb => (hO0.out.lt b hb : b < wr.heap.size))
          generalize (wr.alloc (.cells #[.int .i64 (x : Nat), .int .i64 (y : Nat)] 55)) = wT at hO hBF hR bT hlT ⊢
          generalize wr.heap.size = gT at bT hNr HLTV ⊢
          clear hlT p0 p1 hO0 hS
          have q0 := hBF.out.cell (i := 0) rfl; have q1 := hBF.out.cell (i := 1) rfl
          have r0 := bT.cell (i := 0) rfl; have r1 := bT.cell (i := 1) rfl
          simp only [List.getElem_toArray, List.getElem_cons_zero, List.getElem_cons_succ] at q0 q1 r0 r1
          have BT := Lib.hid bT
          clear bT
          go_wp2_with (with_reducible show wpList _ _ _ ({ dst := _, op := Op.binOp BinOp.neq 55 _ _ _, type := _, pos := _, after := _, guard := _ } :: _) _ _; refine Hid.out ?_)
          by_cases hxy : i < x ∨ k < y
          · refine Lib.hid (wpList_neq_two rfl _ _ rfl rfl rfl true (by rw [decide_eq_true (by omega)]) ?_)
            obtain ⟨Ax, hAx⟩ : ∃ Ax, (if c = i then A else Option.map (fun x => x.add i) A) = Ax := ⟨_, rfl⟩
            obtain ⟨Bx, hBx⟩ : ∃ Bx, (if d = k then B else Option.map (fun x => x.add k) B) = Bx := ⟨_, rfl⟩
            have hlZ : Later wT (wT.alloc (.cells #[.int .i64 0, .string ⟨#[]⟩, .string ⟨#[]⟩, .int .i64 0, .slice none 0 0, .slice none 0 0] 53)) := (Later.refl wT).alloc _
            have q0' := hlZ.cell q0; have q1' := hlZ.cell q1; have r0' := hlZ.cell r0; have r1' := hlZ.cell r1
            go_wp2
            go_frame
            go_region
            clear hlZ q0 q1 r0 r1 q0' q1' r0' r1'
            have hla := HA.out.later hO.out.later; have hlb := HB.out.later hO.out.later
            have RA : Row wT Ax (x - i) (gapL la i x) := by
              have := hla.piece (f := i) (t := x) (m := c) (by omega) (by omega) (by omega)
              rw [Nat.mul_one, hAx] at this
              exact this
            have RB : Row wT Bx (y - k) (gapL lb k y) := by
              have := hlb.piece (f := k) (t := y) (m := d) (by omega) (by omega) (by omega)
              rw [Nat.mul_one, hBx] at this
              exact this
            have HHK : Hid (valsP ys ++ [hunkP nm k (gapL la i x) (gapL lb k y)] ++ hunksTo nm la lb (L.drop (j + 1)) (x + 1) (y + 1) = linesP nm la lb) := by
              show _ = _
              rw [← hEq.out, HST.out, if_pos hxy, List.append_assoc]
            have hlH : Later wT (wT.alloc (.cells #[.int .i64 0, .string nm, .string ⟨#[]⟩, .int .i64 (k : Nat), .slice Ax (x - i) (c - i), .slice Bx (y - k) (d - k)] 53)).drew := ((Later.refl wT).alloc _).drew
            have bH : BoxAt (wT.alloc (.cells #[.int .i64 0, .string nm, .string ⟨#[]⟩, .int .i64 (k : Nat), .slice Ax (x - i) (c - i), .slice Bx (y - k) (d - k)] 53)).drew wT.heap.size (prL ⟨hunkP nm k (gapL la i x) (gapL lb k y), Ax, x - i, c - i, Bx, y - k, d - k⟩).toArray 53 := (BoxAt.made wT _ _).later (Later.refl _).drew
            have okH : PrOk (wT.alloc (.cells #[.int .i64 0, .string nm, .string ⟨#[]⟩, .int .i64 (k : Nat), .slice Ax (x - i) (c - i), .slice Bx (y - k) (d - k)] 53)).drew ⟨hunkP nm k (gapL la i x) (gapL lb k y), Ax, x - i, c - i, Bx, y - k, d - k⟩ :=
              ⟨RA.later hlH, RB.later hlH, by dsimp only; omega, by dsimp only; omega, by dsimp only; omega, by dsimp only; omega, hnm, Nat.zero_le _, by dsimp only [hunkP]; omega, by dsimp only [hunkP]; omega, fun s hs => HSA.out s (List.mem_of_mem_drop (List.mem_of_mem_take hs)), fun s hs => HSB.out s (List.mem_of_mem_drop (List.mem_of_mem_take hs))⟩
            replace hO := Lib.hid (hO.out.on hlH); replace hBF := Lib.hid (hBF.out.later hlH); replace hR := Lib.hid (hR.out.later hlH); replace BT := Lib.hid (BT.out.later hlH)
            have hTs := hlH.le
            have hTl := BT.out.lt
            generalize (wT.alloc (.cells #[.int .i64 0, .string nm, .string ⟨#[]⟩, .int .i64 (k : Nat), .slice Ax (x - i) (c - i), .slice Bx (y - k) (d - k)] 53)).drew = wH at hO hBF hR BT bH okH hTs hTl ⊢
            clear hlH RA RB hla hlb hEq HST hAx hBx
            generalize Ax = A' at bH okH ⊢
            generalize Bx = B' at bH okH ⊢
            obtain ⟨g0, g1, g2, g4, g5, g6⟩ := BoxAt.all (x := ⟨hunkP nm k (gapL la i x) (gapL lb k y), A', x - i, c - i, B', y - k, d - k⟩) bH
            dsimp only [hunkP] at g0 g1 g2 g4 g5 g6
            simp only [show ByteArray.empty = (⟨#[]⟩ : ByteArray) from rfl] at g2
            have HC := Lib.hid (cloneP_any _ wH okH)
            unfold prV at HC
            dsimp only [hunkP] at HC
            simp only [show ByteArray.empty = (⟨#[]⟩ : ByteArray) from rfl] at HC
            clear bH okH
            go_wp2_with fail
            refine HC.out.mono ?_
            rintro e w5 ⟨z, rfl, hz, hokz, hfrz, hl5⟩
            clear g0 g1 g2 g4 g5 g6 HC
            have HZ : Hid (valsP (ys ++ [z]) = valsP ys ++ [hunkP nm k (gapL la i x) (gapL lb k y)]) := by
              show _ = _
              simp only [valsP, List.map_append, List.map_cons, List.map_nil]
              rw [hz]
              rfl
            have hO1 := (hO.out.on hl5).on ((Later.refl w5).alloc (.cells #[.int .i64 z.v.kind, .string z.v.name, .string z.v.to, .int .i64 z.v.place, .slice z.A z.n z.c, .slice z.B z.m z.d] 53))
            have HO1 := Lib.hid hO1
            have hl5' : Later wH (w5.alloc (.cells #[.int .i64 z.v.kind, .string z.v.name, .string z.v.to, .int .i64 z.v.place, .slice z.A z.n z.c, .slice z.B z.m z.d] 53)) := hl5.alloc _
            have HOK := Lib.hid hokz
            have HAW : Hid (∀ q ∈ [z], ∀ g, v.ownBlock = some g → Away g q) := by
              intro q hq g hgb
              simp at hq; subst hq
              have h1 := HLTV.out g hgb
              exact hfrz.away (by omega)
            have HFZ : Hid (Fresh w3 z) := ⟨fun b hb => Nat.le_trans (by rw [HN3.out]; omega) (hfrz.1 b hb), fun b hb => Nat.le_trans (by rw [HN3.out]; omega) (hfrz.2 b hb)⟩
            replace hBF := Lib.hid (hBF.out.later hl5'); replace hR := Lib.hid (hR.out.later hl5'); replace BT := Lib.hid (BT.out.later hl5')
            have hs5 := hl5'.le
            clear hl5 hl5' hO hO1 hz hokz hfrz
            go_wp2_with (at_builtin; refine Hid.out ?_)
            refine Lib.hid (wpList_append_ps5 rfl _ _ 31 rfl i1 _ 96 Tryz.underlying31 hi1 hy0 hy1 hy2 rfl HO1.out rfl _ _ _ [z] rfl (row_one _ _ _) (fun q hq => by simp at hq; subst hq; exact HOK.out.later6 _) HAW.out (by omega) (by omega) ?_)
            intro v6 w6 ho6 hg6 h56
            have hv6 : ∀ b, v6.ownBlock = some b → N3 ≤ b := by
              intro b hb
              rcases h56 with e | e
              · rw [e] at hb; exact hvb.out b hb
              · rw [e] at hb; cases hb; omega
            have hgF := HF3.out
            have HO6 := Lib.hid ho6
            have HV6 := Lib.hid hv6
            have HBF6 := Lib.hid (hBF.out.grew hg6 (fun e => by have := hvb.out _ e; omega))
            have HR6 := Lib.hid (hR.out.grew hg6 (fun e => by have := hvb.out _ e; omega))
            have bT6 := BT.out.grew hg6 (fun e => by have := HLTV.out _ e; omega)
            have r0 := bT6.cell (i := 0) rfl; have r1 := bT6.cell (i := 1) rfl
            simp only [List.getElem_toArray, List.getElem_cons_zero, List.getElem_cons_succ] at r0 r1
            have hs6 := hg6.size
            clear ho6 hg6 h56 hv6 bT6 HO1 HOK HAW hBF hR BT
            go_wp2_with (with_reducible show wpList _ _ _ ({ dst := none, op := Op.store 55 _ _, type := _, pos := _, after := _, guard := _ } :: _) _ _; refine Hid.out ?_)
            refine Lib.hid (wpList_store_two rfl rfl 55 _ _ rfl Tryz.pairSize gF ((x + 1 : Nat) : Int) ((y + 1 : Nat) : Int) rfl rfl HBF6.out rfl ?_)
            intro w7 hb7 ht7
            have HFR : Hid (∀ q ∈ ys ++ [z], Fresh w3 q) := by
              intro q hq
              rcases List.mem_append.1 hq with h | h
              · exact hfr.out q h
              · simp at h; subst h; exact HFZ.out
            have HO7 := Lib.hid (HO6.out.other ht7 (fun e => by have := HV6.out _ e; omega) (fun q hq => (HFR.out q hq).away (by rw [HN3.out]; exact hgF)) (HO6.out.later.turn ht7 (by rw [HGF.out]; exact Nat.le_refl _)))
            have HB7 := Lib.hid hb7
            have HR7 := Lib.hid (HR6.out.off ht7 HNF.out)
            have HS7 : Hid (N3 ≤ w7.heap.size) := by have := ht7.size; show _ ≤ _; omega
            clear hb7 ht7 HO6 HBF6 HR6 r0 r1 HNF
            go_wp2
            go_roundg (L.length - (j + 1))
            case measure => omega
            case rel => exact ⟨j + 1, x + 1, y + 1, v6, ys ++ [z], by omega, Nat.le_refl _, by go_num, rfl, by simp; omega, HO7, by show _ = _; rw [HZ.out]; exact HHK.out, HRI2, HB7, HV6, HFR, HR7, HS7⟩
          · obtain rfl : i = x := by omega
            obtain rfl : k = y := by omega
            refine Lib.hid (wpList_neq_two rfl _ _ rfl rfl rfl false (by simp) ?_)
            have HHK : Hid (valsP ys ++ hunksTo nm la lb (L.drop (j + 1)) (i + 1) (k + 1) = linesP nm la lb) := by
              show _ = _
              rw [← hEq.out, HST.out, if_neg (by omega), List.nil_append]
            have hgF := HF3.out
            go_wp2_with (with_reducible show wpList _ _ _ ({ dst := none, op := Op.store 55 _ _, type := _, pos := _, after := _, guard := _ } :: _) _ _; refine Hid.out ?_)
            refine Lib.hid (wpList_store_two rfl rfl 55 _ _ rfl Tryz.pairSize gF ((i + 1 : Nat) : Int) ((k + 1 : Nat) : Int) rfl rfl hBF.out rfl ?_)
            intro w7 hb7 ht7
            have HO7 := Lib.hid (hO.out.other ht7 (fun e => by have := hvb.out _ e; omega) (fun q hq => (hfr.out q hq).away (by rw [HN3.out]; exact hgF)) (hO.out.later.turn ht7 (by rw [HGF.out]; exact Nat.le_refl _)))
            have HB7 := Lib.hid hb7
            have HR7 := Lib.hid (hR.out.off ht7 HNF.out)
            have HS7 : Hid (N3 ≤ w7.heap.size) := by have := ht7.size; have := BT.out.lt; show _ ≤ _; omega
            clear hb7 ht7 hO hBF hR q0 q1 r0 r1 BT
            go_wp2
            go_roundg (L.length - (j + 1))
            case measure => omega
            case rel => exact ⟨j + 1, i + 1, k + 1, v, ys, by omega, Nat.le_refl _, by go_num, rfl, by omega, HO7, HHK, HRI2, HB7, hvb, hfr, HR7, HS7⟩
        · have HE : Hid (valsP ys = linesP nm la lb) := by
            have := hEq.out
            rw [List.drop_of_length_le (by omega)] at this
            simp only [hunksTo, List.append_nil] at this
            exact this
          have HNW : Hid (w.heap.size ≤ w3.heap.size) := by have := HF3.out; show _ ≤ _; rw [HN3.out, HGF.out]; omega
          go_wp2
          go_ret
          exact ⟨v, ys, rfl, hO.out, HE.out, fun q hq => ⟨fun b hb => Nat.le_trans HNW.out ((hfr.out q hq).1 b hb), fun b hb => Nat.le_trans HNW.out ((hfr.out q hq).2 b hb)⟩⟩

end Go.Proofs.YtbhnbkcokhfopaaGreat

/-
  What diff's some and tooLong come to, as calls.
-/
namespace Go.Proofs.YtbhnbkcokhfopaaGreat
open Go.RowKit Go.Maps

/-- A tree, or none. -/
def TreeOr (w : World) (v : Value) (t : Tr) : Prop := (v = .pointer none ∧ t = []) ∨ ∃ p B, v = .pointer (some ⟨p, 0, none⟩) ∧ TreeAt w p B t
theorem TreeOr.later {w w' : World} {v : Value} {t : Tr} (h : TreeOr w v t) (hl : Later w w') : TreeOr w' v t := by
  rcases h with h | ⟨p, B, h1, h2⟩
  · exact .inl h
  · exact .inr ⟨p, B, h1, h2.later hl⟩

set_option maxHeartbeats 400000 in
theorem some_any (v : Value) (t : Tr) (w : World) (ht : TreeOr w v t) :
    Calls Tryz.prog 25 #[v] w fun e w' => ∃ p B, e = .returned (.pointer (some ⟨p, 0, none⟩)) ∧ TreeAt w' p B t ∧ Later w w' := by
  rcases ht with ⟨rfl, rfl⟩ | ⟨p, B, rfl, ht⟩
  · have HN := Lib.hid (new_any w)
    go_enter Tryz.func25, Tryz.ntmps25
    go_wp2_with fail
    refine HN.out.mono ?_
    rintro e w1 ⟨p, B, rfl, ht, h1, h2, hl⟩
    have HT := Lib.hid ht; have HL := Lib.hid hl
    clear ht h1 h2 hl HN
    go_wp2
    go_ret
    exact ⟨p, B, rfl, HT.out, HL.out⟩
  · have HT := Lib.hid ht
    clear ht
    go_enter Tryz.func25, Tryz.ntmps25
    go_wp2
    go_ret
    exact ⟨p, B, rfl, HT.out, Later.refl w⟩

set_option maxHeartbeats 400000 in
theorem longFn_any (p B b : Nat) (nm : ByteArray) (t : Tr) (w : World) (ht : TreeAt w p B t) (hb : w.cell? ⟨b, 0, none⟩ = some (.pointer (some ⟨p, 0, none⟩))) (hs : nm.size ≤ maxLen) (hl : longT t = false) :
    Calls Tryz.prog 53 #[.string nm, .pointer (some ⟨b, 0, none⟩)] w (Says false w) := by
  have hsh : ((getT t nm).getD []).length ≤ 200 := by
    cases hg : getT t nm with
    | none => exact Nat.zero_le _
    | some l => exact long_no hl ((getT_iff ht.files.rise).1 hg)
  have HG := Lib.hid (get_any p B nm t w ht hs (fun f hf => Nat.le_trans (long_no hl hf) (by decide)))
  clear ht
  go_enter Tryz.func53, Tryz.ntmps53
  go_wp2_with fail
  refine HG.out.mono ?_
  rintro e w1 ⟨v, rfl, ho⟩
  obtain ⟨A1, c1, hv, hc, hr⟩ := ho.row
  subst hv
  have HL := Lib.hid ho.later
  generalize ((getT t nm).getD []).length = k at hsh hc hr ⊢
  clear ho hr HG
  go_wp2
  go_ret
  exact ⟨ret_bool (decide_eq_false (by omega)), HL.out⟩

set_option maxHeartbeats 800000 in
theorem indexLong_any (A : Option Addr) (n c p B b : Nat) (l : List ByteArray) (t : Tr) (w : World) (hx : Row w A n l) (hn : n ≤ 65536) (ht : TreeAt w p B t) (hb : w.cell? ⟨b, 0, none⟩ = some (.pointer (some ⟨p, 0, none⟩))) (hs : ∀ s ∈ l, s.size ≤ maxLen) (hl : longT t = false) :
    Calls Tryz.prog 65 #[.slice A n c, .func (.func 53) #[] #[.pointer (some ⟨b, 0, none⟩)]] w fun e w' => e = .returned (.int .i64 (-1)) ∧ Later w w' := by
  have HX := Lib.hid hx
  have HF := Lib.hid (fun s (hs : s.size ≤ maxLen) w' (h : Later w w') => longFn_any p B b s t w' (ht.later h) (h.cell hb) hs hl)
  have HS := Lib.hid hs
  have eg : ∀ (args : Array Value) (w : World), (callFunc 53 args).run Tryz.prog w = .ok (.enter 53 args) w := enters_of Tryz.func53 (by kernel_rfl) rfl
  clear hx hb ht hs hl
  go_enter Tryz.func65, Tryz.ntmps65
  go_wp2
  go_loopg [8] (n + 1) (fun g i wr => ∃ k : Nat, k ≤ n ∧ n - k ≤ g ∧ i = .int .i64 k ∧ Hid (Later w wr))
  case atStart => exact ⟨0, Nat.zero_le _, by omega, rfl, Later.refl w⟩
  case round =>
    obtain ⟨k, hk, hg, rfl, hwr⟩ := hrel
    by_cases hlt : k < n
    · obtain ⟨b1, o1, rfl, g1⟩ := (HX.out.later hwr.out).get hlt
      have hkl : k < l.length := by rw [HX.out.len]; exact hlt
      have HFy := Lib.hid (HF.out (l.getD k ByteArray.empty) (HS.out _ (mem_getD hkl)) wr hwr.out)
      generalize l.getD k ByteArray.empty = y at g1 HFy
      clear hkl
      go_wp2_with (go_at_fn 53; refine HFy.out.mono ?_; rintro e w2 ⟨rfl, hl2⟩; replace hl2 := Lib.hid hl2)
      go_roundg (n - (k + 1))
      case measure => omega
      case rel => exact ⟨k + 1, by omega, Nat.le_refl _, by go_num, hwr.out.trans hl2.out⟩
    · go_wp2
      go_ret
      exact ⟨rfl, hwr.out⟩

set_option maxHeartbeats 400000 in
theorem containsLong_any (A : Option Addr) (n c p B b : Nat) (l : List ByteArray) (t : Tr) (w : World) (hx : Row w A n l) (hn : n ≤ 65536) (ht : TreeAt w p B t) (hb : w.cell? ⟨b, 0, none⟩ = some (.pointer (some ⟨p, 0, none⟩))) (hs : ∀ s ∈ l, s.size ≤ maxLen) (hl : longT t = false) :
    Calls Tryz.prog 52 #[.slice A n c, .func (.func 53) #[] #[.pointer (some ⟨b, 0, none⟩)]] w (Says false w) := by
  have HI := Lib.hid (indexLong_any A n c p B b l t w hx hn ht hb hs hl)
  clear hx hb ht
  go_enter Tryz.func52, Tryz.ntmps52
  go_wp2_with fail
  refine HI.out.mono ?_
  rintro e w' ⟨rfl, hl'⟩
  have HL := Lib.hid hl'
  clear hl' HI
  go_wp2
  go_ret
  exact ⟨rfl, HL.out⟩

set_option maxHeartbeats 400000 in
theorem tooLong_any (p B : Nat) (t : Tr) (w : World) (ht : TreeAt w p B t) (hn : t.length ≤ 65536) (hs : ∀ f ∈ t, f.1.size ≤ maxLen) (hl : longT t = false) :
    Calls Tryz.prog 26 #[.pointer (some ⟨p, 0, none⟩)] w (Says false w) := by
  have hlb : Later w (w.alloc (.cells #[.pointer (some ⟨p, 0, none⟩)] 25)) := (Later.refl w).alloc _
  have hb : (w.alloc (.cells #[.pointer (some ⟨p, 0, none⟩)] 25)).cell? ⟨w.heap.size, 0, none⟩ = some (.pointer (some ⟨p, 0, none⟩)) := (BoxAt.made w _ _).cell rfl
  have HN := Lib.hid (names_any p B t _ (ht.later hlb) hn)
  have HT := Lib.hid (ht.later hlb); have HB := Lib.hid hb; have HLB := Lib.hid hlb
  clear ht
  go_enter Tryz.func26, Tryz.ntmps26
  go_wp2_with fail
  clear hlb
  generalize w.alloc (.cells #[.pointer (some ⟨p, 0, none⟩)] 25) = w1 at HN HT HB HLB hb ⊢
  refine HN.out.mono ?_
  rintro e w2 ⟨v, rfl, ho⟩
  obtain ⟨A1, c1, hv, hc, hr⟩ := ho.row
  subst hv
  have hlen : (namesT t).length ≤ 65536 := by simp only [namesT, List.length_map]; exact hn
  have HC := Lib.hid (containsLong_any A1 _ c1 p B w.heap.size (namesT t) t w2 hr hlen (HT.out.later ho.later) (ho.later.cell HB.out) (fun s hs' => by
    simp only [namesT, List.mem_map] at hs'
    obtain ⟨f, hf, rfl⟩ := hs'
    exact hs f hf) hl)
  have HL := Lib.hid (HLB.out.trans ho.later)
  clear ho hr hb HN
  go_wp2_with fail
  refine HC.out.mono ?_
  rintro e w3 ⟨rfl, hl3⟩
  have HL3 := Lib.hid hl3
  clear hl3 HC
  go_wp2
  go_ret
  exact ⟨rfl, HL.out.trans HL3.out⟩

end Go.Proofs.YtbhnbkcokhfopaaGreat
