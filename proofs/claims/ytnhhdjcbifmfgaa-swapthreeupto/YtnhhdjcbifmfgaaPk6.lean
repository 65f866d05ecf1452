import Derived.Test.YtnhhdjcbifmfgaaPk5
import Derived.Deep.RegionWith
import Derived.Test.YtnhhdjcbifmfgaaChecked
import Derived.Test.YtnhhdjcbifmfgaaPk1
import Derived.Test.YtnhhdjcbifmfgaaPk2
import Derived.Deep.LoopGhost
import Derived.Deep.QuietTactic
import Derived.BigQuiet
import Derived.Lib.Hide
import Derived.Test.YtnhhdjcbifmfgaaPk3
import Derived.Shelf.LaysM
import Derived.Ground.GgzProg
import Derived.Ground.SlgmProg
import Derived.Shelf.SlIter.Nil
import Derived.Shelf.SortM.Plain
import Derived.Shelf.SortM.SortNone
import Derived.Test.YtnhhdjcbifmfgaaProg
import Derived.Test.YtnhhdjcbifmfgaaPk4
import Derived.Sort.KeysCollected
import Derived.Sort.OwnSorted
import Derived.WalkKit
import Derived.Laws.StructEq

/-
  What swap's turnHunks comes to, as a call.
-/
namespace Go.Proofs.Ytnhhdjcbifmfgaa
open Go.RowKit Go.Maps

set_option maxRecDepth 100000 in
theorem growth_exact (kd : Int) (nm to : ByteArray) (pl : Int) (A B : Option Addr) (n c m d : Nat) (w : World) (h1 : n ≤ 65536) (h2 : m ≤ 65536) :
    Calls Try.prog 27 #[.agg #[.int .i64 kd, .string nm, .string to, .int .i64 pl, .slice A n c, .slice B m d]] w fun e w' => e = .returned (.int .i64 ((m : Int) - n)) ∧ w' = w.alloc (.cells #[.int .i64 kd, .string nm, .string to, .int .i64 pl, .slice A n c, .slice B m d] 28) := by
  go_enter Try.func27, Try.ntmps27
  go_wp2
  go_ret
  exact ⟨by go_num, rfl⟩

set_option maxRecDepth 100000 in
set_option maxHeartbeats 1600000 in
theorem turnHH_any (x y : PrC) (w : World) (hx : PrOk w x) (hy : PrOk w y) (hp : 0 ≤ x.v.place ∧ x.v.place ≤ 1048576) (hq : 0 ≤ y.v.place ∧ y.v.place ≤ 1048576) :
    Calls Try.prog 20 #[prV x, prV y] w (GivesW x y (turnHH x.v y.v) w) := by
  have HX := Lib.hid hx; have HY := Lib.hid hy
  have l1 := hx.old.len; have l2 := hx.new.len; have l3 := hy.old.len; have l4 := hy.new.len
  have k1 := hx.omost; have k2 := hx.nmost; have k3 := hy.omost; have k4 := hy.nmost
  clear hx hy
  obtain ⟨⟨kd, nm, to, pl, old, new⟩, A, n, c, B, m, d⟩ := x
  obtain ⟨⟨ke, nn, tt, pk, pold, pnew⟩, C, i, e, D, j, f⟩ := y
  unfold prV turnHH
  dsimp only at *
  rw [l1, l2, l3, l4]
  clear l1 l2 l3 l4
  obtain ⟨hp1, hp2⟩ := hp
  obtain ⟨hq1, hq2⟩ := hq
  by_cases h1 : nm = nn
  · subst h1
    rw [if_neg (fun h => h rfl)]
    by_cases h2 : pk > pl + m
    · rw [if_pos h2]
      have hw : IntKind.i64.wrap (pk - ((m : Int) - n)) = pk - ((m : Int) - n) := IntWalk.i64_in _ (by omega)
      go_enter Try.func20, Try.ntmps20
      go_upto_region 4 with fail
      go_region_with (go_at_call 27; refine (growth_exact _ _ _ _ _ _ _ _ _ _ _ k1 k2).mono ?_; rintro e w' ⟨rfl, rfl⟩)
      all_goals go_upto_region 7 with fail
      all_goals go_region
      all_goals go_wp2
      all_goals
        obtain ⟨_, _, b2, b3, hl⟩ := four_boxes w _ _ _ _ 28
        exact bodyPost_ret (results_two rfl _ _ _ _ _ _ _ _ _ _ _ _ rfl rfl rfl (b2.later ((Later.refl _).alloc _).drew.drew) (b3.later ((Later.refl _).alloc _).drew.drew) Try.underlying28 rfl Try.primSize Try.primSize) rfl
          ⟨atC ⟨⟨ke, nm, tt, pk, pold, pnew⟩, C, i, e, D, j, f⟩ (pk - ((m : Int) - n)), ⟨⟨kd, nm, to, pl, old, new⟩, A, n, c, B, m, d⟩, rfl, rfl, rfl, (fun _ hx9 hy9 => ⟨(atC_ok hy9 (by omega) (by omega)), (hx9)⟩), (hl.alloc _).drew.drew⟩
    · rw [if_neg h2]
      by_cases h3 : pk + i < pl
      · rw [if_pos h3]
        have hw : IntKind.i64.wrap (pl + ((j : Int) - i)) = pl + ((j : Int) - i) := IntWalk.i64_in _ (by omega)
        go_enter Try.func20, Try.ntmps20
        go_upto_region 6 with fail
        go_region_with (go_at_call 27; refine (growth_exact _ _ _ _ _ _ _ _ _ _ _ k3 k4).mono ?_; rintro e w' ⟨rfl, rfl⟩)
        all_goals go_upto_region 7 with fail
        all_goals go_region
        all_goals go_wp2
        all_goals
          obtain ⟨_, _, b2, b3, hl⟩ := four_boxes w _ _ _ _ 28
          exact bodyPost_ret (results_two rfl _ _ _ _ _ _ _ _ _ _ _ _ rfl rfl rfl (b2.later ((Later.refl _).alloc _).drew.drew) (b3.later ((Later.refl _).alloc _).drew.drew) Try.underlying28 rfl Try.primSize Try.primSize) rfl
            ⟨⟨⟨ke, nm, tt, pk, pold, pnew⟩, C, i, e, D, j, f⟩, atC ⟨⟨kd, nm, to, pl, old, new⟩, A, n, c, B, m, d⟩ (pl + ((j : Int) - i)), rfl, rfl, rfl, (fun _ hx9 hy9 => ⟨(hy9), (atC_ok hx9 (by omega) (by omega))⟩), (hl.alloc _).drew.drew⟩
      · rw [if_neg h3]
        go_enter Try.func20, Try.ntmps20
        go_wp2
        obtain ⟨_, _, b2, b3, hl⟩ := four_boxes w _ _ _ _ 28
        exact bodyPost_ret (results_two rfl _ _ _ _ _ _ _ _ _ _ _ _ rfl rfl rfl b2 b3 Try.underlying28 rfl Try.primSize Try.primSize) rfl ⟨zeroC, zeroC, rfl, rfl, rfl, (fun _ _ _ => ⟨zeroC_ok _, zeroC_ok _⟩), hl⟩
  · rw [if_pos h1]
    have t1 := text_ne h1
    go_enter Try.func20, Try.ntmps20
    go_upto_region 7 with fail
    go_region
    go_wp2
    obtain ⟨_, _, b2, b3, hl⟩ := four_boxes w _ _ _ _ 28
    exact bodyPost_ret (results_two rfl _ _ _ _ _ _ _ _ _ _ _ _ rfl rfl rfl (b2.later (Later.refl _).drew) (b3.later (Later.refl _).drew) Try.underlying28 rfl Try.primSize Try.primSize) rfl
      ⟨⟨⟨ke, nn, tt, pk, pold, pnew⟩, C, i, e, D, j, f⟩, ⟨⟨kd, nm, to, pl, old, new⟩, A, n, c, B, m, d⟩, rfl, rfl, rfl, (fun _ hx9 hy9 => ⟨hy9, hx9⟩), hl.drew⟩

end Go.Proofs.Ytnhhdjcbifmfgaa

/-
  What the document's Right comes to, as a call.
-/
namespace Go.Proofs.Ytnhhdjcbifmfgaa
open Go.RowKit

end Go.Proofs.Ytnhhdjcbifmfgaa

/-
  What the document's All comes to, as a call.
-/
namespace Go.Proofs.Ytnhhdjcbifmfgaa
open Go.RowKit

end Go.Proofs.Ytnhhdjcbifmfgaa

/-
  What the document's Same comes to, as a call.
-/
namespace Go.Proofs.Ytnhhdjcbifmfgaa
open Go.RowKit

end Go.Proofs.Ytnhhdjcbifmfgaa

/-
  What the document's Right comes to, as a call.
-/
namespace Go.Proofs.Ytnhhdjcbifmfgaa
open Go.RowKit

end Go.Proofs.Ytnhhdjcbifmfgaa

/-
  What the document's Same on prims comes to, as a call.
-/
namespace Go.Proofs.Ytnhhdjcbifmfgaa
open Go.RowKit

end Go.Proofs.Ytnhhdjcbifmfgaa

/-
  What calls of the library come to, laid at this program: the names of a map, sorted.
-/
namespace Go.Proofs
open Go.Shelf
def Try.laysSort_ren : Go.Shelf.Ren := ⟨fun | 6 => 33 | 8 => 38 | 9 => 37 | 19 => 49 | 20 => 50 | 21 => 40 | 22 => 41 | 23 => 42 | 24 => 43 | 25 => 44 | 26 => 45 | 27 => 46 | 28 => 47 | 29 => 48 | 36 => 52 | 31 => 53 | 32 => 54 | 37 => 55 | 38 => 56 | 39 => 57 | 41 => 62 | n => n, fun | 27 => 22 | 29 => 9 | 3 => 3 | 32 => 58 | 26 => 22 | 0 => 0 | 44 => 69 | 46 => 71 | 4 => 4 | 36 => 62 | 35 => 61 | 41 => 66 | 5 => 5 | 9 => 9 | 53 => 72 | 57 => 76 | 63 => 80 | 64 => 81 | n => n, fun | n => n⟩
theorem Try.laysSort : Go.Proofs.SlLaysM.n6 Try.prog Try.laysSort_ren := {
  mixed := by kernel_rfl
  f6 := ⟨Try.f33.name, by decide, Try.func33.trans (congrArg some (by kernel_rfl))⟩
  f8 := Try.func38.trans (congrArg some (by kernel_rfl))
  f9 := ⟨Try.f37.name, by decide, Try.func37.trans (congrArg some (by kernel_rfl))⟩
  f19 := Try.func49.trans (congrArg some (by kernel_rfl))
  f20 := Try.func50.trans (congrArg some (by kernel_rfl))
  f21 := ⟨Try.f40.name, by decide, Try.func40.trans (congrArg some (by kernel_rfl))⟩
  f22 := ⟨Try.f41.name, by decide, Try.func41.trans (congrArg some (by kernel_rfl))⟩
  f23 := ⟨Try.f42.name, by decide, Try.func42.trans (congrArg some (by kernel_rfl))⟩
  f24 := ⟨Try.f43.name, by decide, Try.func43.trans (congrArg some (by kernel_rfl))⟩
  f25 := ⟨Try.f44.name, by decide, Try.func44.trans (congrArg some (by kernel_rfl))⟩
  f26 := ⟨Try.f45.name, by decide, Try.func45.trans (congrArg some (by kernel_rfl))⟩
  f27 := ⟨Try.f46.name, by decide, Try.func46.trans (congrArg some (by kernel_rfl))⟩
  f28 := ⟨Try.f47.name, by decide, Try.func47.trans (congrArg some (by kernel_rfl))⟩
  f29 := ⟨Try.f48.name, by decide, Try.func48.trans (congrArg some (by kernel_rfl))⟩
  f31 := Try.func53.trans (congrArg some (by kernel_rfl))
  f32 := Try.func54.trans (congrArg some (by kernel_rfl))
  f36 := ⟨Try.f52.name, by decide, Try.func52.trans (congrArg some (by kernel_rfl))⟩
  f37 := ⟨Try.f55.name, by decide, Try.func55.trans (congrArg some (by kernel_rfl))⟩
  f38 := ⟨Try.f56.name, by decide, Try.func56.trans (congrArg some (by kernel_rfl))⟩
  f39 := ⟨Try.f57.name, by decide, Try.func57.trans (congrArg some (by kernel_rfl))⟩
  f41 := ⟨Try.f62.name, by decide, Try.func62.trans (congrArg some (by kernel_rfl))⟩
  t0 := Try.underlying0
  a0 := Try.isAgg0
  z0 := Try.sizeOf0
  v0 := Try.zeroValue0
  t3 := Try.underlying3
  a3 := Try.isAgg3
  z3 := Try.sizeOf3
  v3 := Try.zeroValue3
  t4 := Try.underlying4
  a4 := Try.isAgg4
  z4 := Try.sizeOf4
  v4 := Try.zeroValue4
  t5 := Try.underlying5
  a5 := Try.isAgg5
  z5 := Try.sizeOf5
  v5 := Try.zeroValue5
  t9 := Try.underlying9
  a9 := Try.isAgg9
  z9 := Try.sizeOf9
  v9 := Try.zeroValue9
  t26 := Try.underlying22
  a26 := Try.isAgg22
  z26 := Try.sizeOf22
  v26 := Try.zeroValue22
  t27 := Try.underlying22
  a27 := Try.isAgg22
  z27 := Try.sizeOf22
  v27 := Try.zeroValue22
  t29 := Try.underlying9
  a29 := Try.isAgg9
  z29 := Try.sizeOf9
  v29 := Try.zeroValue9
  t32 := Try.underlying58
  a32 := Try.isAgg58
  z32 := Try.sizeOf58
  v32 := Try.zeroValue58
  t35 := Try.underlying61
  a35 := Try.isAgg61
  z35 := Try.sizeOf61
  v35 := Try.zeroValue61
  t36 := Try.underlying62
  a36 := Try.isAgg62
  z36 := Try.sizeOf62
  v36 := Try.zeroValue62
  t41 := Try.underlying66
  a41 := Try.isAgg66
  z41 := Try.sizeOf66
  v41 := Try.zeroValue66
  t44 := Try.underlying69
  a44 := Try.isAgg69
  z44 := Try.sizeOf69
  v44 := Try.zeroValue69
  t46 := Try.underlying71
  a46 := Try.isAgg71
  z46 := Try.sizeOf71
  v46 := Try.zeroValue71
  t53 := Try.underlying72
  a53 := Try.isAgg72
  z53 := Try.sizeOf72
  v53 := Try.zeroValue72
  t57 := Try.underlying76
  a57 := Try.isAgg76
  z57 := Try.sizeOf76
  v57 := Try.zeroValue76
  t63 := Try.underlying80
  a63 := Try.isAgg80
  z63 := Try.sizeOf80
  v63 := Try.zeroValue80
  t64 := Try.underlying81
  a64 := Try.isAgg81
  z64 := Try.sizeOf81
  v64 := Try.zeroValue81 }
open Go.RowKit Go.Maps Go.Sort
end Go.Proofs

/-
  What tree's Names comes to, as a call.
-/
namespace Go.Proofs.Ytnhhdjcbifmfgaa
open Go.RowKit Go.Maps Go.Sort

theorem before_lt : ∀ a b : List UInt8, bytesBefore a b = true ↔ a < b
  | [], [] => by simp [bytesBefore]
  | [], b :: s => by simp [bytesBefore]
  | a :: r, [] => by simp [bytesBefore]
  | a :: r, b :: s => by
    simp only [bytesBefore, Bool.or_eq_true, decide_eq_true_eq, Bool.and_eq_true, beq_iff_eq, List.cons_lt_cons_iff, before_lt r s]

theorem keys_datum (vs : Fl Value) : strKeys (datum vs) = vs.map fun f => bytes f.1 := by
  simp [strKeys, datum, ent, strOf, Function.comp_def]

theorem keys_sorted {vs : Fl Value} (h : Rising vs) {ss : List (List UInt8)} (hp : ss.Perm (strKeys (datum vs))) : ss.mergeSort (fun x y => decide (x ≤ y)) = vs.map fun f => bytes f.1 := by
  have e : ss.mergeSort leB = (strKeys (datum vs)).mergeSort leB := mergeSort_of_perm hp
  rw [show (fun x y : List UInt8 => decide (x ≤ y)) = leB from rfl, e, keys_datum]
  refine List.mergeSort_of_pairwise (List.pairwise_map.2 (h.imp fun {a b} hab => ?_))
  simp only [leB, decide_eq_true_eq]
  exact List.le_of_lt ((before_lt _ _).1 hab)

theorem keys_values {vs : Fl Value} (h : Rising vs) {ss : List (List UInt8)} (hp : ss.Perm (strKeys (datum vs))) :
    (ss.mergeSort (fun x y => decide (x ≤ y))).map encStr = (vs.map (·.1)).map Value.string ∧ ss.length = (vs.map (·.1)).length := by
  refine ⟨?_, by have := hp.length_eq; rw [keys_datum] at this; simpa using this⟩
  rw [keys_sorted h hp, List.map_map, List.map_map]
  refine List.map_congr_left fun f _ => ?_
  show Value.string (txt (bytes f.1)) = Value.string f.1
  rw [txt_bytes]

/-- The names of a tree's files. -/
def namesT (t : Tr) : List ByteArray := t.map (·.1)
theorem names_map (z : Fl Held) : namesT (mapT (·.2) z) = (mapT (·.1) z).map (·.1) := by simp [namesT, mapT]

end Go.Proofs.Ytnhhdjcbifmfgaa

/-
  What prim's Names comes to, as a call.
-/
namespace Go.Proofs.Ytnhhdjcbifmfgaa
open Go.RowKit Go.Maps Go.Sort

theorem Row.lit2 (w : World) (o : Obj) (ss : List ByteArray) (t : TypeId) : Row ((w.alloc o).alloc (.cells (ss.map Value.string).toArray t)) (some ⟨w.heap.size + 1, 0, .none⟩) ss.length ss := by
  have := Row.lit (w.alloc o) ss t
  rw [show (w.alloc o).heap.size = w.heap.size + 1 from by simp] at this
  exact this
theorem enc_bytes (s : ByteArray) : encStr (bytes s) = .string s := by
  show Value.string (txt (bytes s)) = _
  rw [txt_bytes]

theorem sorted_two (a b : ByteArray) : ([bytes a, bytes b]).mergeSort (fun x y => decide (x ≤ y)) = (if ltN a b = true then [a, b] else [b, a]).map bytes := by
  by_cases h : ltN a b = true
  · rw [if_pos h]
    refine List.mergeSort_of_pairwise (List.pairwise_cons.2 ⟨fun y hy => ?_, List.pairwise_singleton _ _⟩)
    simp at hy
    subst hy
    simp only [decide_eq_true_eq]
    exact List.le_of_lt ((before_lt _ _).1 h)
  · rw [if_neg h]
    have e : ([bytes a, bytes b]).mergeSort leB = ([bytes b, bytes a]).mergeSort leB := mergeSort_of_perm (List.Perm.swap _ _ _)
    rw [show (fun x y : List UInt8 => decide (x ≤ y)) = leB from rfl, e]
    refine List.mergeSort_of_pairwise (List.pairwise_cons.2 ⟨fun y hy => ?_, List.pairwise_singleton _ _⟩)
    simp at hy
    subst hy
    simp only [leB, decide_eq_true_eq]
    exact List.not_lt.1 fun hl => h ((before_lt _ _).2 hl)

theorem namesP_move (nm to : ByteArray) (pl : Int) (old new : List ByteArray) : namesP ⟨3, nm, to, pl, old, new⟩ = if ltN nm to = true then [nm, to] else [to, nm] := by simp [namesP]
theorem namesP_one (k : Int) (nm to : ByteArray) (pl : Int) (old new : List ByteArray) (h : k ≠ 3) : namesP ⟨k, nm, to, pl, old, new⟩ = [nm] := by simp [namesP, h]

set_option maxRecDepth 100000 in
set_option maxHeartbeats 800000 in
theorem primNames_any (x : PrC) (w : World) : Calls Try.prog 28 #[prV x] w (GivesRow (namesP x.v) w) := by
  obtain ⟨⟨kd, nm, to, pl, old, new⟩, A, n, c, B, m, d⟩ := x
  unfold prV
  dsimp only
  by_cases h3 : kd = 3
  · subst h3
    have hb : ((w.alloc (.cells #[.int .i64 3, .string nm, .string to, .int .i64 pl, .slice A n c, .slice B m d] 28)).alloc (.cells #[.string nm, .string to] 9)).heap[w.heap.size + 1]? = some (.cells #[.string nm, .string to] 9 (0, 0)) := heap_alloc2_new w _ _
    have hh := holds_of_block (ss := [bytes nm, bytes to]) hb (by simp [enc_bytes])
    have hs := AnyM.slices_Sort_string Try.laysSort (w.heap.size + 1) 0 2 [bytes nm, bytes to] _ hh (by simp) (by simp)
    rw [sorted_two] at hs
    have hl : Later w ((w.alloc (.cells #[.int .i64 3, .string nm, .string to, .int .i64 pl, .slice A n c, .slice B m d] 28)).alloc (.cells #[.string nm, .string to] 9)) := ((Later.refl w).alloc _).alloc _
    rw [namesP_move]
    have hlen : (if ltN nm to = true then [nm, to] else [to, nm]).length = 2 := by split <;> rfl
    generalize (if ltN nm to = true then [nm, to] else [to, nm]) = l at hs hlen ⊢
    have HS := Lib.hid hs; have HB := Lib.hid hb; have HL := Lib.hid hl; have HN := Lib.hid hlen
    clear hs hb hh hl hlen
    go_enter Try.func28, Try.ntmps28
    go_wp2_with (go_at_call 33; refine HS.out.mono ?_; rintro e w1 ⟨rfl, k1, os1, rfl⟩)
    go_ret
    have h1 := ownsRow_sorted (n := k1) (os := os1) (base := w.heap.size) (g := w.heap.size + 1) (cap := 2) (ss := [bytes nm, bytes to]) (ts := l.map bytes) (by simp [HN.out]) (by omega) HB.out (by simp) (by decide) rfl
    have h2 : (l.map bytes).map encStr = l.map Value.string := by
      rw [List.map_map]
      exact List.map_congr_left fun s _ => enc_bytes s
    rw [h2] at h1
    have hl2 := HL.out.turn (B := w.heap.size + 1) (grownBy_sorted (n := k1) (os := os1) (l.map bytes).toArray) (by omega)
    have h3 : Own 9 w _ (.slice (some ⟨w.heap.size + 1, 0, none⟩) 2 2) l := ⟨by rw [HN.out]; exact h1, hl2⟩
    obtain ⟨A9, c9, hv9, hc9, hr9⟩ := h3.row
    exact ⟨A9, c9, by rw [← hv9]; rfl, hc9, hr9, hl2⟩
  · rw [namesP_one kd nm to pl old new h3]
    go_enter Try.func28, Try.ntmps28
    go_wp2
    go_ret
    exact ⟨_, _, rfl, Nat.le_refl _, Row.lit2 w _ [nm] 9, ((Later.refl w).alloc _).alloc _⟩

end Go.Proofs.Ytnhhdjcbifmfgaa

/-
  What the document's Names comes to, as a call.
-/
namespace Go.Proofs.Ytnhhdjcbifmfgaa
open Go.RowKit Go.Maps

end Go.Proofs.Ytnhhdjcbifmfgaa

/-
  Prims as values, and what the document's calls on them tell (but Invert).
-/
namespace Go.Proofs.Ytnhhdjcbifmfgaa
open Go.RowKit Go.Maps

/-- A row of lines, nothing else has turned. -/
def GivesL (l : List ByteArray) (w : World) (e : Ending) (w' : World) : Prop := ∃ v, e = .returned v ∧ Reads w' v l ∧ Later w w'
theorem GivesRow.l {l : List ByteArray} {w w' : World} {e : Ending} (h : GivesRow l w e w') : GivesL l w e w' := by
  obtain ⟨A, c, rfl, hc, hr, hl⟩ := h
  exact ⟨_, rfl, ⟨A, _, c, rfl, hc, hr⟩, hl⟩

section
variable {w : World} {v u : Value} {p q : Pr}
theorem names_v (h : PrimAt w v p) : Calls Try.prog 28 #[v] w (GivesL (namesP p) w) := by
  obtain ⟨x, rfl, rfl, hx⟩ := h; exact (primNames_any x w).mono fun e w' he => GivesRow.l he
theorem lineSame_v {l r : List ByteArray} (h : Reads w v l) (k : Reads w u r) (hl : l.length ≤ 65536) (hr : r.length ≤ 65536) : Calls Try.prog 12 #[v, u] w (Says (sameB l r) w) := by
  obtain ⟨A, n, c, rfl, hc, h1⟩ := h
  obtain ⟨B, m, d, rfl, hd, h2⟩ := k
  refine (same_any A B n c m d l r w h1 h2 (by rw [← h1.len]; exact hl) (by rw [← h2.len]; exact hr)).mono ?_
  rintro e w' ⟨rfl, q, rfl⟩
  exact ⟨rfl, (Later.refl w).drewN q⟩
theorem namesP_length (p : Pr) : (namesP p).length ≤ 65536 := by
  unfold namesP
  split
  · simp
  · split <;> simp
end

end Go.Proofs.Ytnhhdjcbifmfgaa

/-
  What slices.Index, Contains, IndexFunc and ContainsFunc come to, as calls, over rows of texts.
-/
namespace Go.Proofs.Ytnhhdjcbifmfgaa
open Go.RowKit Go.Maps

theorem mem_getD {l : List ByteArray} {k : Nat} (h : k < l.length) : l.getD k ByteArray.empty ∈ l := by
  simp only [List.getD, List.getElem?_eq_getElem h, Option.getD_some]
  exact List.getElem_mem h
theorem not_mem_of {l : List ByteArray} {p : ByteArray → Prop} (h : ∀ j : Nat, j < l.length → ¬ p (l.getD j ByteArray.empty)) : ¬ ∃ s ∈ l, p s := by
  rintro ⟨s, hs, hp⟩
  obtain ⟨j, hj, rfl⟩ := List.getElem_of_mem hs
  refine h j hj ?_
  simpa only [List.getD, List.getElem?_eq_getElem hj, Option.getD_some] using hp

/-- A place, or none. -/
def FindsAt (Q : Prop) (w : World) (e : Ending) (w' : World) : Prop := (∃ k : Int, e = .returned (.int .i64 k) ∧ (0 ≤ k ↔ Q)) ∧ w = w'

set_option maxHeartbeats 400000 in
theorem index_any (A : Option Addr) (n c : Nat) (l : List ByteArray) (s : ByteArray) (w : World) (hx : Row w A n l) (hn : n ≤ 65536) (Q : Prop) (hQ : Q ↔ ∃ x ∈ l, s = x) :
    Calls Try.prog 35 #[.slice A n c, .string s] w (FindsAt Q w) := by
  have HX := Lib.hid hx; have HQ := Lib.hid hQ; clear hx hQ
  go_enter Try.func35, Try.ntmps35
  go_wp2
  go_loop [5, 8] (fun _ i => ∃ k : Nat, k ≤ n ∧ i = .int .i64 k ∧ Hid (∀ j : Nat, j < k → ¬ s = (l.getD j ByteArray.empty))) (fun _ i => n - (intOf i).toNat)
  case atStart => exact ⟨0, Nat.zero_le _, rfl, fun j hj => absurd hj (Nat.not_lt_zero _)⟩
  case round =>
    obtain ⟨k, hk, rfl, hall⟩ := hrel
    by_cases hlt : k < n
    · obtain ⟨b1, o1, rfl, g1⟩ := HX.out.get hlt
      have hkl : k < l.length := by rw [HX.out.len]; exact hlt
      have HM := Lib.hid (mem_getD hkl)
      generalize hy : l.getD k ByteArray.empty = y at g1 HM
      have HY := Lib.hid hy
      clear hkl hy
      by_cases he : s = y
      · subst he
        clear hall HY
        go_wp2
        go_ret
        exact ⟨⟨k, rfl, fun _ => HQ.out.2 ⟨s, HM.out, rfl⟩, fun _ => by omega⟩, rfl⟩
      · have t1 := text_ne he
        have HA : Hid (∀ j : Nat, j < k + 1 → ¬ s = (l.getD j ByteArray.empty)) := fun j hj => by
          by_cases e : j = k
          · rw [e, HY.out]; exact he
          · exact hall.out j (by omega)
        clear hall HY HM
        go_wp2
        exact ⟨⟨k + 1, by omega, by go_num, HA⟩, by simp [intOf]; omega⟩
    · have E : Hid (¬ ∃ x ∈ l, s = x) := not_mem_of fun j hj => hall.out j (by rw [HX.out.len] at hj; omega)
      clear hall
      go_wp2
      go_ret
      exact ⟨⟨-1, rfl, fun h => absurd h (by omega), fun h => absurd (HQ.out.1 h) E.out⟩, rfl⟩

theorem contains_any (A : Option Addr) (n c : Nat) (l : List ByteArray) (s : ByteArray) (w : World) (hx : Row w A n l) (hn : n ≤ 65536) (b : Bool) (hb : b = true ↔ ∃ x ∈ l, s = x) :
    Calls Try.prog 31 #[.slice A n c, .string s] w fun e w' => e = .returned (.bool b) ∧ w = w' := by
  have HI := Lib.hid (index_any A n c l s w hx hn (b = true) hb)
  clear hx hb
  go_enter Try.func31, Try.ntmps31
  go_wp2_with fail
  refine HI.out.mono ?_
  rintro e w' ⟨⟨k, rfl, hk⟩, rfl⟩
  have e1 : decide (0 ≤ k) = b := by
    rw [Bool.eq_iff_iff, decide_eq_true_eq, hk]
  have E1 := Lib.hid e1
  clear e1 hk HI
  go_wp2
  go_ret
  refine ⟨?_, rfl⟩
  first | exact ret_bool E1.out | (rw [← E1.out]; rfl) | (rw [← E1.out]; simp)

set_option maxHeartbeats 400000 in
theorem meetFn_any (B : Option Addr) (m d : Nat) (r : List ByteArray) (b : Nat) (s : ByteArray) (w : World) (hb : w.cell? ⟨b, 0, none⟩ = some (.slice B m d)) (hy : Row w B m r) (hm : m ≤ 65536) :
    Calls Try.prog 30 #[.string s, .pointer (some ⟨b, 0, none⟩)] w fun e w' => e = .returned (.bool (r.any fun x => decide (s = x))) ∧ w = w' := by
  have HC := Lib.hid (contains_any B m d r s w hy hm (r.any fun x => decide (s = x)) (by simp only [List.any_eq_true, decide_eq_true_eq]))
  clear hy
  generalize (r.any fun x => decide (s = x)) = t at HC ⊢
  go_enter Try.func30, Try.ntmps30
  go_wp2_with fail
  refine HC.out.mono ?_
  rintro e w' ⟨rfl, rfl⟩
  go_wp2
  go_ret
  exact ⟨rfl, rfl⟩

set_option maxHeartbeats 400000 in
theorem indexFunc_any (A : Option Addr) (n c : Nat) (l : List ByteArray) (B : Option Addr) (m d : Nat) (r : List ByteArray) (b : Nat) (w : World) (hx : Row w A n l) (hn : n ≤ 65536) (hb : w.cell? ⟨b, 0, none⟩ = some (.slice B m d)) (hy : Row w B m r) (hm : m ≤ 65536) (Q : Prop) (hQ : Q ↔ ∃ x ∈ l, (r.any fun y => decide (x = y)) = true) :
    Calls Try.prog 34 #[.slice A n c, .func (.func 30) #[] #[.pointer (some ⟨b, 0, none⟩)]] w (FindsAt Q w) := by
  have HX := Lib.hid hx
  have HF := Lib.hid (fun s => meetFn_any B m d r b s w hb hy hm)
  have eg : ∀ (args : Array Value) (w : World), (callFunc 30 args).run Try.prog w = .ok (.enter 30 args) w := enters_of Try.func30 (by kernel_rfl) rfl
  have HQ := Lib.hid hQ
  clear hx hb hy hQ
  go_enter Try.func34, Try.ntmps34
  go_wp2
  go_loop [5, 8] (fun _ i => ∃ k : Nat, k ≤ n ∧ i = .int .i64 k ∧ Hid (∀ j : Nat, j < k → ¬ (r.any fun y => decide ((l.getD j ByteArray.empty) = y)) = true)) (fun _ i => n - (intOf i).toNat)
  case atStart => exact ⟨0, Nat.zero_le _, rfl, fun j hj => absurd hj (Nat.not_lt_zero _)⟩
  case round =>
    obtain ⟨k, hk, rfl, hall⟩ := hrel
    by_cases hlt : k < n
    · obtain ⟨b1, o1, rfl, g1⟩ := HX.out.get hlt
      have hkl : k < l.length := by rw [HX.out.len]; exact hlt
      have HM := Lib.hid (mem_getD hkl)
      generalize hy : l.getD k ByteArray.empty = y at g1 HM
      have HY := Lib.hid hy
      clear hkl hy
      have hf := HF.out y
      cases he : (r.any fun z => decide (y = z))
      · rw [he] at hf
        have HFy := Lib.hid hf
        have HA : Hid (∀ j : Nat, j < k + 1 → ¬ (r.any fun y => decide ((l.getD j ByteArray.empty) = y)) = true) := fun j hj => by
          by_cases e : j = k
          · rw [e, HY.out, he]; exact Bool.false_ne_true
          · exact hall.out j (by omega)
        clear hall HY HM he hf
        go_wp2_with (go_at_fn 30; refine HFy.out.mono ?_; rintro e w' ⟨rfl, rfl⟩)
        exact ⟨⟨k + 1, by omega, by go_num, HA⟩, by simp [intOf]; omega⟩
      · rw [he] at hf
        have HFy := Lib.hid hf
        have HE := Lib.hid he
        clear hall HY he hf
        go_wp2_with (go_at_fn 30; refine HFy.out.mono ?_; rintro e w' ⟨rfl, rfl⟩)
        go_ret
        exact ⟨⟨k, rfl, fun _ => HQ.out.2 ⟨y, HM.out, HE.out⟩, fun _ => by omega⟩, rfl⟩
    · have E : Hid (¬ ∃ x ∈ l, (r.any fun y => decide (x = y)) = true) := not_mem_of (p := fun x => (r.any fun y => decide (x = y)) = true) fun j hj => hall.out j (by rw [HX.out.len] at hj; omega)
      clear hall
      go_wp2
      go_ret
      exact ⟨⟨-1, rfl, fun h => absurd h (by omega), fun h => absurd (HQ.out.1 h) E.out⟩, rfl⟩

theorem containsFunc_any (A : Option Addr) (n c : Nat) (l : List ByteArray) (B : Option Addr) (m d : Nat) (r : List ByteArray) (b : Nat) (w : World) (hx : Row w A n l) (hn : n ≤ 65536) (hb : w.cell? ⟨b, 0, none⟩ = some (.slice B m d)) (hy : Row w B m r) (hm : m ≤ 65536) :
    Calls Try.prog 29 #[.slice A n c, .func (.func 30) #[] #[.pointer (some ⟨b, 0, none⟩)]] w fun e w' => e = .returned (.bool (l.any fun x => r.any fun y => decide (x = y))) ∧ w = w' := by
  have HI := Lib.hid (indexFunc_any A n c l B m d r b w hx hn hb hy hm ((l.any fun x => r.any fun y => decide (x = y)) = true) (by rw [List.any_eq_true]))
  clear hx hb hy
  go_enter Try.func29, Try.ntmps29
  go_wp2_with fail
  refine HI.out.mono ?_
  rintro e w' ⟨⟨k, rfl, hk⟩, rfl⟩
  have e1 : decide (0 ≤ k) = (l.any fun x => r.any fun y => decide (x = y)) := by
    rw [Bool.eq_iff_iff, decide_eq_true_eq, hk]
  have E1 := Lib.hid e1
  clear e1 hk HI
  go_wp2
  go_ret
  refine ⟨?_, rfl⟩
  first | exact ret_bool E1.out | (rw [← E1.out]; rfl) | (rw [← E1.out]; simp)

end Go.Proofs.Ytnhhdjcbifmfgaa

/-
  What swap's meet comes to, as a call.
-/
namespace Go.Proofs.Ytnhhdjcbifmfgaa
open Go.RowKit Go.Maps

theorem two_boxes (w : World) (a b : Array Value) (t : TypeId) : BoxAt ((w.alloc (.cells a t)).alloc (.cells b t)) w.heap.size a t ∧ BoxAt ((w.alloc (.cells a t)).alloc (.cells b t)) (w.heap.size + 1) b t ∧ Later w ((w.alloc (.cells a t)).alloc (.cells b t)) := by
  refine ⟨(BoxAt.made w a t).alloc _, ?_, ((Later.refl w).alloc _).alloc _⟩
  have := BoxAt.made (w.alloc (.cells a t)) b t
  simpa using this
theorem BoxAt.all {w : World} {g : Nat} {x : PrC} {t : TypeId} (h : BoxAt w g (prL x).toArray t) : w.cell? ⟨g, 0, none⟩ = some (.int .i64 x.v.kind) ∧ w.cell? ⟨g, 1, none⟩ = some (.string x.v.name) ∧ w.cell? ⟨g, 2, none⟩ = some (.string x.v.to) ∧ w.cell? ⟨g, 3, none⟩ = some (.int .i64 x.v.place) ∧ w.cell? ⟨g, 4, none⟩ = some (.slice x.A x.n x.c) ∧ w.cell? ⟨g, 5, none⟩ = some (.slice x.B x.m x.d) :=
  ⟨h.cell rfl, h.cell rfl, h.cell rfl, h.cell rfl, h.cell rfl, h.cell rfl⟩

set_option maxRecDepth 100000 in
set_option maxHeartbeats 800000 in
theorem meet_any (x y : PrC) (w : World) : Calls Try.prog 23 #[prV x, prV y] w (Says (commonP x.v y.v) w) := by
  obtain ⟨b0, b1, hl⟩ := two_boxes w (prL x).toArray (prL y).toArray 28
  have HN := Lib.hid (fun w' => primNames_any y w')
  have HM := Lib.hid (fun w' => primNames_any x w')
  have hn1 := namesP_length x.v
  have hn2 := namesP_length y.v
  have HE : Hid (commonP x.v y.v = (namesP x.v).any fun a => (namesP y.v).any fun b => decide (a = b)) := rfl
  generalize commonP x.v y.v = cm at HE ⊢
  generalize namesP x.v = l at HM hn1 HE
  generalize namesP y.v = r at HN hn2 HE
  have HB0 := Lib.hid b0; have HL := Lib.hid hl
  clear b0 b1 hl
  unfold prV at HN HM ⊢
  go_enter Try.func23, Try.ntmps23
  go_wp2_with fail
  refine (HN.out _).mono ?_
  rintro e w1 ⟨A1, c1, rfl, hc1, hr1, hl1⟩
  have b2 := (HB0.out.later hl1).alloc (.cells #[.slice A1 r.length c1] 22)
  obtain ⟨q0, q1, q2, q3, q4, q5⟩ := b2.all
  have hb : Hid ((w1.alloc (.cells #[.slice A1 r.length c1] 22)).cell? ⟨w1.heap.size, 0, none⟩ = some (.slice A1 r.length c1)) := by simp [Hid]
  have HR1 := Lib.hid (hr1.later ((Later.refl w1).alloc (.cells #[.slice A1 r.length c1] 22)))
  have HL1 := Lib.hid ((HL.out.trans hl1).alloc (.cells #[.slice A1 r.length c1] 22))
  clear hr1 hl1 b2
  go_wp2_with fail
  refine (HM.out _).mono ?_
  rintro e w2 ⟨A2, c2, rfl, hc2, hr2, hl2⟩
  have HCF := Lib.hid (containsFunc_any A2 l.length c2 l A1 r.length c1 r w1.heap.size w2 hr2 hn1 (hl2.cell hb.out) (HR1.out.later hl2) hn2)
  rw [← HE.out] at HCF
  have HL2 := Lib.hid (HL1.out.trans hl2)
  clear hr2 hl2 q0 q1 q2 q3 q4 q5
  go_wp2_with fail
  refine HCF.out.mono ?_
  rintro e w3 ⟨rfl, rfl⟩
  go_wp2
  go_ret
  exact ⟨rfl, HL2.out⟩

end Go.Proofs.Ytnhhdjcbifmfgaa

/-
  Two arrays of two ints, compared.
-/
namespace Go.Proofs.Ytnhhdjcbifmfgaa
open Go.RowKit

theorem kinds_eqAt (n : Nat) (hin : ∀ (x y : Int) (w : World), (Op.equalIn n 3 (.int .i64 x) (.int .i64 y)).run Try.prog w = .ok (x == y) w) (a b c d : Int) (w : World) :
    (Op.equalIn (n + 1) 44 (.agg #[.int .i64 a, .int .i64 b]) (.agg #[.int .i64 c, .int .i64 d])).run Try.prog w = .ok (a == c && b == d) w := by
  have p1 : ∀ (x y : Int) (w : World), (part 3 #[.int .i64 x, .int .i64 y] 0).run Try.prog w = .ok (.int .i64 x) w := fun x y w => by
    simp [part, Try.isAgg3]
  have p2 : ∀ (x y : Int) (w : World), (part 3 #[.int .i64 x, .int .i64 y] 1).run Try.prog w = .ok (.int .i64 y) w := fun x y w => by
    simp [part, Try.isAgg3]
  simp only [Op.equalIn, Sem.run_bind, run_underlying Try.underlying44, Result.andThen_ok, Try.sizeOf3]
  simp only [Std.Legacy.Range.forIn_eq_forIn_range', Std.Legacy.Range.size, Nat.sub_zero, Nat.add_sub_cancel, Nat.div_one, List.range', List.forIn_cons, List.forIn_nil, Nat.zero_add, Nat.mul_one, Sem.run_bind, p1, hin, Result.andThen_ok]
  cases h1 : a == c
  · simp
  · cases h2 : b == d
    · simp only [beq_eq_false_iff_ne, ne_eq] at h2
      simp [p2, hin, h2]
    · simp only [beq_iff_eq] at h2
      simp [p2, hin, h2]

theorem kinds_eqIn (a b c d : Int) (w : World) : (Op.equalIn 10000 44 (.agg #[.int .i64 a, .int .i64 b]) (.agg #[.int .i64 c, .int .i64 d])).run Try.prog w = .ok (a == c && b == d) w :=
  kinds_eqAt 9999 (fun x y w => run_equalIn_int w 9998 3 .i64 .i64 x y Try.underlying3) a b c d w

theorem kinds_eq (a b c d : Int) (w : World) : (binOp .eql 44 (.agg #[.int .i64 a, .int .i64 b]) (.agg #[.int .i64 c, .int .i64 d])).run Try.prog w = .ok (.bool (a == c && b == d)) w := by
  rw [run_eql_struct, kinds_eqIn]; rfl

end Go.Proofs.Ytnhhdjcbifmfgaa
