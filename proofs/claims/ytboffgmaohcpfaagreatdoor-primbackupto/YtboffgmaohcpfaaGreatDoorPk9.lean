import Derived.Test.YtboffgmaohcpfaaGreatDoorPk8
import Derived.Test.YtboffgmaohcpfaaGreatDoorPk5
import Derived.Test.YtboffgmaohcpfaaGreatDoorPk3
import Derived.Sort.OwnSorted
import Derived.Deep.LoopGhost
import Derived.Deep.QuietTactic
import Derived.BigQuiet
import Derived.Lib.Hide
import Derived.Test.YtboffgmaohcpfaaGreatDoorPk7
import Derived.Test.YtboffgmaohcpfaaGreatDoorPk4

/-
  What prim's Invert comes to, as a call.
-/
namespace Go.Proofs.YtboffgmaohcpfaaGreatDoor
open Go.RowKit

set_option maxRecDepth 100000 in
set_option maxHeartbeats 800000 in
theorem primInvert_any (x : PrC) (w : World) (hx : PrOk w x) :
    Calls Tryz.prog 13 #[prV x] w (GivesPr (invertP x.v) w) := by
  have hlb : Later w ((w.alloc (.cells #[.int .i64 x.v.kind, .string x.v.name, .string x.v.to, .int .i64 x.v.place, .slice x.A x.n x.c, .slice x.B x.m x.d] 39)).alloc (.cells #[.int .i64 0, .string ⟨#[]⟩, .string ⟨#[]⟩, .int .i64 0, .slice none 0 0, .slice none 0 0] 39)) := ((Later.refl w).alloc _).alloc _
  have HC := Lib.hid (primClone_any x _ (hx.later hlb))
  clear hx
  obtain ⟨⟨kd, nm, to, pl, old, new⟩, A, n, c, B, m, d⟩ := x
  unfold prV at HC ⊢
  dsimp only at HC hlb ⊢
  go_enter Tryz.func13, Tryz.ntmps13
  go_wp2_with fail
  have hb0 : BoxAt ((w.alloc (.cells #[.int .i64 kd, .string nm, .string to, .int .i64 pl, .slice A n c, .slice B m d] 39)).alloc (.cells #[.int .i64 0, .string ⟨#[]⟩, .string ⟨#[]⟩, .int .i64 0, .slice none 0 0, .slice none 0 0] 39)) w.heap.size #[.int .i64 kd, .string nm, .string to, .int .i64 pl, .slice A n c, .slice B m d] 39 := (BoxAt.made w _ _).alloc _
  have hb1 : BoxAt ((w.alloc (.cells #[.int .i64 kd, .string nm, .string to, .int .i64 pl, .slice A n c, .slice B m d] 39)).alloc (.cells #[.int .i64 0, .string ⟨#[]⟩, .string ⟨#[]⟩, .int .i64 0, .slice none 0 0, .slice none 0 0] 39)) (w.heap.size + 1) #[.int .i64 0, .string ⟨#[]⟩, .string ⟨#[]⟩, .int .i64 0, .slice none 0 0, .slice none 0 0] 39 := by
    have := BoxAt.made (w.alloc (.cells #[.int .i64 kd, .string nm, .string to, .int .i64 pl, .slice A n c, .slice B m d] 39)) #[.int .i64 0, .string ⟨#[]⟩, .string ⟨#[]⟩, .int .i64 0, .slice none 0 0, .slice none 0 0] 39
    simpa using this
  refine HC.out.mono ?_
  clear HC
  generalize (w.alloc (.cells #[.int .i64 kd, .string nm, .string to, .int .i64 pl, .slice A n c, .slice B m d] 39)).alloc (.cells #[.int .i64 0, .string ⟨#[]⟩, .string ⟨#[]⟩, .int .i64 0, .slice none 0 0, .slice none 0 0] 39) = wb at hb0 hb1 hlb ⊢
  rintro e w1 ⟨u, v, rfl, hpr⟩
  obtain ⟨A1, c1, hv1, hcc1, hr1⟩ := hpr.old.row
  obtain ⟨A2, c2, hv2, hcc2, hr2⟩ := hpr.new.row
  subst hv1 hv2
  dsimp only at *
  have hlt := hb1.lt
  have hle := hpr.later.le
  have hb0' := (hb0.later hpr.later).alloc (.cells #[.int .i64 kd, .string nm, .string to, .int .i64 pl, .slice A1 old.length c1, .slice A2 new.length c2] 39)
  have k0 := hb0'.cell (i := 0) rfl
  have HB1 := Lib.hid (hb1.later hpr.later)
  have HP := Lib.hid (hpr.base hlb)
  have HUB : Hid (∀ b, (Value.slice A1 old.length c1).ownBlock = some b → wb.heap.size ≤ b) := hpr.old.block
  have HVB : Hid (∀ b, (Value.slice A2 new.length c2).ownBlock = some b → wb.heap.size ≤ b) := hpr.new.block
  clear hr1 hr2 hpr hb0 hb0' hb1 hlb hcc1 hcc2
  by_cases h0 : kd = 0
  · subst h0
    have E : Hid (invertP ⟨0, nm, to, pl, old, new⟩ = ⟨0, nm, to, pl, new, old⟩) := by simp [Hid, invertP]
    have d1 := HB1.out.alloc (.cells #[.int .i64 0, .string nm, .string to, .int .i64 pl, .slice A2 new.length c2, .slice A1 old.length c1] 39)
    have y0 := d1.cell (i := 0) rfl; have y1 := d1.cell (i := 1) rfl; have y2 := d1.cell (i := 2) rfl; have y3 := d1.cell (i := 3) rfl; have y4 := d1.cell (i := 4) rfl; have y5 := d1.cell (i := 5) rfl
    have z0 := d1.frozen 0; have z1 := d1.frozen 1; have z2 := d1.frozen 2; have z3 := d1.frozen 3; have z4 := d1.frozen 4; have z5 := d1.frozen 5
    have HD1 := Lib.hid d1
    clear d1
    go_wp2
    have hset := turned_set6 (w1.alloc (.cells #[.int .i64 0, .string nm, .string to, .int .i64 pl, .slice A2 new.length c2, .slice A1 old.length c1] 39)) (w.heap.size + 1) (.int .i64 0) (.string nm) (.string to) (.int .i64 pl) (.slice A2 new.length c2) (.slice A1 old.length c1)
    have hlw := (HP.out.later.alloc (.cells #[.int .i64 0, .string nm, .string to, .int .i64 pl, .slice A2 new.length c2, .slice A1 old.length c1] 39)).turn hset (by omega)
    refine bodyPost_ret (results_cell_row rfl _ _ (w.heap.size + 1) 39 _ (0, 0) _ rfl (HD1.out.set6 (.int .i64 0) (.string nm) (.string to) (.int .i64 pl) (.slice A2 new.length c2) (.slice A1 old.length c1)) Tryz.underlying39 rfl Tryz.primSize) rfl ?_
    rw [E.out]
    exact ⟨(.slice A2 new.length c2), (.slice A1 old.length c1), rfl, ((HP.out.new.alloc _).other hset (fun e => by have := HVB.out _ e; omega) hlw), ((HP.out.old.alloc _).other hset (fun e => by have := HUB.out _ e; omega) hlw), fun b h1 h2 => HP.out.apart b h2 h1⟩
  by_cases h1 : kd = 1
  · subst h1
    have E : Hid (invertP ⟨1, nm, to, pl, old, new⟩ = ⟨2, nm, to, pl, old, new⟩) := by simp [Hid, invertP]
    have d1 := HB1.out.alloc (.cells #[.int .i64 2, .string nm, .string to, .int .i64 pl, .slice A1 old.length c1, .slice A2 new.length c2] 39)
    have y0 := d1.cell (i := 0) rfl; have y1 := d1.cell (i := 1) rfl; have y2 := d1.cell (i := 2) rfl; have y3 := d1.cell (i := 3) rfl; have y4 := d1.cell (i := 4) rfl; have y5 := d1.cell (i := 5) rfl
    have z0 := d1.frozen 0; have z1 := d1.frozen 1; have z2 := d1.frozen 2; have z3 := d1.frozen 3; have z4 := d1.frozen 4; have z5 := d1.frozen 5
    have HD1 := Lib.hid d1
    clear d1
    go_wp2
    have hset := turned_set6 (w1.alloc (.cells #[.int .i64 2, .string nm, .string to, .int .i64 pl, .slice A1 old.length c1, .slice A2 new.length c2] 39)) (w.heap.size + 1) (.int .i64 2) (.string nm) (.string to) (.int .i64 pl) (.slice A1 old.length c1) (.slice A2 new.length c2)
    have hlw := (HP.out.later.alloc (.cells #[.int .i64 2, .string nm, .string to, .int .i64 pl, .slice A1 old.length c1, .slice A2 new.length c2] 39)).turn hset (by omega)
    refine bodyPost_ret (results_cell_row rfl _ _ (w.heap.size + 1) 39 _ (0, 0) _ rfl (HD1.out.set6 (.int .i64 2) (.string nm) (.string to) (.int .i64 pl) (.slice A1 old.length c1) (.slice A2 new.length c2)) Tryz.underlying39 rfl Tryz.primSize) rfl ?_
    rw [E.out]
    exact ⟨(.slice A1 old.length c1), (.slice A2 new.length c2), rfl, ((HP.out.old.alloc _).other hset (fun e => by have := HUB.out _ e; omega) hlw), ((HP.out.new.alloc _).other hset (fun e => by have := HVB.out _ e; omega) hlw), HP.out.apart⟩
  by_cases h2 : kd = 2
  · subst h2
    have E : Hid (invertP ⟨2, nm, to, pl, old, new⟩ = ⟨1, nm, to, pl, old, new⟩) := by simp [Hid, invertP]
    have d1 := HB1.out.alloc (.cells #[.int .i64 1, .string nm, .string to, .int .i64 pl, .slice A1 old.length c1, .slice A2 new.length c2] 39)
    have y0 := d1.cell (i := 0) rfl; have y1 := d1.cell (i := 1) rfl; have y2 := d1.cell (i := 2) rfl; have y3 := d1.cell (i := 3) rfl; have y4 := d1.cell (i := 4) rfl; have y5 := d1.cell (i := 5) rfl
    have z0 := d1.frozen 0; have z1 := d1.frozen 1; have z2 := d1.frozen 2; have z3 := d1.frozen 3; have z4 := d1.frozen 4; have z5 := d1.frozen 5
    have HD1 := Lib.hid d1
    clear d1
    go_wp2
    have hset := turned_set6 (w1.alloc (.cells #[.int .i64 1, .string nm, .string to, .int .i64 pl, .slice A1 old.length c1, .slice A2 new.length c2] 39)) (w.heap.size + 1) (.int .i64 1) (.string nm) (.string to) (.int .i64 pl) (.slice A1 old.length c1) (.slice A2 new.length c2)
    have hlw := (HP.out.later.alloc (.cells #[.int .i64 1, .string nm, .string to, .int .i64 pl, .slice A1 old.length c1, .slice A2 new.length c2] 39)).turn hset (by omega)
    refine bodyPost_ret (results_cell_row rfl _ _ (w.heap.size + 1) 39 _ (0, 0) _ rfl (HD1.out.set6 (.int .i64 1) (.string nm) (.string to) (.int .i64 pl) (.slice A1 old.length c1) (.slice A2 new.length c2)) Tryz.underlying39 rfl Tryz.primSize) rfl ?_
    rw [E.out]
    exact ⟨(.slice A1 old.length c1), (.slice A2 new.length c2), rfl, ((HP.out.old.alloc _).other hset (fun e => by have := HUB.out _ e; omega) hlw), ((HP.out.new.alloc _).other hset (fun e => by have := HVB.out _ e; omega) hlw), HP.out.apart⟩
  by_cases h3 : kd = 3
  · subst h3
    have E : Hid (invertP ⟨3, nm, to, pl, old, new⟩ = ⟨3, to, nm, pl, old, new⟩) := by simp [Hid, invertP]
    have d1 := HB1.out.alloc (.cells #[.int .i64 3, .string to, .string nm, .int .i64 pl, .slice A1 old.length c1, .slice A2 new.length c2] 39)
    have y0 := d1.cell (i := 0) rfl; have y1 := d1.cell (i := 1) rfl; have y2 := d1.cell (i := 2) rfl; have y3 := d1.cell (i := 3) rfl; have y4 := d1.cell (i := 4) rfl; have y5 := d1.cell (i := 5) rfl
    have z0 := d1.frozen 0; have z1 := d1.frozen 1; have z2 := d1.frozen 2; have z3 := d1.frozen 3; have z4 := d1.frozen 4; have z5 := d1.frozen 5
    have HD1 := Lib.hid d1
    clear d1
    go_wp2
    have hset := turned_set6 (w1.alloc (.cells #[.int .i64 3, .string to, .string nm, .int .i64 pl, .slice A1 old.length c1, .slice A2 new.length c2] 39)) (w.heap.size + 1) (.int .i64 3) (.string to) (.string nm) (.int .i64 pl) (.slice A1 old.length c1) (.slice A2 new.length c2)
    have hlw := (HP.out.later.alloc (.cells #[.int .i64 3, .string to, .string nm, .int .i64 pl, .slice A1 old.length c1, .slice A2 new.length c2] 39)).turn hset (by omega)
    refine bodyPost_ret (results_cell_row rfl _ _ (w.heap.size + 1) 39 _ (0, 0) _ rfl (HD1.out.set6 (.int .i64 3) (.string to) (.string nm) (.int .i64 pl) (.slice A1 old.length c1) (.slice A2 new.length c2)) Tryz.underlying39 rfl Tryz.primSize) rfl ?_
    rw [E.out]
    exact ⟨(.slice A1 old.length c1), (.slice A2 new.length c2), rfl, ((HP.out.old.alloc _).other hset (fun e => by have := HUB.out _ e; omega) hlw), ((HP.out.new.alloc _).other hset (fun e => by have := HVB.out _ e; omega) hlw), HP.out.apart⟩
  have E : Hid (invertP ⟨kd, nm, to, pl, old, new⟩ = ⟨kd, nm, to, pl, old, new⟩) := by simp [Hid, invertP, h0, h1, h2, h3]
  have d1 := HB1.out.alloc (.cells #[.int .i64 kd, .string nm, .string to, .int .i64 pl, .slice A1 old.length c1, .slice A2 new.length c2] 39)
  have y0 := d1.cell (i := 0) rfl; have y1 := d1.cell (i := 1) rfl; have y2 := d1.cell (i := 2) rfl; have y3 := d1.cell (i := 3) rfl; have y4 := d1.cell (i := 4) rfl; have y5 := d1.cell (i := 5) rfl
  have z0 := d1.frozen 0; have z1 := d1.frozen 1; have z2 := d1.frozen 2; have z3 := d1.frozen 3; have z4 := d1.frozen 4; have z5 := d1.frozen 5
  have HD1 := Lib.hid d1
  clear d1
  go_wp2
  have hset := turned_set6 (w1.alloc (.cells #[.int .i64 kd, .string nm, .string to, .int .i64 pl, .slice A1 old.length c1, .slice A2 new.length c2] 39)) (w.heap.size + 1) (.int .i64 kd) (.string nm) (.string to) (.int .i64 pl) (.slice A1 old.length c1) (.slice A2 new.length c2)
  have hlw := (HP.out.later.alloc (.cells #[.int .i64 kd, .string nm, .string to, .int .i64 pl, .slice A1 old.length c1, .slice A2 new.length c2] 39)).turn hset (by omega)
  refine bodyPost_ret (results_cell_row rfl _ _ (w.heap.size + 1) 39 _ (0, 0) _ rfl (HD1.out.set6 (.int .i64 kd) (.string nm) (.string to) (.int .i64 pl) (.slice A1 old.length c1) (.slice A2 new.length c2)) Tryz.underlying39 rfl Tryz.primSize) rfl ?_
  rw [E.out]
  exact ⟨(.slice A1 old.length c1), (.slice A2 new.length c2), rfl, ((HP.out.old.alloc _).other hset (fun e => by have := HUB.out _ e; omega) hlw), ((HP.out.new.alloc _).other hset (fun e => by have := HVB.out _ e; omega) hlw), HP.out.apart⟩

end Go.Proofs.YtboffgmaohcpfaaGreatDoor

/-
  What prim's Names comes to, as a call.
-/
namespace Go.Proofs.YtboffgmaohcpfaaGreatDoor
open Go.RowKit Go.Maps Go.Sort

theorem Row.lit2 (w : World) (o : Obj) (ss : List ByteArray) (t : TypeId) : Row ((w.alloc o).alloc (.cells (ss.map Value.string).toArray t)) (some ⟨w.heap.size + 1, 0, .none⟩) ss.length ss := by
  have := Row.lit (w.alloc o) ss t
  rw [show (w.alloc o).heap.size = w.heap.size + 1 from by simp] at this
  exact this
theorem enc_bytes (s : ByteArray) : encStr (bytes s) = .string s := by
  show Value.string (txt (bytes s)) = _
  rw [txt_bytes]

theorem sorted_two (a b : ByteArray) : ([bytes a, bytes b]).mergeSort (fun x y => decide (x ≤ y)) = (if ltN a b = true then [a, b] else [b, a]).map bytes := by
  by_cases h : ltN a b = true
  · rw [if_pos h]
    refine List.mergeSort_of_pairwise (List.pairwise_cons.2 ⟨fun y hy => ?_, List.pairwise_singleton _ _⟩)
    simp at hy
    subst hy
    simp only [decide_eq_true_eq]
    exact List.le_of_lt ((before_lt _ _).1 h)
  · rw [if_neg h]
    have e : ([bytes a, bytes b]).mergeSort leB = ([bytes b, bytes a]).mergeSort leB := mergeSort_of_perm (List.Perm.swap _ _ _)
    rw [show (fun x y : List UInt8 => decide (x ≤ y)) = leB from rfl, e]
    refine List.mergeSort_of_pairwise (List.pairwise_cons.2 ⟨fun y hy => ?_, List.pairwise_singleton _ _⟩)
    simp at hy
    subst hy
    simp only [leB, decide_eq_true_eq]
    exact List.not_lt.1 fun hl => h ((before_lt _ _).2 hl)

theorem namesP_move (nm to : ByteArray) (pl : Int) (old new : List ByteArray) : namesP ⟨3, nm, to, pl, old, new⟩ = if ltN nm to = true then [nm, to] else [to, nm] := by simp [namesP]
theorem namesP_one (k : Int) (nm to : ByteArray) (pl : Int) (old new : List ByteArray) (h : k ≠ 3) : namesP ⟨k, nm, to, pl, old, new⟩ = [nm] := by simp [namesP, h]

set_option maxRecDepth 100000 in
set_option maxHeartbeats 800000 in
theorem primNames_any (x : PrC) (w : World) : Calls Tryz.prog 17 #[prV x] w (GivesRow (namesP x.v) w) := by
  obtain ⟨⟨kd, nm, to, pl, old, new⟩, A, n, c, B, m, d⟩ := x
  unfold prV
  dsimp only
  by_cases h3 : kd = 3
  · subst h3
    have hb : ((w.alloc (.cells #[.int .i64 3, .string nm, .string to, .int .i64 pl, .slice A n c, .slice B m d] 39)).alloc (.cells #[.string nm, .string to] 9)).heap[w.heap.size + 1]? = some (.cells #[.string nm, .string to] 9 (0, 0)) := heap_alloc2_new w _ _
    have hh := holds_of_block (ss := [bytes nm, bytes to]) hb (by simp [enc_bytes])
    have hs := AnyM.slices_Sort_string Tryz.laysSort (w.heap.size + 1) 0 2 [bytes nm, bytes to] _ hh (by simp) (by simp)
    rw [sorted_two] at hs
    have hl : Later w ((w.alloc (.cells #[.int .i64 3, .string nm, .string to, .int .i64 pl, .slice A n c, .slice B m d] 39)).alloc (.cells #[.string nm, .string to] 9)) := ((Later.refl w).alloc _).alloc _
    rw [namesP_move]
    have hlen : (if ltN nm to = true then [nm, to] else [to, nm]).length = 2 := by split <;> rfl
    generalize (if ltN nm to = true then [nm, to] else [to, nm]) = l at hs hlen ⊢
    have HS := Lib.hid hs; have HB := Lib.hid hb; have HL := Lib.hid hl; have HN := Lib.hid hlen
    clear hs hb hh hl hlen
    go_enter Tryz.func17, Tryz.ntmps17
    go_wp2_with (go_at_call 39; refine HS.out.mono ?_; rintro e w1 ⟨rfl, k1, os1, rfl⟩)
    go_ret
    have h1 := ownsRow_sorted (n := k1) (os := os1) (base := w.heap.size) (g := w.heap.size + 1) (cap := 2) (ss := [bytes nm, bytes to]) (ts := l.map bytes) (by simp [HN.out]) (by omega) HB.out (by simp) (by decide) rfl
    have h2 : (l.map bytes).map encStr = l.map Value.string := by
      rw [List.map_map]
      exact List.map_congr_left fun s _ => enc_bytes s
    rw [h2] at h1
    have hl2 := HL.out.turn (B := w.heap.size + 1) (grownBy_sorted (n := k1) (os := os1) (l.map bytes).toArray) (by omega)
    have h3 : Own 9 w _ (.slice (some ⟨w.heap.size + 1, 0, none⟩) 2 2) l := ⟨by rw [HN.out]; exact h1, hl2⟩
    obtain ⟨A9, c9, hv9, hc9, hr9⟩ := h3.row
    exact ⟨A9, c9, by rw [← hv9]; rfl, hc9, hr9, hl2⟩
  · rw [namesP_one kd nm to pl old new h3]
    go_enter Tryz.func17, Tryz.ntmps17
    go_wp2
    go_ret
    exact ⟨_, _, rfl, Nat.le_refl _, Row.lit2 w _ [nm] 9, ((Later.refl w).alloc _).alloc _⟩

end Go.Proofs.YtboffgmaohcpfaaGreatDoor

/-
  What prim's Same comes to, as a call.
-/
namespace Go.Proofs.YtboffgmaohcpfaaGreatDoor
open Go.RowKit

set_option maxRecDepth 100000 in
set_option maxHeartbeats 800000 in
theorem primSame_any (x y : PrC) (w : World) (hx : PrOk w x) (hy : PrOk w y) :
    Calls Tryz.prog 18 #[prV x, prV y] w (Says (sameP x.v y.v) w) := by
  obtain ⟨⟨kd, nm, to, pl, old, new⟩, A, n, c, B, m, d⟩ := x
  obtain ⟨⟨kd', nm', to', pl', old', new'⟩, A', n', c', B', m', d'⟩ := y
  have hlb : Later w ((w.alloc (.cells #[.int .i64 kd, .string nm, .string to, .int .i64 pl, .slice A n c, .slice B m d] 39)).alloc (.cells #[.int .i64 kd', .string nm', .string to', .int .i64 pl', .slice A' n' c', .slice B' m' d'] 39)) := ((Later.refl w).alloc _).alloc _
  have H1 := Lib.hid (same_any A A' n c n' c' old old' _ (hx.old.later hlb) (hy.old.later hlb) hx.omost hy.omost)
  have H2 := Lib.hid (fun (w1 : World) (h : Later w w1) => same_any B B' m d m' d' new new' w1 (hx.new.later h) (hy.new.later h) hx.nmost hy.nmost)
  have HLB := Lib.hid hlb
  have HX := Lib.hid hx; have HY := Lib.hid hy
  unfold prV
  dsimp only
  clear hx hy hlb
  by_cases h1 : kd = kd'
  · subst h1
    by_cases h2 : nm = nm'
    · subst h2
      by_cases h3 : to = to'
      · subst h3
        by_cases h4 : pl = pl'
        · subst h4
          have E : Hid (sameP ⟨kd, nm, to, pl, old, new⟩ ⟨kd, nm, to, pl, old', new'⟩ = (sameB old old' && sameB new new')) := by simp [Hid, sameP]
          rw [E.out]
          clear E
          cases h5 : sameB old old'
          · rw [h5] at H1
            rw [Bool.false_and]
            go_enter Tryz.func18, Tryz.ntmps18
            go_wp2_with fail
            refine H1.out.mono ?_
            rintro e w1 ⟨rfl, q, rfl⟩
            go_wp2
            go_ret
            exact ⟨rfl, HLB.out.drewN q⟩
          · rw [h5] at H1
            rw [Bool.true_and]
            generalize sameB new new' = b at H2 ⊢
            go_enter Tryz.func18, Tryz.ntmps18
            go_wp2_with fail
            refine H1.out.mono ?_
            rintro e w1 ⟨rfl, q, rfl⟩
            go_wp2_with fail
            refine (H2.out _ (HLB.out.drewN q)).mono ?_
            rintro e w1 ⟨rfl, q2, rfl⟩
            go_wp2
            go_ret
            exact ⟨rfl, HLB.out.drewN _⟩
        · have E : Hid (sameP ⟨kd, nm, to, pl, old, new⟩ ⟨kd, nm, to, pl', old', new'⟩ = false) := by simp [Hid, sameP, h4]
          rw [E.out]
          clear E
          go_enter Tryz.func18, Tryz.ntmps18
          go_wp2
          go_ret
          exact ⟨rfl, HLB.out⟩
      · have E : Hid (sameP ⟨kd, nm, to, pl, old, new⟩ ⟨kd, nm, to', pl', old', new'⟩ = false) := by simp [Hid, sameP, h3]
        rw [E.out]
        have hb := text_ne h3
        clear E
        go_enter Tryz.func18, Tryz.ntmps18
        go_wp2
        go_ret
        exact ⟨rfl, HLB.out⟩
    · have E : Hid (sameP ⟨kd, nm, to, pl, old, new⟩ ⟨kd, nm', to', pl', old', new'⟩ = false) := by simp [Hid, sameP, h2]
      rw [E.out]
      have hb := text_ne h2
      clear E
      go_enter Tryz.func18, Tryz.ntmps18
      go_wp2
      go_ret
      exact ⟨rfl, HLB.out⟩
  · have E : Hid (sameP ⟨kd, nm, to, pl, old, new⟩ ⟨kd', nm', to', pl', old', new'⟩ = false) := by simp [Hid, sameP, h1]
    rw [E.out]
    clear E
    go_enter Tryz.func18, Tryz.ntmps18
    go_wp2
    go_ret
    exact ⟨rfl, HLB.out⟩

end Go.Proofs.YtboffgmaohcpfaaGreatDoor

/-
  The statements' own example: two lines in the place of one.
-/
namespace Go.Proofs.YtboffgmaohcpfaaGreatDoor
open Go.RowKit Go.Maps

def qA : ByteArray := ⟨#[97]⟩
def qB : ByteArray := ⟨#[98]⟩
def qX : ByteArray := ⟨#[120]⟩
def qY : ByteArray := ⟨#[121]⟩
def qZ : ByteArray := ⟨#[122]⟩
def uA0 : Tr := [(qA, [])]
def uA : Tr := [(qA, [qX, qY])]
def uZ : Tr := [(qA, [qX, qZ, qZ])]
def uB : Tr := [(qB, [qX, qY])]
def pH : Pr := ⟨0, qA, ByteArray.empty, 1, [qY], [qZ, qZ]⟩
def bareC (k : Int) (a b : ByteArray) : PrC := ⟨⟨k, a, b, 0, [], []⟩, none, 0, 0, none, 0, 0⟩

theorem qx1 : applyP [] (bareC 1 qA ByteArray.empty).v = (uA0, 0) := by kernel_rfl
theorem qx2 : putT uA0 qA [qX, qY] = (uA, 0) := by kernel_rfl
theorem qx3 : applyP uA pH = (uZ, 0) := by kernel_rfl
theorem qx4 : applyP uZ (invertP pH) = (uA, 0) := by kernel_rfl
theorem qx5 : applyP uA (bareC 3 qA qB).v = (uB, 0) := by kernel_rfl
theorem qx6 : namesP (bareC 3 qB qA).v = [qA, qB] := by kernel_rfl
theorem qx7 : applyP uB pH = (uB, 31) := by kernel_rfl
theorem qx8 : applyP uB (bareC 0 ByteArray.empty ByteArray.empty).v = (uB, 30) := by kernel_rfl
theorem qx9 : rightP pH = true := by kernel_rfl
theorem qt1 : txt (textT uZ) = ⟨#[97, 32, 51, 10, 120, 10, 122, 10, 122, 10]⟩ := by kernel_rfl
theorem qt2 : txt (textT uB) = ⟨#[98, 32, 50, 10, 120, 10, 121, 10]⟩ := by kernel_rfl
theorem qt3 : (textT uZ).length ≤ 1000000 := of_decide_eq_true (by kernel_rfl)
theorem qt4 : (textT uB).length ≤ 1000000 := of_decide_eq_true (by kernel_rfl)
theorem small_q {s : ByteArray} (h : s.size ≤ 100) : s.size ≤ maxLen := by simp only [maxLen]; omega
theorem sizedA : Sized 1 3 uA := ⟨by simp [uA], fun f hf => by simp [uA] at hf; subst hf; exact ⟨by kernel_rfl, by kernel_rfl, by simp⟩⟩
theorem sizedZ : Sized 1 3 uZ := ⟨by simp [uZ], fun f hf => by simp [uZ] at hf; subst hf; exact ⟨by kernel_rfl, by kernel_rfl, by simp⟩⟩
theorem sizedB : Sized 1 3 uB := ⟨by simp [uB], fun f hf => by simp [uB] at hf; subst hf; exact ⟨by kernel_rfl, by kernel_rfl, by simp⟩⟩
theorem sized_some {k h : Nat} {t : Tr} (hs : Sized k h t) (hh : h ≤ 65536) : ∀ f ∈ t, f.1.size ≤ maxLen ∧ f.2.length ≤ 65536 := fun f hf => by
  have h1 := (hs.each f hf).1
  simp only [namedB, Bool.and_eq_true, decide_eq_true_eq] at h1
  exact ⟨by simp only [maxLen]; omega, Nat.le_trans (hs.each f hf).2.2 hh⟩
theorem bare_ok (w : World) (k : Int) {a b : ByteArray} (ha : a.size ≤ 100) (hb : b.size ≤ 100) : PrOk w (bareC k a b) :=
  ⟨Row.none, Row.none, Nat.le_refl _, Nat.le_refl _, by simp [bareC], by simp [bareC], small_q ha, small_q hb, by simp [bareC], by simp [bareC], (fun s hs => by simp [bareC] at hs), (fun s hs => by simp [bareC] at hs)⟩

theorem pH_ok {w : World} {A C : Option Addr} {c d : Nat} (h1 : Row w A 1 [qY]) (h2 : Row w C 2 [qZ, qZ]) (hc : 1 ≤ c) (hd : 2 ≤ d) : PrOk w ⟨pH, A, 1, c, C, 2, d⟩ :=
  ⟨h1, h2, hc, hd, show 1 ≤ 65536 by decide, show 2 ≤ 65536 by decide, small_q (show qA.size ≤ 100 by decide), small_q (show ByteArray.empty.size ≤ 100 by decide), show (-9223372036854775808 : Int) ≤ 1 by decide, show (1 : Int) ≤ 9223372036854775807 by decide,
    (fun s hs => by simp [pH] at hs; subst hs; exact small_q (by decide)), (fun s hs => by simp [pH] at hs; subst hs; exact small_q (by decide))⟩
theorem pI_ok {w : World} {A C : Option Addr} {c d : Nat} (h1 : Row w A 2 [qZ, qZ]) (h2 : Row w C 1 [qY]) (hc : 2 ≤ c) (hd : 1 ≤ d) : PrOk w ⟨invertP pH, A, 2, c, C, 1, d⟩ :=
  ⟨h1, h2, hc, hd, show 2 ≤ 65536 by decide, show 1 ≤ 65536 by decide, small_q (show qA.size ≤ 100 by decide), small_q (show ByteArray.empty.size ≤ 100 by decide), show (-9223372036854775808 : Int) ≤ 1 by decide, show (1 : Int) ≤ 9223372036854775807 by decide,
    (fun s hs => by simp [pH, invertP] at hs; subst hs; exact small_q (by decide)), (fun s hs => by simp [pH, invertP] at hs; subst hs; exact small_q (by decide))⟩
theorem PrOk.turned {w w' : World} {x : PrC} {B : Nat} (h : PrOk w x) (hg : Turned B w w') {es : Array MapEntry} {c : Nat} (hm : w.heap[B]? = some (.map es c)) : PrOk w' x :=
  ⟨h.old.turned hg hm, h.new.turned hg hm, h.oroom, h.nroom, h.omost, h.nmost, h.name, h.to, h.lo, h.hi, h.olds, h.news⟩
theorem BoxAt.turned {w w' : World} {g B : Nat} {cs : Array Value} {t : TypeId} (h : BoxAt w g cs t) (hg : Turned B w w') {es : Array MapEntry} {c : Nat} (hm : w.heap[B]? = some (.map es c)) : BoxAt w' g cs t :=
  h.other hg (by rintro rfl; unfold BoxAt at h; rw [h] at hm; cases hm)
/-- What stands while a tree turns: the tree, a prim, its box. -/
structure Stand (w w' : World) (p B : Nat) (t : Tr) (x : PrC) (g : Nat) : Prop where
  tree : TreeAt w' p B t
  prim : PrOk w' x
  box : BoxAt w' g (prL x).toArray 39
  later : Later w w'
theorem Stand.next {w w1 w2 : World} {p B g : Nat} {t t' : Tr} {x : PrC} (h : Stand w w1 p B t x g) (ht : TreeAt w2 p B t') (hg : Turned B w1 w2) (hB : w.heap.size ≤ B) : Stand w w2 p B t' x g := by
  obtain ⟨es, c, hm⟩ := h.tree.files.map
  exact ⟨ht, h.prim.turned hg hm, h.box.turned hg hm, h.later.turn hg hB⟩
theorem Stand.on {w w1 w2 : World} {p B g : Nat} {t : Tr} {x : PrC} (h : Stand w w1 p B t x g) (hl : Later w1 w2) : Stand w w2 p B t x g := ⟨h.tree.later hl, h.prim.later hl, h.box.later hl, h.later.trans hl⟩
theorem Stand.row {w w1 w2 : World} {p B g n : Nat} {t : Tr} {x : PrC} {A : Option Addr} {l : List ByteArray} (h : Stand w w1 p B t x g) (hg : Turned B w1 w2) (hr : Row w1 A n l) : Row w2 A n l := by
  obtain ⟨es, c, hm⟩ := h.tree.files.map
  exact hr.turned hg hm
theorem Row.head {w : World} {b o n : Nat} {s : ByteArray} {l : List ByteArray} (h : Row w (some ⟨b, o, .none⟩) n (s :: l)) : w.cell? ⟨b, o, .none⟩ = some (.string s) := by
  obtain ⟨b', o', e, hc⟩ := h.2 (by have := h.1; simp at this; omega)
  cases e
  have := hc 0 s rfl
  simpa using this
/-- The six cells of the box. -/
theorem Stand.cells {w w1 : World} {p B g : Nat} {t : Tr} {x : PrC} (h : Stand w w1 p B t x g) : w1.cell? ⟨g, 0, none⟩ = some (.int .i64 x.v.kind) ∧ w1.cell? ⟨g, 1, none⟩ = some (.string x.v.name) ∧ w1.cell? ⟨g, 2, none⟩ = some (.string x.v.to) ∧ w1.cell? ⟨g, 3, none⟩ = some (.int .i64 x.v.place) ∧ w1.cell? ⟨g, 4, none⟩ = some (.slice x.A x.n x.c) ∧ w1.cell? ⟨g, 5, none⟩ = some (.slice x.B x.m x.d) :=
  ⟨h.box.cell rfl, h.box.cell rfl, h.box.cell rfl, h.box.cell rfl, h.box.cell rfl, h.box.cell rfl⟩

set_option maxRecDepth 100000 in
set_option maxHeartbeats 8000000 in
theorem aliveP_any (w : World) (htab : Tab w) : Calls Tryz.prog 7 #[] w (Says true w) := by
  have HTB := Lib.hid htab; clear htab
  go_enter Tryz.func7, Tryz.ntmps7
  go_wp2_with fail
  refine (new_any w).mono ?_
  rintro e w1 ⟨p, B, rfl, ht1, hp, hB, hl1⟩
  have HT1 := Lib.hid ht1; have HL1 := Lib.hid hl1; clear ht1 hl1
  go_wp2_with fail
  have hst : Stand w (((w1.alloc (.cells #[.string ⟨#[121]⟩] 9)).alloc (.cells #[.string ⟨#[122]⟩, .string ⟨#[122]⟩] 9)).alloc (.cells #[.int .i64 0, .string ⟨#[97]⟩, .string ⟨#[]⟩, .int .i64 1, .slice (some ⟨w1.heap.size, 0, none⟩) 1 1, .slice (some ⟨w1.heap.size + 1, 0, none⟩) 2 2] 39)) p B [] ⟨pH, some ⟨w1.heap.size, 0, none⟩, 1, 1, some ⟨w1.heap.size + 1, 0, none⟩, 2, 2⟩ (w1.heap.size + 1 + 1) := by
    have hl : Later w1 (((w1.alloc (.cells #[.string ⟨#[121]⟩] 9)).alloc (.cells #[.string ⟨#[122]⟩, .string ⟨#[122]⟩] 9)).alloc (.cells #[.int .i64 0, .string ⟨#[97]⟩, .string ⟨#[]⟩, .int .i64 1, .slice (some ⟨w1.heap.size, 0, none⟩) 1 1, .slice (some ⟨w1.heap.size + 1, 0, none⟩) 2 2] 39)) := (((Later.refl w1).alloc _).alloc _).alloc _
    refine ⟨HT1.out.later hl, pH_ok ((Row.lit w1 [qY] 9).later (((Later.refl _).alloc _).alloc _)) ((Row.lit2 w1 _ [qZ, qZ] 9).later ((Later.refl _).alloc _)) (Nat.le_refl _) (Nat.le_refl _), ?_, HL1.out.trans hl⟩
    have := BoxAt.made ((w1.alloc (.cells #[.string ⟨#[121]⟩] 9)).alloc (.cells #[.string ⟨#[122]⟩, .string ⟨#[122]⟩] 9)) (prL ⟨pH, some ⟨w1.heap.size, 0, none⟩, 1, 1, some ⟨w1.heap.size + 1, 0, none⟩, 2, 2⟩).toArray 39
    rw [show ((w1.alloc (.cells #[.string ⟨#[121]⟩] 9)).alloc (.cells #[.string ⟨#[122]⟩, .string ⟨#[122]⟩] 9)).heap.size = w1.heap.size + 1 + 1 from by simp] at this
    exact this
  generalize ((w1.alloc (.cells #[.string ⟨#[121]⟩] 9)).alloc (.cells #[.string ⟨#[122]⟩, .string ⟨#[122]⟩] 9)).alloc (.cells #[.int .i64 0, .string ⟨#[97]⟩, .string ⟨#[]⟩, .int .i64 1, .slice (some ⟨w1.heap.size, 0, none⟩) 1 1, .slice (some ⟨w1.heap.size + 1, 0, none⟩) 2 2] 39) = w2 at hst ⊢
  have H2 := Lib.hid hst; clear hst HT1 HL1
  generalize w1.heap.size = g1 at H2 ⊢
  refine (apply_any (bareC 1 qA ByteArray.empty) p B 0 0 [] w2 H2.out.tree (bare_ok w2 1 (by decide) (by decide)) Sized.nil (by omega) (by simp [bareC])).mono ?_
  rw [qx1]
  rintro e w3 ⟨rfl, ht3, hg3⟩
  have H3 := Lib.hid (H2.out.next ht3 hg3 hB); clear ht3 hg3
  go_wp2_with fail
  refine (put_any p B qA (some ⟨w3.heap.size, 0, none⟩) 2 2 [qX, qY] uA0 _ (H3.out.tree.later ((Later.refl w3).alloc _)) (Row.lit w3 [qX, qY] 9) (small_q (by decide)) (by simp [uA0]) (by omega) (fun s hs => by simp at hs; rcases hs with rfl | rfl <;> exact small_q (by decide))).mono ?_
  rw [qx2]
  rintro e w4 ⟨rfl, ht4, hg4⟩
  have H4 := Lib.hid ((H3.out.on ((Later.refl w3).alloc _)).next ht4 hg4 hB); clear ht4 hg4
  obtain ⟨y0, y1, y2, y3, y4, y5⟩ := H4.out.cells
  simp only [pH, qA] at y0 y1 y2 y3 y4 y5
  go_wp2_with fail
  refine (apply_any ⟨pH, some ⟨g1, 0, none⟩, 1, 1, some ⟨g1 + 1, 0, none⟩, 2, 2⟩ p B 1 3 uA w4 H4.out.tree H4.out.prim sizedA (by omega) (by simp)).mono ?_
  rw [qx3]
  rintro e w5 ⟨rfl, ht5, hg5⟩
  have H5 := Lib.hid (H4.out.next ht5 hg5 hB); clear ht5 hg5 y0 y1 y2 y3 y4 y5
  go_wp2_with fail
  refine (treeText_any p B uZ w5 H5.out.tree (HTB.out.later H5.out.later) (by simp [uZ]) qt3 (sized_some sizedZ (by omega))).mono ?_
  rw [qt1]
  rintro e w6 ⟨rfl, hl6⟩
  have H6 := Lib.hid (H5.out.on hl6); clear hl6
  obtain ⟨y0, y1, y2, y3, y4, y5⟩ := H6.out.cells
  simp only [pH, qA] at y0 y1 y2 y3 y4 y5
  go_wp2_with fail
  refine (primInvert_any ⟨pH, some ⟨g1, 0, none⟩, 1, 1, some ⟨g1 + 1, 0, none⟩, 2, 2⟩ w6 H6.out.prim).mono ?_
  rintro e w7 ⟨u, v, rfl, hpr⟩
  obtain ⟨A1, c1, hv1, hc1, hr1⟩ := hpr.old.row
  obtain ⟨A2, c2, hv2, hc2, hr2⟩ := hpr.new.row
  subst hv1 hv2
  have H7 := Lib.hid (H6.out.on hpr.later)
  have HP7 : Hid (PrOk w7 ⟨invertP pH, A1, 2, c1, A2, 1, c2⟩) := pI_ok hr1 hr2 hc1 hc2
  clear hpr hr1 hr2 hc1 hc2 y0 y1 y2 y3 y4 y5
  go_wp2_with fail
  refine (apply_any ⟨invertP pH, A1, 2, c1, A2, 1, c2⟩ p B 1 3 uZ w7 H7.out.tree HP7.out sizedZ (by omega) (by simp)).mono ?_
  rw [qx4]
  rintro e w8 ⟨rfl, ht8, hg8⟩
  have H8 := Lib.hid (H7.out.next ht8 hg8 hB); clear ht8 hg8
  go_wp2_with fail
  refine (apply_any (bareC 3 qA qB) p B 1 3 uA w8 H8.out.tree (bare_ok w8 3 (by decide) (by decide)) sizedA (by omega) (by simp [bareC])).mono ?_
  rw [qx5]
  rintro e w9 ⟨rfl, ht9, hg9⟩
  have H9 := Lib.hid (H8.out.next ht9 hg9 hB); clear ht9 hg9
  go_wp2_with fail
  refine (primNames_any (bareC 3 qB qA) w9).mono ?_
  rw [qx6]
  rintro e w10 ⟨An, cn, rfl, hcn, hrn, hl10⟩
  have H10 := Lib.hid (H9.out.on hl10)
  have HR10 := Lib.hid hrn
  clear hrn hl10
  go_wp2_with fail
  obtain ⟨bn, on, rfl, gn⟩ := HR10.out.get (k := 0) (by simp)
  simp only [List.getD_cons_zero, qA, Nat.add_zero] at gn
  have s0 := And.intro HR10.out.head H10.out.cells
  clear gn
  have HT1 : Hid (∀ w1, Later w10 w1 → Calls Tryz.prog 16 #[.pointer (some ⟨p, 0, none⟩)] w1 fun e w' => e = .returned (.string ⟨#[98, 32, 50, 10, 120, 10, 121, 10]⟩) ∧ Later w1 w') := fun w1 hl => by
    have := treeText_any p B uB w1 (H10.out.tree.later hl) (HTB.out.later (H10.out.later.trans hl)) (by simp [uB]) qt4 (sized_some sizedB (by omega))
    rw [qt2] at this
    exact this
  have HA1 : Hid (∀ w1, Stand w w1 p B uB ⟨pH, some ⟨g1, 0, none⟩, 1, 1, some ⟨g1 + 1, 0, none⟩, 2, 2⟩ (g1 + 1 + 1) → Calls Tryz.prog 10 #[.pointer (some ⟨p, 0, none⟩), .agg #[.int .i64 0, .string ⟨#[97]⟩, .string ⟨#[]⟩, .int .i64 1, .slice (some ⟨g1, 0, none⟩) 1 1, .slice (some ⟨g1 + 1, 0, none⟩) 2 2]] w1 (Does (uB, 31) p B w1)) := fun w1 h => by
    have := apply_any ⟨pH, some ⟨g1, 0, none⟩, 1, 1, some ⟨g1 + 1, 0, none⟩, 2, 2⟩ p B 1 3 uB w1 h.tree h.prim sizedB (by omega) (by simp)
    rw [qx7] at this
    exact this
  have HA2 : Hid (∀ w1, Stand w w1 p B uB ⟨pH, some ⟨g1, 0, none⟩, 1, 1, some ⟨g1 + 1, 0, none⟩, 2, 2⟩ (g1 + 1 + 1) → Calls Tryz.prog 10 #[.pointer (some ⟨p, 0, none⟩), .agg #[.int .i64 0, .string ⟨#[]⟩, .string ⟨#[]⟩, .int .i64 0, .slice none 0 0, .slice none 0 0]] w1 (Does (uB, 30) p B w1)) := fun w1 h => by
    have := apply_any (bareC 0 ByteArray.empty ByteArray.empty) p B 1 3 uB w1 h.tree (bare_ok w1 0 (by decide) (by decide)) sizedB (by omega) (by simp [bareC])
    rw [qx8] at this
    exact this
  have HC1 := Lib.hid (fun w1 (h : Stand w w1 p B uB ⟨pH, some ⟨g1, 0, none⟩, 1, 1, some ⟨g1 + 1, 0, none⟩, 2, 2⟩ (g1 + 1 + 1)) => primClone_any ⟨pH, some ⟨g1, 0, none⟩, 1, 1, some ⟨g1 + 1, 0, none⟩, 2, 2⟩ w1 h.prim)
  have HR1 : Hid (∀ w1, Stand w w1 p B uB ⟨pH, some ⟨g1, 0, none⟩, 1, 1, some ⟨g1 + 1, 0, none⟩, 2, 2⟩ (g1 + 1 + 1) → Calls Tryz.prog 20 #[.agg #[.int .i64 0, .string ⟨#[97]⟩, .string ⟨#[]⟩, .int .i64 1, .slice (some ⟨g1, 0, none⟩) 1 1, .slice (some ⟨g1 + 1, 0, none⟩) 2 2]] w1 (Says true w1)) := fun w1 h => by
    have := primRight_any ⟨pH, some ⟨g1, 0, none⟩, 1, 1, some ⟨g1 + 1, 0, none⟩, 2, 2⟩ w1 h.prim
    rw [qx9] at this
    exact this
  clear HP7 H2 H3 H4 H5 H6 H7 H8 H9 HTB
  go_region_held3 (fun w' => w'.cell? ⟨bn, on, none⟩ = some (.string ⟨#[97]⟩) ∧ w'.cell? ⟨g1 + 1 + 1, 0, none⟩ = some (.int .i64 0) ∧ w'.cell? ⟨g1 + 1 + 1, 1, none⟩ = some (.string ⟨#[97]⟩) ∧ w'.cell? ⟨g1 + 1 + 1, 2, none⟩ = some (.string ByteArray.empty) ∧ w'.cell? ⟨g1 + 1 + 1, 3, none⟩ = some (.int .i64 1) ∧ w'.cell? ⟨g1 + 1 + 1, 4, none⟩ = some (.slice (some ⟨g1, 0, none⟩) 1 1) ∧ w'.cell? ⟨g1 + 1 + 1, 5, none⟩ = some (.slice (some ⟨g1 + 1, 0, none⟩) 2 2))
    (first | exact s16 | exact s15 | exact s14 | exact s13 | exact s12 | exact s11 | exact s0)
    (first
      | (go_at_call 16; refine (HT1.out _ (by first | exact Later.refl _ | exact (Later.refl _).drew | exact (Later.refl _).drewN _)).mono ?_; rintro e w11 ⟨rfl, hl11⟩; have HL11 : Hid (Later w10 w11) := Later.trans (by first | exact Later.refl _ | exact (Later.refl _).drew | exact (Later.refl _).drewN _) hl11; have H11 := Lib.hid (H10.out.on HL11.out); have R11 := Lib.hid (HR10.out.later HL11.out); have s11 := And.intro R11.out.head H11.out.cells; clear hl11)
      | (go_at_call 10; have hq12 := H12; clear hq12; refine (HA2.out _ (H12.out.on (by first | exact Later.refl _ | exact (Later.refl _).drew | exact (Later.refl _).drewN _))).mono ?_; rintro e w13 ⟨rfl, ht13, hg13⟩; have H13 := Lib.hid ((H12.out.on (by first | exact Later.refl _ | exact (Later.refl _).drew | exact (Later.refl _).drewN _)).next ht13 hg13 hB); have R13 := Lib.hid ((H12.out.on (by first | exact Later.refl _ | exact (Later.refl _).drew | exact (Later.refl _).drewN _)).row hg13 (R12.out.later (by first | exact Later.refl _ | exact (Later.refl _).drew | exact (Later.refl _).drewN _))); have s13 := And.intro R13.out.head H13.out.cells; clear ht13 hg13)
      | (go_at_call 10; refine (HA1.out _ (H11.out.on (by first | exact Later.refl _ | exact (Later.refl _).drew | exact (Later.refl _).drewN _))).mono ?_; rintro e w12 ⟨rfl, ht12, hg12⟩; have H12 := Lib.hid ((H11.out.on (by first | exact Later.refl _ | exact (Later.refl _).drew | exact (Later.refl _).drewN _)).next ht12 hg12 hB); have R12 := Lib.hid ((H11.out.on (by first | exact Later.refl _ | exact (Later.refl _).drew | exact (Later.refl _).drewN _)).row hg12 (R11.out.later (by first | exact Later.refl _ | exact (Later.refl _).drew | exact (Later.refl _).drewN _))); have s12 := And.intro R12.out.head H12.out.cells; clear ht12 hg12)
      | (go_at_call 19; refine (HC1.out _ (H13.out.on (by first | exact Later.refl _ | exact (Later.refl _).drew | exact (Later.refl _).drewN _))).mono ?_; rintro e w14 ⟨u14, v14, rfl, hpr14⟩; have HL14 : Hid (Later w13 w14) := Later.trans (by first | exact Later.refl _ | exact (Later.refl _).drew | exact (Later.refl _).drewN _) hpr14.later; have H14 := Lib.hid (H13.out.on HL14.out); have R14 := Lib.hid (R13.out.later HL14.out); have s14 := And.intro R14.out.head H14.out.cells; obtain ⟨A3, c3, hv3, hc3, hr3⟩ := hpr14.old.row; obtain ⟨A4, c4, hv4, hc4, hr4⟩ := hpr14.new.row; subst hv3 hv4; have P14 := Lib.hid (pH_ok hr3 hr4 hc3 hc4); clear hpr14 hr3 hr4)
      | (go_at_call 18; refine (primSame_any ⟨pH, some ⟨g1, 0, none⟩, 1, 1, some ⟨g1 + 1, 0, none⟩, 2, 2⟩ ⟨pH, A3, 1, c3, A4, 2, c4⟩ _ (H14.out.prim.later (by first | exact Later.refl _ | exact (Later.refl _).drew | exact (Later.refl _).drewN _)) (P14.out.later (by first | exact Later.refl _ | exact (Later.refl _).drew | exact (Later.refl _).drewN _))).mono ?_; rw [sameP_self]; rintro e w15 ⟨rfl, hl15⟩; have HL15 : Hid (Later w14 w15) := Later.trans (by first | exact Later.refl _ | exact (Later.refl _).drew | exact (Later.refl _).drewN _) hl15; have H15 := Lib.hid (H14.out.on HL15.out); have R15 := Lib.hid (R14.out.later HL15.out); have s15 := And.intro R15.out.head H15.out.cells; clear hl15)
      | (go_at_call 20; refine (HR1.out _ (H15.out.on (by first | exact Later.refl _ | exact (Later.refl _).drew | exact (Later.refl _).drewN _))).mono ?_; rintro e w16 ⟨rfl, hl16⟩; have HL16 : Hid (Later w15 w16) := Later.trans (by first | exact Later.refl _ | exact (Later.refl _).drew | exact (Later.refl _).drewN _) hl16; have H16 := Lib.hid (H15.out.on HL16.out); have R16 := Lib.hid (R15.out.later HL16.out); have s16 := And.intro R16.out.head H16.out.cells; clear hl16))
  go_wp2
  go_ret
  exact ⟨rfl, H16.out.later⟩

end Go.Proofs.YtboffgmaohcpfaaGreatDoor

/-
  Prims as values, and what calls on them tell.
-/
namespace Go.Proofs.YtboffgmaohcpfaaGreatDoor
open Go.RowKit Go.Maps

/-- The value is this prim, and its rows stand there. -/
def PrimAt (w : World) (v : Value) (p : Pr) : Prop := ∃ x : PrC, v = prV x ∧ x.v = p ∧ PrOk w x
theorem PrimAt.later {w w' : World} {v : Value} {p : Pr} (h : PrimAt w v p) (hl : Later w w') : PrimAt w' v p := by
  obtain ⟨x, e1, e2, e3⟩ := h; exact ⟨x, e1, e2, e3.later hl⟩
theorem PrOk.at {w : World} {x : PrC} (h : PrOk w x) : PrimAt w (prV x) x.v := ⟨x, rfl, rfl, h⟩
def GivesP (p : Pr) (w : World) (e : Ending) (w' : World) : Prop := ∃ v, e = .returned v ∧ PrimAt w' v p ∧ Later w w'

/-- Nothing of the prim is too great. -/
structure Mild (p : Pr) : Prop where
  omost : p.old.length ≤ 65536
  nmost : p.new.length ≤ 65536
  name : p.name.size ≤ maxLen
  to : p.to.size ≤ maxLen
  lo : -9223372036854775808 ≤ p.place
  hi : p.place ≤ 9223372036854775807
  olds : ∀ s ∈ p.old, s.size ≤ maxLen
  news : ∀ s ∈ p.new, s.size ≤ maxLen
theorem PrOk.mild {w : World} {x : PrC} (h : PrOk w x) : Mild x.v := ⟨by rw [h.old.len]; exact h.omost, by rw [h.new.len]; exact h.nmost, h.name, h.to, h.lo, h.hi, h.olds, h.news⟩
theorem Mild.invert {p : Pr} (h : Mild p) : Mild (invertP p) := by
  unfold invertP
  split
  · exact ⟨h.nmost, h.omost, h.name, h.to, h.lo, h.hi, h.news, h.olds⟩
  split
  · exact ⟨h.omost, h.nmost, h.name, h.to, h.lo, h.hi, h.olds, h.news⟩
  split
  · exact ⟨h.omost, h.nmost, h.name, h.to, h.lo, h.hi, h.olds, h.news⟩
  split
  · exact ⟨h.omost, h.nmost, h.to, h.name, h.lo, h.hi, h.olds, h.news⟩
  · exact h
theorem IsPr.at {p : Pr} {w w' : World} {u v : Value} (h : IsPr p w w' u v) (hm : Mild p) : PrimAt w' (.agg #[.int .i64 p.kind, .string p.name, .string p.to, .int .i64 p.place, u, v]) p := by
  obtain ⟨x, e1, e2, e3⟩ := h.ok hm.omost hm.nmost hm.name hm.to hm.lo hm.hi hm.olds hm.news
  exact ⟨x, e2, e1, e3⟩
theorem GivesPr.at {p : Pr} {w w' : World} {e : Ending} (h : GivesPr p w e w') (hm : Mild p) : GivesP p w e w' := by
  obtain ⟨u, v, rfl, hp⟩ := h
  exact ⟨_, rfl, hp.at hm, hp.later⟩

section
variable {w : World} {v u : Value} {p q : Pr}
theorem right_v (h : PrimAt w v p) : Calls Tryz.prog 20 #[v] w (Says (rightP p) w) := by
  obtain ⟨x, rfl, rfl, hx⟩ := h; exact primRight_any x w hx
theorem same_v (h : PrimAt w v p) (k : PrimAt w u q) : Calls Tryz.prog 18 #[v, u] w (Says (sameP p q) w) := by
  obtain ⟨x, rfl, rfl, hx⟩ := h; obtain ⟨y, rfl, rfl, hy⟩ := k; exact primSame_any x y w hx hy
theorem invert_v (h : PrimAt w v p) : Calls Tryz.prog 13 #[v] w (GivesP (invertP p) w) := by
  obtain ⟨x, rfl, rfl, hx⟩ := h; exact (primInvert_any x w hx).mono fun e w' he => GivesPr.at he hx.mild.invert
theorem clone_v (h : PrimAt w v p) : Calls Tryz.prog 19 #[v] w (GivesP p w) := by
  obtain ⟨x, rfl, rfl, hx⟩ := h; exact (primClone_any x w hx).mono fun e w' he => GivesPr.at he hx.mild
end

/-- A row of one prim, or of two, written out. -/
theorem prims_one {w w0 : World} {x : PrC} (hx : CameP w x) (hl : Later w w0) (t : TypeId) : Prims (w0.alloc (.cells #[.int .i64 x.v.kind, .string x.v.name, .string x.v.to, .int .i64 x.v.place, .slice x.A x.n x.c, .slice x.B x.m x.d] t)) (some ⟨w0.heap.size, 0, none⟩) 1 [x] :=
  ⟨RowK.one w0 (prL x) t, fun y hy => by simp at hy; subst hy; exact hx.later (hl.alloc _)⟩
theorem weightPs_one (x : PrC) : weightPs [x] = weightP x.v := by simp [weightPs]

end Go.Proofs.YtboffgmaohcpfaaGreatDoor
