import Derived.Test.YtlnjhimbgckdcaaGreatPk2
import Derived.Test.YtlnjhimbgckdcaaGreatPk5
import Derived.Sort.OwnSorted
import Derived.Deep.LoopGhost
import Derived.Deep.QuietTactic
import Derived.BigQuiet
import Derived.Lib.Hide
import Derived.Test.YtlnjhimbgckdcaaGreatPk4
import Derived.Test.YtlnjhimbgckdcaaGreatPk3
import Derived.Deep.MidRow
import Derived.RangeFuncNested
import Derived.TacticsIn
import Derived.OrdersIn
import Derived.RegionTactic
import Derived.Deep.Cut

/-
  What prim's Names comes to, as a call.
-/
namespace Go.Proofs.YtlnjhimbgckdcaaGreat
open Go.RowKit Go.Maps Go.Sort

theorem Row.lit2 (w : World) (o : Obj) (ss : List ByteArray) (t : TypeId) : Row ((w.alloc o).alloc (.cells (ss.map Value.string).toArray t)) (some ⟨w.heap.size + 1, 0, .none⟩) ss.length ss := by
  have := Row.lit (w.alloc o) ss t
  rw [show (w.alloc o).heap.size = w.heap.size + 1 from by simp] at this
  exact this
theorem enc_bytes (s : ByteArray) : encStr (bytes s) = .string s := by
  show Value.string (txt (bytes s)) = _
  rw [txt_bytes]

theorem sorted_two (a b : ByteArray) : ([bytes a, bytes b]).mergeSort (fun x y => decide (x <= y)) = (if ltN a b = true then [a, b] else [b, a]).map bytes := by
  by_cases h : ltN a b = true
  · rw [if_pos h]
    refine List.mergeSort_of_pairwise (List.pairwise_cons.2 ⟨fun y hy => ?_, List.pairwise_singleton _ _⟩)
    simp at hy
    subst hy
    simp only [decide_eq_true_eq]
    exact List.le_of_lt ((before_lt _ _).1 h)
  · rw [if_neg h]
    have e : ([bytes a, bytes b]).mergeSort leB = ([bytes b, bytes a]).mergeSort leB := mergeSort_of_perm (List.Perm.swap _ _ _)
    rw [show (fun x y : List UInt8 => decide (x <= y)) = leB from rfl, e]
    refine List.mergeSort_of_pairwise (List.pairwise_cons.2 ⟨fun y hy => ?_, List.pairwise_singleton _ _⟩)
    simp at hy
    subst hy
    simp only [leB, decide_eq_true_eq]
    exact List.not_lt.1 fun hl => h ((before_lt _ _).2 hl)

theorem namesP_move (nm to : ByteArray) (pl : Int) (old new : List ByteArray) : namesP ⟨3, nm, to, pl, old, new⟩ = if ltN nm to = true then [nm, to] else [to, nm] := by simp [namesP]
theorem namesP_one (k : Int) (nm to : ByteArray) (pl : Int) (old new : List ByteArray) (h : k ≠ 3) : namesP ⟨k, nm, to, pl, old, new⟩ = [nm] := by simp [namesP, h]

set_option maxRecDepth 100000 in
set_option maxHeartbeats 800000 in
theorem primNames_any (x : PrC) (w : World) : Calls Tryz.prog 93 #[prV x] w (GivesRow (namesP x.v) w) := by
  obtain ⟨⟨kd, nm, to, pl, old, new⟩, A, n, c, B, m, d⟩ := x
  unfold prV
  dsimp only
  by_cases h3 : kd = 3
  · subst h3
    have hb : ((w.alloc (.cells #[.int .i64 3, .string nm, .string to, .int .i64 pl, .slice A n c, .slice B m d] 58)).alloc (.cells #[.string nm, .string to] 9)).heap[w.heap.size + 1]? = some (.cells #[.string nm, .string to] 9 (0, 0)) := heap_alloc2_new w _ _
    have hh := holds_of_block (ss := [bytes nm, bytes to]) hb (by simp [enc_bytes])
    have hs := AnyM.slices_Sort_string Tryz.laysSort (w.heap.size + 1) 0 2 [bytes nm, bytes to] _ hh (by simp) (by simp)
    rw [sorted_two] at hs
    have hl : Later w ((w.alloc (.cells #[.int .i64 3, .string nm, .string to, .int .i64 pl, .slice A n c, .slice B m d] 58)).alloc (.cells #[.string nm, .string to] 9)) := ((Later.refl w).alloc _).alloc _
    rw [namesP_move]
    have hlen : (if ltN nm to = true then [nm, to] else [to, nm]).length = 2 := by split <;> rfl
    generalize (if ltN nm to = true then [nm, to] else [to, nm]) = l at hs hlen ⊢
    have HS := Lib.hid hs; have HB := Lib.hid hb; have HL := Lib.hid hl; have HN := Lib.hid hlen
    clear hs hb hh hl hlen
    go_enter Tryz.func93, Tryz.ntmps93
    go_wp2_with (go_at_call 99; refine HS.out.mono ?_; rintro e w1 ⟨rfl, k1, os1, rfl⟩)
    go_ret
    have h1 := ownsRow_sorted (n := k1) (os := os1) (base := w.heap.size) (g := w.heap.size + 1) (cap := 2) (ss := [bytes nm, bytes to]) (ts := l.map bytes) (by simp [HN.out]) (by omega) HB.out (by simp) (by decide) rfl
    have h2 : (l.map bytes).map encStr = l.map Value.string := by
      rw [List.map_map]
      exact List.map_congr_left fun s _ => enc_bytes s
    rw [h2] at h1
    have hl2 := HL.out.turn (B := w.heap.size + 1) (grownBy_sorted (n := k1) (os := os1) (l.map bytes).toArray) (by omega)
    have h3 : Own 9 w _ (.slice (some ⟨w.heap.size + 1, 0, none⟩) 2 2) l := ⟨by rw [HN.out]; exact h1, hl2⟩
    obtain ⟨A9, c9, hv9, hc9, hr9⟩ := h3.row
    exact ⟨A9, c9, by rw [← hv9]; rfl, hc9, hr9, hl2⟩
  · rw [namesP_one kd nm to pl old new h3]
    go_enter Tryz.func93, Tryz.ntmps93
    go_wp2
    go_ret
    exact ⟨_, _, rfl, Nat.le_refl _, Row.lit2 w _ [nm] 9, ((Later.refl w).alloc _).alloc _⟩

end Go.Proofs.YtlnjhimbgckdcaaGreat

/-
  What the document's Names comes to, as a call.
-/
namespace Go.Proofs.YtlnjhimbgckdcaaGreat
open Go.RowKit Go.Maps

set_option maxRecDepth 100000 in
set_option maxHeartbeats 800000 in
theorem refNamesP_any (x : PrC) (w : World) : Calls Tryz.prog 87 #[prV x] w (GivesRow (namesP x.v) w) := by
  obtain ⟨⟨kd, nm, to, pl, old, new⟩, A, n, c, B, m, d⟩ := x
  unfold prV
  dsimp only
  by_cases h3 : kd = 3
  · subst h3
    rw [namesP_move]
    have hlt := less_is nm to
    by_cases h : ltN nm to = true
    · rw [if_pos h]
      rw [h] at hlt
      go_enter Tryz.func87, Tryz.ntmps87
      go_wp2
      go_ret
      exact ⟨_, _, rfl, Nat.le_refl _, Row.lit2 w _ [nm, to] 9, ((Later.refl w).alloc _).alloc _⟩
    · rw [if_neg h]
      rw [Bool.eq_false_iff.2 h] at hlt
      go_enter Tryz.func87, Tryz.ntmps87
      go_wp2
      go_ret
      exact ⟨_, _, rfl, Nat.le_refl _, Row.lit2 w _ [to, nm] 9, ((Later.refl w).alloc _).alloc _⟩
  · rw [namesP_one kd nm to pl old new h3]
    go_enter Tryz.func87, Tryz.ntmps87
    go_wp2
    go_ret
    exact ⟨_, _, rfl, Nat.le_refl _, Row.lit2 w _ [nm] 9, ((Later.refl w).alloc _).alloc _⟩

end Go.Proofs.YtlnjhimbgckdcaaGreat

/-
  Prims as values, and what the document's calls on them tell (but Invert).
-/
namespace Go.Proofs.YtlnjhimbgckdcaaGreat
open Go.RowKit Go.Maps

def GivesL (l : List ByteArray) (w : World) (e : Ending) (w' : World) : Prop := ∃ v, e = .returned v /\ Reads w' v l /\ Later w w'
theorem GivesRow.l {l : List ByteArray} {w w' : World} {e : Ending} (h : GivesRow l w e w') : GivesL l w e w' := by
  obtain ⟨A, c, rfl, hc, hr, hl⟩ := h
  exact ⟨_, rfl, ⟨A, _, c, rfl, hc, hr⟩, hl⟩

section
variable {w : World} {v u : Value} {p q : Pr}
theorem refRight_v (h : PrimAt w v p) : Calls Tryz.prog 54 #[v] w (Says (rightP p) w) := by
  obtain ⟨x, rfl, rfl, hx⟩ := h; exact refRightP_any x w hx
theorem namesP_length (p : Pr) : (namesP p).length <= 65536 := by
  unfold namesP
  split
  · simp
  · split <;> simp
end

end Go.Proofs.YtlnjhimbgckdcaaGreat

/-
  What slices.Index, Contains, IndexFunc and ContainsFunc come to, as calls, over rows of texts.
-/
namespace Go.Proofs.YtlnjhimbgckdcaaGreat
open Go.RowKit Go.Maps

theorem mem_getD {l : List ByteArray} {k : Nat} (h : k < l.length) : l.getD k ByteArray.empty ∈ l := by
  simp only [List.getD, List.getElem?_eq_getElem h, Option.getD_some]
  exact List.getElem_mem h
theorem not_mem_of {l : List ByteArray} {p : ByteArray -> Prop} (h : ∀ j : Nat, j < l.length -> ¬ p (l.getD j ByteArray.empty)) : ¬ ∃ s ∈ l, p s := by
  rintro ⟨s, hs, hp⟩
  obtain ⟨j, hj, rfl⟩ := List.getElem_of_mem hs
  refine h j hj ?_
  simpa only [List.getD, List.getElem?_eq_getElem hj, Option.getD_some] using hp

def FindsAt (Q : Prop) (w : World) (e : Ending) (w' : World) : Prop := (∃ k : Int, e = .returned (.int .i64 k) /\ (0 <= k ↔ Q)) /\ w = w'

set_option maxHeartbeats 400000 in
theorem index_any (A : Option Addr) (n c : Nat) (l : List ByteArray) (s : ByteArray) (w : World) (hx : Row w A n l) (hn : n <= 65536) (Q : Prop) (hQ : Q ↔ ∃ x ∈ l, s = x) :
    Calls Tryz.prog 101 #[.slice A n c, .string s] w (FindsAt Q w) := by
  have HX := Lib.hid hx; have HQ := Lib.hid hQ; clear hx hQ
  go_enter Tryz.func101, Tryz.ntmps101
  go_wp2
  go_loop [5, 8] (fun _ i => ∃ k : Nat, k <= n /\ i = .int .i64 k /\ Hid (∀ j : Nat, j < k -> ¬ s = (l.getD j ByteArray.empty))) (fun _ i => n - (intOf i).toNat)
  case atStart => exact ⟨0, Nat.zero_le _, rfl, fun j hj => absurd hj (Nat.not_lt_zero _)⟩
  case round =>
    obtain ⟨k, hk, rfl, hall⟩ := hrel
    by_cases hlt : k < n
    · obtain ⟨b1, o1, rfl, g1⟩ := HX.out.get hlt
      have hkl : k < l.length := by rw [HX.out.len]; exact hlt
      have HM := Lib.hid (mem_getD hkl)
      generalize hy : l.getD k ByteArray.empty = y at g1 HM
      have HY := Lib.hid hy
      clear hkl hy
      by_cases he : s = y
      · subst he
        clear hall HY
        go_wp2
        go_ret
        exact ⟨⟨k, rfl, fun _ => HQ.out.2 ⟨s, HM.out, rfl⟩, fun _ => by omega⟩, rfl⟩
      · have t1 := text_ne he
        have HA : Hid (∀ j : Nat, j < k + 1 -> ¬ s = (l.getD j ByteArray.empty)) := fun j hj => by
          by_cases e : j = k
          · rw [e, HY.out]; exact he
          · exact hall.out j (by omega)
        clear hall HY HM
        go_wp2
        exact ⟨⟨k + 1, by omega, by go_num, HA⟩, by simp [intOf]; omega⟩
    · have E : Hid (¬ ∃ x ∈ l, s = x) := not_mem_of fun j hj => hall.out j (by rw [HX.out.len] at hj; omega)
      clear hall
      go_wp2
      go_ret
      exact ⟨⟨-1, rfl, fun h => absurd h (by omega), fun h => absurd (HQ.out.1 h) E.out⟩, rfl⟩

theorem contains_any (A : Option Addr) (n c : Nat) (l : List ByteArray) (s : ByteArray) (w : World) (hx : Row w A n l) (hn : n <= 65536) (b : Bool) (hb : b = true ↔ ∃ x ∈ l, s = x) :
    Calls Tryz.prog 96 #[.slice A n c, .string s] w fun e w' => e = .returned (.bool b) /\ w = w' := by
  have HI := Lib.hid (index_any A n c l s w hx hn (b = true) hb)
  clear hx hb
  go_enter Tryz.func96, Tryz.ntmps96
  go_wp2_with fail
  refine HI.out.mono ?_
  rintro e w' ⟨⟨k, rfl, hk⟩, rfl⟩
  have e1 : decide (0 <= k) = b := by
    rw [Bool.eq_iff_iff, decide_eq_true_eq, hk]
  have E1 := Lib.hid e1
  clear e1 hk HI
  go_wp2
  go_ret
  refine ⟨?_, rfl⟩
  first | exact ret_bool E1.out | (rw [← E1.out]; rfl) | (rw [← E1.out]; simp)

set_option maxHeartbeats 400000 in
theorem meetFn_any (B : Option Addr) (m d : Nat) (r : List ByteArray) (b : Nat) (s : ByteArray) (w : World) (hb : w.cell? ⟨b, 0, none⟩ = some (.slice B m d)) (hy : Row w B m r) (hm : m <= 65536) :
    Calls Tryz.prog 95 #[.string s, .pointer (some ⟨b, 0, none⟩)] w fun e w' => e = .returned (.bool (r.any fun x => decide (s = x))) /\ w = w' := by
  have HC := Lib.hid (contains_any B m d r s w hy hm (r.any fun x => decide (s = x)) (by simp only [List.any_eq_true, decide_eq_true_eq]))
  clear hy
  generalize (r.any fun x => decide (s = x)) = t at HC ⊢
  go_enter Tryz.func95, Tryz.ntmps95
  go_wp2_with fail
  refine HC.out.mono ?_
  rintro e w' ⟨rfl, rfl⟩
  go_wp2
  go_ret
  exact ⟨rfl, rfl⟩

set_option maxHeartbeats 400000 in
theorem indexFunc_any (A : Option Addr) (n c : Nat) (l : List ByteArray) (B : Option Addr) (m d : Nat) (r : List ByteArray) (b : Nat) (w : World) (hx : Row w A n l) (hn : n <= 65536) (hb : w.cell? ⟨b, 0, none⟩ = some (.slice B m d)) (hy : Row w B m r) (hm : m <= 65536) (Q : Prop) (hQ : Q ↔ ∃ x ∈ l, (r.any fun y => decide (x = y)) = true) :
    Calls Tryz.prog 100 #[.slice A n c, .func (.func 95) #[] #[.pointer (some ⟨b, 0, none⟩)]] w (FindsAt Q w) := by
  have HX := Lib.hid hx
  have HF := Lib.hid (fun s => meetFn_any B m d r b s w hb hy hm)
  have eg : ∀ (args : Array Value) (w : World), (callFunc 95 args).run Tryz.prog w = .ok (.enter 95 args) w := enters_of Tryz.func95 (by kernel_rfl) rfl
  have HQ := Lib.hid hQ
  clear hx hb hy hQ
  go_enter Tryz.func100, Tryz.ntmps100
  go_wp2
  go_loop [5, 8] (fun _ i => ∃ k : Nat, k <= n /\ i = .int .i64 k /\ Hid (∀ j : Nat, j < k -> ¬ (r.any fun y => decide ((l.getD j ByteArray.empty) = y)) = true)) (fun _ i => n - (intOf i).toNat)
  case atStart => exact ⟨0, Nat.zero_le _, rfl, fun j hj => absurd hj (Nat.not_lt_zero _)⟩
  case round =>
    obtain ⟨k, hk, rfl, hall⟩ := hrel
    by_cases hlt : k < n
    · obtain ⟨b1, o1, rfl, g1⟩ := HX.out.get hlt
      have hkl : k < l.length := by rw [HX.out.len]; exact hlt
      have HM := Lib.hid (mem_getD hkl)
      generalize hy : l.getD k ByteArray.empty = y at g1 HM
      have HY := Lib.hid hy
      clear hkl hy
      have hf := HF.out y
      cases he : (r.any fun z => decide (y = z))
      · rw [he] at hf
        have HFy := Lib.hid hf
        have HA : Hid (∀ j : Nat, j < k + 1 -> ¬ (r.any fun y => decide ((l.getD j ByteArray.empty) = y)) = true) := fun j hj => by
          by_cases e : j = k
          · rw [e, HY.out, he]; exact Bool.false_ne_true
          · exact hall.out j (by omega)
        clear hall HY HM he hf
        go_wp2_with (go_at_fn 95; refine HFy.out.mono ?_; rintro e w' ⟨rfl, rfl⟩)
        exact ⟨⟨k + 1, by omega, by go_num, HA⟩, by simp [intOf]; omega⟩
      · rw [he] at hf
        have HFy := Lib.hid hf
        have HE := Lib.hid he
        clear hall HY he hf
        go_wp2_with (go_at_fn 95; refine HFy.out.mono ?_; rintro e w' ⟨rfl, rfl⟩)
        go_ret
        exact ⟨⟨k, rfl, fun _ => HQ.out.2 ⟨y, HM.out, HE.out⟩, fun _ => by omega⟩, rfl⟩
    · have E : Hid (¬ ∃ x ∈ l, (r.any fun y => decide (x = y)) = true) := not_mem_of (p := fun x => (r.any fun y => decide (x = y)) = true) fun j hj => hall.out j (by rw [HX.out.len] at hj; omega)
      clear hall
      go_wp2
      go_ret
      exact ⟨⟨-1, rfl, fun h => absurd h (by omega), fun h => absurd (HQ.out.1 h) E.out⟩, rfl⟩

theorem containsFunc_any (A : Option Addr) (n c : Nat) (l : List ByteArray) (B : Option Addr) (m d : Nat) (r : List ByteArray) (b : Nat) (w : World) (hx : Row w A n l) (hn : n <= 65536) (hb : w.cell? ⟨b, 0, none⟩ = some (.slice B m d)) (hy : Row w B m r) (hm : m <= 65536) :
    Calls Tryz.prog 94 #[.slice A n c, .func (.func 95) #[] #[.pointer (some ⟨b, 0, none⟩)]] w fun e w' => e = .returned (.bool (l.any fun x => r.any fun y => decide (x = y))) /\ w = w' := by
  have HI := Lib.hid (indexFunc_any A n c l B m d r b w hx hn hb hy hm ((l.any fun x => r.any fun y => decide (x = y)) = true) (by rw [List.any_eq_true]))
  clear hx hb hy
  go_enter Tryz.func94, Tryz.ntmps94
  go_wp2_with fail
  refine HI.out.mono ?_
  rintro e w' ⟨⟨k, rfl, hk⟩, rfl⟩
  have e1 : decide (0 <= k) = (l.any fun x => r.any fun y => decide (x = y)) := by
    rw [Bool.eq_iff_iff, decide_eq_true_eq, hk]
  have E1 := Lib.hid e1
  clear e1 hk HI
  go_wp2
  go_ret
  refine ⟨?_, rfl⟩
  first | exact ret_bool E1.out | (rw [← E1.out]; rfl) | (rw [← E1.out]; simp)

end Go.Proofs.YtlnjhimbgckdcaaGreat

/-
  What swap's meet comes to, as a call.
-/
namespace Go.Proofs.YtlnjhimbgckdcaaGreat
open Go.RowKit Go.Maps

theorem two_boxes (w : World) (a b : Array Value) (t : TypeId) : BoxAt ((w.alloc (.cells a t)).alloc (.cells b t)) w.heap.size a t /\ BoxAt ((w.alloc (.cells a t)).alloc (.cells b t)) (w.heap.size + 1) b t /\ Later w ((w.alloc (.cells a t)).alloc (.cells b t)) := by
  refine ⟨(BoxAt.made w a t).alloc _, ?_, ((Later.refl w).alloc _).alloc _⟩
  have := BoxAt.made (w.alloc (.cells a t)) b t
  simpa using this
theorem BoxAt.all {w : World} {g : Nat} {x : PrC} {t : TypeId} (h : BoxAt w g (prL x).toArray t) : w.cell? ⟨g, 0, none⟩ = some (.int .i64 x.v.kind) /\ w.cell? ⟨g, 1, none⟩ = some (.string x.v.name) /\ w.cell? ⟨g, 2, none⟩ = some (.string x.v.to) /\ w.cell? ⟨g, 3, none⟩ = some (.int .i64 x.v.place) /\ w.cell? ⟨g, 4, none⟩ = some (.slice x.A x.n x.c) /\ w.cell? ⟨g, 5, none⟩ = some (.slice x.B x.m x.d) :=
  ⟨h.cell rfl, h.cell rfl, h.cell rfl, h.cell rfl, h.cell rfl, h.cell rfl⟩

set_option maxRecDepth 100000 in
set_option maxHeartbeats 800000 in
theorem meet_any (x y : PrC) (w : World) : Calls Tryz.prog 86 #[prV x, prV y] w (Says (commonP x.v y.v) w) := by
  obtain ⟨b0, b1, hl⟩ := two_boxes w (prL x).toArray (prL y).toArray 58
  have HN := Lib.hid (fun w' => primNames_any y w')
  have HM := Lib.hid (fun w' => primNames_any x w')
  have hn1 := namesP_length x.v
  have hn2 := namesP_length y.v
  have HE : Hid (commonP x.v y.v = (namesP x.v).any fun a => (namesP y.v).any fun b => decide (a = b)) := rfl
  generalize commonP x.v y.v = cm at HE ⊢
  generalize namesP x.v = l at HM hn1 HE
  generalize namesP y.v = r at HN hn2 HE
  have HB0 := Lib.hid b0; have HL := Lib.hid hl
  clear b0 b1 hl
  unfold prV at HN HM ⊢
  go_enter Tryz.func86, Tryz.ntmps86
  go_wp2_with fail
  refine (HN.out _).mono ?_
  rintro e w1 ⟨A1, c1, rfl, hc1, hr1, hl1⟩
  have b2 := (HB0.out.later hl1).alloc (.cells #[.slice A1 r.length c1] 56)
  obtain ⟨q0, q1, q2, q3, q4, q5⟩ := b2.all
  have hb : Hid ((w1.alloc (.cells #[.slice A1 r.length c1] 56)).cell? ⟨w1.heap.size, 0, none⟩ = some (.slice A1 r.length c1)) := by simp [Hid]
  have HR1 := Lib.hid (hr1.later ((Later.refl w1).alloc (.cells #[.slice A1 r.length c1] 56)))
  have HL1 := Lib.hid ((HL.out.trans hl1).alloc (.cells #[.slice A1 r.length c1] 56))
  clear hr1 hl1 b2
  go_wp2_with fail
  refine (HM.out _).mono ?_
  rintro e w2 ⟨A2, c2, rfl, hc2, hr2, hl2⟩
  have HCF := Lib.hid (containsFunc_any A2 l.length c2 l A1 r.length c1 r w1.heap.size w2 hr2 hn1 (hl2.cell hb.out) (HR1.out.later hl2) hn2)
  rw [← HE.out] at HCF
  have HL2 := Lib.hid (HL1.out.trans hl2)
  clear hr2 hl2 q0 q1 q2 q3 q4 q5
  go_wp2_with fail
  refine HCF.out.mono ?_
  rintro e w3 ⟨rfl, rfl⟩
  go_wp2
  go_ret
  exact ⟨rfl, HL2.out⟩

end Go.Proofs.YtlnjhimbgckdcaaGreat

/-
  A prim that is written into a row of prims.
-/
namespace Go.Proofs.YtlnjhimbgckdcaaGreat
open Go.RowKit Go.Maps

theorem flat_set (v0 v1 v2 v3 v4 v5 : Value) : ∀ {css : List (List Value)}, (∀ cs ∈ css, cs.length = 6) -> ∀ {i : Nat}, i < css.length -> ((((((css.flatten.set (i * 6) v0).set (i * 6 + 1) v1).set (i * 6 + 2) v2).set (i * 6 + 3) v3).set (i * 6 + 4) v4).set (i * 6 + 5) v5) = (css.set i [v0, v1, v2, v3, v4, v5]).flatten
  | [], _, _, h => absurd h (Nat.not_lt_zero _)
  | c :: css, hk, i, hi => by
    match c, hk c List.mem_cons_self with
    | [a0, a1, a2, a3, a4, a5], _ =>
      cases i with
      | zero => simp
      | succ i =>
        have ih := flat_set v0 v1 v2 v3 v4 v5 (css := css) (fun cs h => hk cs (List.mem_cons_of_mem _ h)) (i := i) (by simpa using hi)
        rw [List.set_cons_succ, List.flatten_cons, List.flatten_cons, ← ih]
        simp only [show (i + 1) * 6 = i * 6 + 6 by omega, show i * 6 + 6 + 1 = i * 6 + 1 + 6 by omega, show i * 6 + 6 + 2 = i * 6 + 2 + 6 by omega, show i * 6 + 6 + 3 = i * 6 + 3 + 6 by omega, show i * 6 + 6 + 4 = i * 6 + 4 + 6 by omega, show i * 6 + 6 + 5 = i * 6 + 5 + 6 by omega]
        rfl
theorem turned_sets (w : World) (g o i : Nat) (v0 v1 v2 v3 v4 v5 : Value) : Turned g w ((((((w.setCell ⟨g, o + i * 6, none⟩ v0).setCell ⟨g, o + i * 6 + 1, none⟩ v1).setCell ⟨g, o + i * 6 + 2, none⟩ v2).setCell ⟨g, o + i * 6 + 3, none⟩ v3).setCell ⟨g, o + i * 6 + 4, none⟩ v4).setCell ⟨g, o + i * 6 + 5, none⟩ v5) :=
  (((((turned_set w g _ v0).trans (turned_set _ g _ v1)).trans (turned_set _ g _ v2)).trans (turned_set _ g _ v3)).trans (turned_set _ g _ v4)).trans (turned_set _ g _ v5)

section
variable {e : TypeId} {w0 w w' : World} {A : Option Addr} {n c g o : Nat} {xs : List PrC}
theorem OwnPs.ps (h : OwnPs e w0 w (.slice A n c) xs) : PsOk w A n xs := by
  obtain ⟨A', c', hv, _, hr⟩ := h.row
  cases hv
  exact hr
theorem OwnPs.size (h : OwnPs e w0 w (.slice A n c) xs) : xs.length = n := h.ps.len
theorem OwnPs.at (h : OwnPs e w0 w (.slice (some ⟨g, o, none⟩) n c) xs) : o = 0 /\ ∃ cur, w.heap[g]? = some (.cells cur e (0, 0)) /\ cur.size = c * 6 /\ n <= c /\ c <= maxLen /\ cur.toList.take (n * 6) = (xs.map prL).flatten := by
  have hs := h.size
  rcases h.own.1.2 with ⟨hv, _⟩ | ⟨g', cap, cur, hv, _, hh, hnc, hm, hc, ht⟩
  · cases hv
  · simp only [List.length_map] at hv hnc ht
    rw [hs] at hv hnc ht
    cases hv
    exact ⟨rfl, cur, hh, hc, hnc, hm, ht⟩
theorem OwnPs.frozen (h : OwnPs e w0 w (.slice (some ⟨g, o, none⟩) n c) xs) (i : Nat) : w.frozen? ⟨g, i, none⟩ = false := by
  obtain ⟨_, cur, hh, _⟩ := h.at
  exact frozen_no hh i
theorem OwnPs.set (h : OwnPs e w0 w (.slice (some ⟨g, o, none⟩) n c) xs) {i : Nat} (hi : i < n) (x : PrC) (hx : PrOk w x) (ha : Away g x) :
    OwnPs e w0 ((((((w.setCell ⟨g, o + i * 6, none⟩ (.int .i64 x.v.kind)).setCell ⟨g, o + i * 6 + 1, none⟩ (.string x.v.name)).setCell ⟨g, o + i * 6 + 2, none⟩ (.string x.v.to)).setCell ⟨g, o + i * 6 + 3, none⟩ (.int .i64 x.v.place)).setCell ⟨g, o + i * 6 + 4, none⟩ (.slice x.A x.n x.c)).setCell ⟨g, o + i * 6 + 5, none⟩ (.slice x.B x.m x.d)) (.slice (some ⟨g, o, none⟩) n c) (xs.set i x) := by
  have hsz := h.size
  obtain ⟨rfl, cur, hh, hcs, hnc, hm, ht⟩ := h.at
  have hb := h.block g rfl
  have htn := turned_sets w g 0 i (.int .i64 x.v.kind) (.string x.v.name) (.string x.v.to) (.int .i64 x.v.place) (.slice x.A x.n x.c) (.slice x.B x.m x.d)
  have hl := h.later.turn htn hb
  have hbox := (((((BoxAt.set (show BoxAt w g cur e from hh) (0 + i * 6) (.int .i64 x.v.kind)).set (0 + i * 6 + 1) (.string x.v.name)).set (0 + i * 6 + 2) (.string x.v.to)).set (0 + i * 6 + 3) (.int .i64 x.v.place)).set (0 + i * 6 + 4) (.slice x.A x.n x.c)).set (0 + i * 6 + 5) (.slice x.B x.m x.d)
  have hlen : (xs.map prL).length = n := by simp [hsz]
  refine ⟨⟨⟨?_, .inr ⟨g, c, _, ?_, hb, hbox, ?_, hm, ?_, ?_⟩⟩, ?_, hl⟩, ?_, ?_⟩
  · rw [flat_length (k := 6) (by intro cs hcs; obtain ⟨y, _, rfl⟩ := List.mem_map.1 hcs; rfl)]
  · simp [hsz]
  · simp [hsz]; exact hnc
  · simpa using hcs
  · simp only [List.length_map, List.length_set, Array.toList_setIfInBounds, List.take_set, hsz, ht, Nat.zero_add]
    rw [flat_set _ _ _ _ _ _ (by intro cs hcs; obtain ⟨y, _, rfl⟩ := List.mem_map.1 hcs; rfl) (by simp [hsz]; exact hi), List.map_set]
    rfl
  · intro cs hcs
    obtain ⟨y, _, rfl⟩ := List.mem_map.1 hcs
    rfl
  · intro y hy
    have h1 : PrOk w y /\ Away g y := by
      rcases List.mem_or_eq_of_mem_set hy with h2 | rfl
      · exact ⟨h.ok y h2, h.away y h2 g rfl⟩
      · exact ⟨hx, ha⟩
    exact h1.1.off htn h1.2
  · intro y hy g' hg'
    cases hg'
    rcases List.mem_or_eq_of_mem_set hy with h2 | rfl
    · exact h.away y h2 _ rfl
    · exact ha
end

theorem grown_later {w w' : World} (h : Later w w') (r : Option Nat) : w.grownBy w' r := ⟨h.os, h.tape, h.output, h.size, fun i hi _ => h.block i hi⟩
theorem grown_trans {w w' w'' : World} {r : Option Nat} (h : w.grownBy w' r) (k : w'.grownBy w'' r) : w.grownBy w'' r :=
  ⟨k.os.trans h.os, k.tape.trans h.tape, k.output.trans h.output, Nat.le_trans h.size k.size, fun i hi hne => (k.block i (Nat.lt_of_lt_of_le hi h.size) hne).trans (h.block i hi hne)⟩
theorem Later.grown {w0 w w' : World} {v : Value} (h : Later w0 w) (hg : w.grownBy w' v.ownBlock) (hb : ∀ b, v.ownBlock = some b -> w0.heap.size <= b) : Later w0 w' := Below.grown h hg h.size hb
theorem results_one {P : Program} {fn : Func} {p u : Tmp} {ty : TypeId} (h : fn.results = #[.cell p ty, .tmp u]) (tmps : Array Value) (w : World) (g : Nat) (t : TypeId) (cs : Array Value) (fr : Nat × Nat) (d : TypeDesc) (v : Value)
    (hp : tmps.getD p undef = .pointer (some ⟨g, 0, none⟩)) (hv : tmps.getD u undef = v) (hg : w.heap[g]? = some (.cells cs t fr))
    (hu : P.underlying ty = some d) (hd : (match d with | .struct _ | .array _ _ => true | _ => false) = true) (hi : (P.info? ty).map (·.size) = some cs.size) :
    (results fn tmps).run P w = .ok (.tuple #[.agg cs, v]) w := by
  have hp' : tmps[p]?.getD undef = .pointer (some ⟨g, 0, none⟩) := by simpa using hp
  have hv' : tmps[u]?.getD undef = v := by simpa using hv
  simp [results, h, hp', hv', asAddr, run_loadVar_row w g t ty cs fr d hg hu hd hi]

end Go.Proofs.YtlnjhimbgckdcaaGreat

/-
  Stores of prims, as laws of the walk: into a block, into a row.
-/
namespace Go.Proofs.YtlnjhimbgckdcaaGreat
open Go.RowKit Go.Maps

theorem prV_is (x : PrC) : prV x = .agg (prL x).toArray := rfl
theorem prL_one (x : PrC) : (prL x).toArray.all (·.oneCell') = true := by simp [prL, Value.oneCell']
theorem grown_new {w w1 w2 : World} {r : Option Nat} {g : Nat} (h : w.grownBy w1 r) (k : Turned g w1 w2) (hg : w.heap.size <= g) : w.grownBy w2 r :=
  ⟨k.os.trans h.os, k.tape.trans h.tape, k.output.trans h.output, Nat.le_trans h.size k.size, fun i hi hne => (k.block i (Nat.lt_of_lt_of_le hi h.size) (by simp; omega)).trans (h.block i hi hne)⟩
section
variable {ops : Array Oper} {rest : List Oper} {op : Oper} {a : Act} {w w0 : World} {Q : Exit -> Act -> World -> Prop}
theorem put_none (a : Act) (v : Value) : a.put none v = a := rfl
theorem wpList_store_box (hgd : op.guard = none) (hd : op.dst = none) (T : TypeId) (j k : Tmp) (ho : op.op = .store T (.tmp j) (.tmp k)) (hi : (Tryz.prog.info? T).map (·.size) = some 6) (g : Nat) (x : PrC) (hj : a.eval (.tmp j) = .pointer (some ⟨g, 0, none⟩)) (hv : a.eval (.tmp k) = prV x)
    {cs : Array Value} {t : TypeId} (hb : BoxAt w g cs t) (hs : cs.size = 6) (h : ∀ w', BoxAt w' g (prL x).toArray t -> Turned g w w' -> wpList Tryz.prog ops Q rest a w') : wpList Tryz.prog ops Q (op :: rest) a w := by
  refine wpList_store_row hgd T (.tmp j) (.tmp k) ho g (prL x).toArray hj (hv.trans (prV_is x)) t cs hb hi hs (prL_one x) ?_
  rw [hd, put_none]
  refine h _ ?_ ?_
  · exact setRow_heap w g cs _ t _ hb
  · exact ⟨rfl, rfl, rfl, by simp, fun i hi hne => setRow_other w g i _ (fun e => hne (by rw [e]))⟩
theorem wpList_store_ps (hgd : op.guard = none) (hd : op.dst = none) (T : TypeId) (j k : Tmp) (ho : op.op = .store T (.tmp j) (.tmp k)) (hi : (Tryz.prog.info? T).map (·.size) = some 6) {e : TypeId} {g o n c i : Nat} {xs : List PrC} (x : PrC) (hj : a.eval (.tmp j) = .pointer (some ⟨g, o + i * 6, none⟩)) (hv : a.eval (.tmp k) = prV x)
    (hown : OwnPs e w0 w (.slice (some ⟨g, o, none⟩) n c) xs) (hin : i < n) (hx : PrOk w x) (ha : Away g x) (h : ∀ w', OwnPs e w0 w' (.slice (some ⟨g, o, none⟩) n c) (xs.set i x) -> Turned g w w' -> wpList Tryz.prog ops Q rest a w') : wpList Tryz.prog ops Q (op :: rest) a w := by
  obtain ⟨b', o', q, hA, hz, hok, g0, g1, g2, g3, g4, g5⟩ := hown.ps.get hin
  cases hA
  have hth : w.there g (o + i * 6) 6 := by
    intro r hr
    refine ⟨?_, hown.frozen _⟩
    match r, hr with
    | 0, _ => rw [Nat.add_zero, g0]; rfl
    | 1, _ => rw [g1]; rfl
    | 2, _ => rw [g2]; rfl
    | 3, _ => rw [g3]; rfl
    | 4, _ => rw [g4]; rfl
    | 5, _ => rw [g5]; rfl
  refine wpList_store_mid hgd T (.tmp j) (.tmp k) ho g (o + i * 6) (prL x).toArray hj (hv.trans (prV_is x)) hth hi (prL_one x) ?_
  rw [hd, put_none]
  exact h _ (hown.set hin x hx ha) (turned_sets w g o i _ _ _ _ _ _)
end

end Go.Proofs.YtlnjhimbgckdcaaGreat

/-
  What the statements' own New and Old come to, as calls: rows of prims, as the program has them, and as the document has them.
-/
namespace Go.Proofs.YtlnjhimbgckdcaaGreat
open Go.RowKit Go.Maps

theorem Tryz.primInfo : (Tryz.prog.info? 58).map (fun i => (i.zero, i.size, i.bytes)) = some (some (.agg #[.int .i64 0, .string ByteArray.empty, .string ByteArray.empty, .int .i64 0, .slice none 0 0, .slice none 0 0]), 6, 96) := by kernel_rfl
theorem Tryz.rprimInfo : (Tryz.prog.info? 89).map (fun i => (i.zero, i.size, i.bytes)) = some (some (.agg #[.int .i64 0, .string ByteArray.empty, .string ByteArray.empty, .int .i64 0, .slice none 0 0, .slice none 0 0]), 6, 96) := by kernel_rfl

end Go.Proofs.YtlnjhimbgckdcaaGreat

/-
  More operations of a region that draws its order: rows of prims, boxes of one cell, indices.
-/
namespace Go.Proofs.YtlnjhimbgckdcaaGreat
open Go.RowKit Go.Maps

section
variable {ops : Array Oper} {Q : Exit -> Act -> World -> Prop} {K : Act -> World -> Prop} {i : Nat} {dst : Option Tmp} {js : List Nat} {a : Act} {w w0 : World}
theorem OpIs.loadS {k : Tmp} {g : Nat} {v : Value} {t : TypeId} (h : OpIs ops i (.load 28 (.tmp k)) dst js) (he : a.eval (.tmp k) = .pointer (some ⟨g, 0, none⟩)) (hb : BoxAt w g #[v] t) (hk : K (a.put dst v) w) : wpOp Tryz.prog ops Q i K a w :=
  h.go fun o h1 h2 => by
    have hc := hb.cell (i := 0) rfl
    have hr : (execOp a.eval o).run Tryz.prog w = .ok (.value v) w := by
      clear hb hk
      unfold execOp
      rw [h1]
      dsimp only
      rw [he]
      go_simp
    unfold Oper.wp
    rw [hr]
    show K _ _
    rw [h2]
    exact hk
theorem OpIs.storeS {j k : Tmp} {g : Nat} {A : Option Addr} {n c : Nat} {u : Value} {t : TypeId} (h : OpIs ops i (.store 28 (.tmp j) (.tmp k)) none js) (hj : a.eval (.tmp j) = .pointer (some ⟨g, 0, none⟩)) (hv : a.eval (.tmp k) = .slice A n c) (hb : BoxAt w g #[u] t)
    (hk : ∀ w', BoxAt w' g #[.slice A n c] t -> Turned g w w' -> K a w') : wpOp Tryz.prog ops Q i K a w :=
  h.go fun o h1 h2 => by
    have hc := hb.cell (i := 0) rfl
    have hf := hb.frozen 0
    have hb' := hb.set 0 (.slice A n c)
    have ht := turned_set w g 0 (.slice A n c)
    have hr : (execOp a.eval o).run Tryz.prog w = .ok .skip (w.setCell ⟨g, 0, none⟩ (.slice A n c)) := by
      clear hb hb' ht hk
      unfold execOp
      rw [h1]
      dsimp only
      rw [hj, hv]
      go_simp
    unfold Oper.wp
    rw [hr]
    show K _ _
    rw [h2]
    exact hk _ hb' ht
theorem OpIs.storeB {j k : Tmp} {g : Nat} {b : Bool} {u : Value} {t : TypeId} (h : OpIs ops i (.store 4 (.tmp j) (.tmp k)) none js) (hj : a.eval (.tmp j) = .pointer (some ⟨g, 0, none⟩)) (hv : a.eval (.tmp k) = .bool b) (hb : BoxAt w g #[u] t)
    (hk : ∀ w', BoxAt w' g #[.bool b] t -> Turned g w w' -> K a w') : wpOp Tryz.prog ops Q i K a w :=
  h.go fun o h1 h2 => by
    have hc := hb.cell (i := 0) rfl
    have hf := hb.frozen 0
    have hb' := hb.set 0 (.bool b)
    have ht := turned_set w g 0 (.bool b)
    have hr : (execOp a.eval o).run Tryz.prog w = .ok .skip (w.setCell ⟨g, 0, none⟩ (.bool b)) := by
      clear hb hb' ht hk
      unfold execOp
      rw [h1]
      dsimp only
      rw [hj, hv]
      go_simp
    unfold Oper.wp
    rw [hr]
    show K _ _
    rw [h2]
    exact hk _ hb' ht
theorem OpIs.append {j k : Tmp} {v : Value} {xs ys : List PrC} {A : Option Addr} {m c : Nat} (h : OpIs ops i (.call { callee := .builtin .append, args := #[.tmp j, .tmp k], argTypes := #[28, 28] }) dst js) (hj : a.eval (.tmp j) = v) (hv : a.eval (.tmp k) = .slice A m c)
    (hown : OwnPs 58 w0 w v xs) (hr : RowK 6 w A m (ys.map prL)) (hok : ∀ y ∈ ys, PrOk w y) (haw : ∀ y ∈ ys, ∀ g, v.ownBlock = some g -> Away g y) (hb : xs.length + m <= 1000000)
    (hk : ∀ v' w', OwnPs 58 w0 w' v' (xs ++ ys) -> w.grownBy w' v.ownBlock -> K (a.put dst v') w') : wpOp Tryz.prog ops Q i K a w :=
  h.go fun o h1 h2 => by
    obtain ⟨i0, hi, hz0, hz1, hz2⟩ := info_parts Tryz.primInfo
    obtain ⟨v', w', hrun, ho, hg⟩ := run_append_ps (P := Tryz.prog) 28 o.type i0 _ 96 Tryz.underlying28 hi hz0 hz1 hz2 rfl hown A m c ys hr hok haw hb (by omega)
    unfold Oper.wp execOp
    simp only [h1, resolve, invoke, builtin, Sem.run_bind, Sem.run_pure, Result.andThen_ok, List.map_toArray, List.map_cons, List.map_nil, hj, hv, hrun]
    show K _ _
    rw [h2]
    exact hk v' w' ho hg
end

end Go.Proofs.YtlnjhimbgckdcaaGreat

/-
  A region that draws its order, in a round of a range over a function: what stands behind each set of its operations.
-/
namespace Go.Proofs.YtlnjhimbgckdcaaGreat
open Go.RowKit

section
variable {P : Program} {ops : Array Oper} {Q : Exit -> Act -> World -> Prop} {l n : Nat}
theorem op_in {o : Oper} {a : Act} {w : World} {K : Act -> World -> Prop} (hd : ∀ c, o.op ≠ .defer c) (h : o.wp P a w K Q) : o.wpIn (Fence.wide.inRound l) n P a w K Q := by
  refine ⟨fun _ _ => trivial, ?_⟩
  rw [show Oper.semAt (Fence.wide.inRound l).round a.eval o = execOp a.eval o from Oper.semAt_some l _ _ hd]
  unfold Oper.wp at h
  generalize (execOp a.eval o).run P w = r at *
  cases r with
  | ok x w' =>
    cases x <;> simp only [Oper.upon, Oper.uponIn] at h ⊢ <;> first
      | exact h
      | exact ⟨fun e => (by cases e), CallsIn.inRound l (callsIn_wide.2 h)⟩
      | exact ⟨fun e => (by cases e), fun c cs _ => let ⟨v, w', r, s⟩ := h c cs; ⟨v, w', r, stepsIn_wide.2 s⟩⟩
      | exact h.elim
  | halt x w' => cases x <;> simp only [Oper.upon, Oper.uponIn] at h ⊢ <;> exact h
def noDefer (ops : Array Oper) : Bool := ops.all fun o => match o.op with | .defer _ => false | _ => true
theorem noDefer_at (h : noDefer ops = true) {i : Nat} {o : Oper} (ho : ops[i]? = some o) : ∀ c, o.op ≠ .defer c := by
  intro c e
  obtain ⟨hi, rfl⟩ := Array.getElem?_eq_some_iff.1 ho
  have := Array.all_eq_true.1 h i hi
  rw [e] at this
  cases this
theorem wpOp_in {i : Nat} {K : Act -> World -> Prop} {a : Act} {w : World} (hd : noDefer ops = true) (hq : ¬ LetsOut Q) (h : wpOp P ops Q i K a w) : wpOpIn (Fence.wide.inRound l) n P ops Q i K a w := by
  unfold wpOp at h
  unfold wpOpIn
  cases ho : ops[i]? with
  | none => rw [ho] at h; exact h
  | some o =>
    rw [ho] at h
    dsimp only at h ⊢
    by_cases hw : Region.wanted o (yielded ops a.tmps) = true
    · rw [if_pos hw] at h ⊢
      rcases h with h | h
      · exact op_in (noDefer_at hd ho) h
      · exact absurd h.2 hq
    · rw [if_neg hw] at h ⊢
      exact ⟨fun _ _ => trivial, h⟩
end

theorem regionIn_inv {P : Program} {ops : Array Oper} {Q : Exit -> Act -> World -> Prop} {id l n : Nat} {a : Act} {w : World} (hm : P.follows .mixedOrders = true) (hg : goesBack ops = true) (hd : noDefer ops = true) (hq : ¬ LetsOut Q) (Inv : (Nat -> Bool) -> Act -> World -> Prop)
    (hstep : ∀ s a w i o, ops[i]? = some o -> s i = false -> (∀ e ∈ o.after, Region.binds .any e = true -> s e.on = true) -> Inv s a w -> wpOp P ops Q i (fun a' w' => Inv (more s i) a' w') a w)
    (hend : ∀ s a w, (∀ i, i < ops.size -> s i = true) -> Inv s a w -> Q .normal a w)
    (h0 : Inv (fun _ => false) a { w with drawn := w.drawn + 1 }) : (Code.region id ops true).wpIn (Fence.wide.inRound l) n P Q a w := by
  have key : ∀ fuel (L : Array Bool) a w, L.size = ops.size -> leftN (fun j => L.getD j false) ops.size <= fuel -> Inv (fun j => L.getD j false) a w -> wpAnyIn (Fence.wide.inRound l) n P .any ops Q fuel L a w := by
    intro fuel
    induction fuel with
    | zero =>
      intro L a w hs hf h
      have hall := left_zero _ _ (Nat.le_zero.1 hf)
      refine ⟨?_, hend _ _ _ hall h⟩
      cases hr : Region.ready .any ops L with
      | nil => rfl
      | cons i rs =>
        have hi := ready_parts hs (i := i) (by rw [hr]; exact List.mem_cons_self)
        have := hall i hi.1
        rw [hi.2.1] at this
        cases this
    | succ fuel ih =>
      intro L a w hs hf h
      refine ⟨fun hr => hend _ _ _ (ready_none hg hs hr) h, fun i hi => ?_⟩
      obtain ⟨h1, h2, h3⟩ := ready_parts hs hi
      refine wpOpIn_mono ?_ (wpOp_in hd hq (hstep _ a w i ops[i] (Array.getElem?_eq_getElem h1) h2 (h3 _ (Array.getElem?_eq_getElem h1)) h))
      intro a' w' h'
      refine ih _ _ _ (by simpa using hs) ?_ ?_
      · rw [getD_more (by omega)]
        have := left_more (fun j => L.getD j false) ops.size h1 h2
        omega
      · rw [getD_more (by omega)]; exact h'
  refine wpIn_region_any hm (key _ _ _ _ (by simp) ?_ ?_)
  · have : ∀ n (s : Nat -> Bool), leftN s n <= n := fun n s => by
      induction n with
      | zero => exact Nat.le_refl _
      | succ n ih => unfold leftN; split <;> omega
    exact this _ _
  · have e : (fun j => (Array.replicate ops.size false).getD j false) = fun _ => false := by
      funext j
      simp only [Array.getD]
      split <;> simp
    rw [e]
    exact h0

end Go.Proofs.YtlnjhimbgckdcaaGreat

/-
  What swap's turnHunkAndMove comes to, as a call.
-/
namespace Go.Proofs.YtlnjhimbgckdcaaGreat
open Go.RowKit Go.Maps

theorem four_boxes (w : World) (a b c d : Array Value) (t : TypeId) : BoxAt ((((w.alloc (.cells a t)).alloc (.cells b t)).alloc (.cells c t)).alloc (.cells d t)) w.heap.size a t /\ BoxAt ((((w.alloc (.cells a t)).alloc (.cells b t)).alloc (.cells c t)).alloc (.cells d t)) (w.heap.size + 1) b t ∧
    BoxAt ((((w.alloc (.cells a t)).alloc (.cells b t)).alloc (.cells c t)).alloc (.cells d t)) (w.heap.size + 1 + 1) c t /\ BoxAt ((((w.alloc (.cells a t)).alloc (.cells b t)).alloc (.cells c t)).alloc (.cells d t)) (w.heap.size + 1 + 1 + 1) d t /\ Later w ((((w.alloc (.cells a t)).alloc (.cells b t)).alloc (.cells c t)).alloc (.cells d t)) := by
  refine ⟨(((BoxAt.made w a t).alloc _).alloc _).alloc _, ?_, ?_, ?_, ((((Later.refl w).alloc _).alloc _).alloc _).alloc _⟩
  · have := ((BoxAt.made (w.alloc (.cells a t)) b t).alloc (.cells c t)).alloc (.cells d t)
    simpa using this
  · have := (BoxAt.made ((w.alloc (.cells a t)).alloc (.cells b t)) c t).alloc (.cells d t)
    simpa using this
  · have := BoxAt.made (((w.alloc (.cells a t)).alloc (.cells b t)).alloc (.cells c t)) d t
    simpa using this

set_option maxRecDepth 100000 in
set_option maxHeartbeats 800000 in
theorem turnHM_any (x y : PrC) (w : World) (hx : PrOk w x) (hy : PrOk w y) :
    Calls Tryz.prog 84 #[prV x, prV y] w (GivesW x y (turnHM x.v y.v) w) := by
  have HX := Lib.hid hx; have HY := Lib.hid hy
  clear hx hy
  obtain ⟨⟨kd, nm, to, pl, old, new⟩, A, n, c, B, m, d⟩ := x
  obtain ⟨⟨ke, nn, tt, pk, pold, pnew⟩, C, i, e, D, j, f⟩ := y
  unfold prV turnHM
  dsimp only at *
  by_cases h1 : nm = tt
  · subst h1
    rw [if_pos rfl]
    go_enter Tryz.func84, Tryz.ntmps84
    go_wp2
    obtain ⟨_, _, b2, b3, hl⟩ := four_boxes w _ _ _ _ 58
    exact bodyPost_ret (results_two rfl _ _ _ _ _ _ _ _ _ _ _ _ rfl rfl rfl b2 b3 Tryz.underlying58 rfl Tryz.primSize Tryz.primSize) rfl ⟨zeroC, zeroC, rfl, rfl, rfl, (fun _ _ _ => ⟨zeroC_ok _, zeroC_ok _⟩), hl⟩
  · rw [if_neg h1]
    by_cases h2 : nm = nn
    · subst h2
      rw [if_pos rfl]
      have t1 := text_ne h1
      go_enter Tryz.func84, Tryz.ntmps84
      go_upto_region 6 with fail
      go_region
      go_wp2
      obtain ⟨_, _, b2, b3, hl⟩ := four_boxes w _ _ _ _ 58
      exact bodyPost_ret (results_two rfl _ _ _ _ _ _ _ _ _ _ _ _ rfl rfl rfl (b2.later (Later.refl _).drew) (b3.later (Later.refl _).drew) Tryz.underlying58 rfl Tryz.primSize Tryz.primSize) rfl
        ⟨⟨⟨ke, nm, tt, pk, pold, pnew⟩, C, i, e, D, j, f⟩, inC ⟨⟨kd, nm, to, pl, old, new⟩, A, n, c, B, m, d⟩ tt, rfl, rfl, rfl, (fun _ hx9 hy9 => ⟨hy9, (inC_ok hx9 hy9.to)⟩), hl.drew⟩
    · rw [if_neg h2]
      have t1 := text_ne h1
      have t2 := text_ne h2
      go_enter Tryz.func84, Tryz.ntmps84
      go_upto_region 6 with fail
      go_region
      go_wp2
      obtain ⟨_, _, b2, b3, hl⟩ := four_boxes w _ _ _ _ 58
      exact bodyPost_ret (results_two rfl _ _ _ _ _ _ _ _ _ _ _ _ rfl rfl rfl (b2.later (Later.refl _).drew) (b3.later (Later.refl _).drew) Tryz.underlying58 rfl Tryz.primSize Tryz.primSize) rfl
        ⟨⟨⟨ke, nn, tt, pk, pold, pnew⟩, C, i, e, D, j, f⟩, ⟨⟨kd, nm, to, pl, old, new⟩, A, n, c, B, m, d⟩, rfl, rfl, rfl, (fun _ hx9 hy9 => ⟨hy9, hx9⟩), hl.drew⟩

end Go.Proofs.YtlnjhimbgckdcaaGreat

/-
  What swap's turnMoveAndHunk comes to, as a call.
-/
namespace Go.Proofs.YtlnjhimbgckdcaaGreat
open Go.RowKit Go.Maps

set_option maxRecDepth 100000 in
set_option maxHeartbeats 800000 in
theorem turnMH_any (x y : PrC) (w : World) (hx : PrOk w x) (hy : PrOk w y) :
    Calls Tryz.prog 85 #[prV x, prV y] w (GivesW x y (turnMH x.v y.v) w) := by
  have HX := Lib.hid hx; have HY := Lib.hid hy
  clear hx hy
  obtain ⟨⟨kd, nm, to, pl, old, new⟩, A, n, c, B, m, d⟩ := x
  obtain ⟨⟨ke, nn, tt, pk, pold, pnew⟩, C, i, e, D, j, f⟩ := y
  unfold prV turnMH
  dsimp only at *
  by_cases h1 : nn = nm
  · subst h1
    rw [if_pos rfl]
    go_enter Tryz.func85, Tryz.ntmps85
    go_wp2
    obtain ⟨_, _, b2, b3, hl⟩ := four_boxes w _ _ _ _ 58
    exact bodyPost_ret (results_two rfl _ _ _ _ _ _ _ _ _ _ _ _ rfl rfl rfl b2 b3 Tryz.underlying58 rfl Tryz.primSize Tryz.primSize) rfl ⟨zeroC, zeroC, rfl, rfl, rfl, (fun _ _ _ => ⟨zeroC_ok _, zeroC_ok _⟩), hl⟩
  · rw [if_neg h1]
    by_cases h2 : nn = to
    · subst h2
      rw [if_pos rfl]
      have t1 := text_ne h1
      go_enter Tryz.func85, Tryz.ntmps85
      go_upto_region 6 with fail
      go_region
      go_wp2
      obtain ⟨_, _, b2, b3, hl⟩ := four_boxes w _ _ _ _ 58
      exact bodyPost_ret (results_two rfl _ _ _ _ _ _ _ _ _ _ _ _ rfl rfl rfl (b2.later (Later.refl _).drew) (b3.later (Later.refl _).drew) Tryz.underlying58 rfl Tryz.primSize Tryz.primSize) rfl
        ⟨inC ⟨⟨ke, nn, tt, pk, pold, pnew⟩, C, i, e, D, j, f⟩ nm, ⟨⟨kd, nm, nn, pl, old, new⟩, A, n, c, B, m, d⟩, rfl, rfl, rfl, (fun _ hx9 hy9 => ⟨(inC_ok hy9 hx9.name), hx9⟩), hl.drew⟩
    · rw [if_neg h2]
      have t1 := text_ne h1
      have t2 := text_ne h2
      go_enter Tryz.func85, Tryz.ntmps85
      go_upto_region 6 with fail
      go_region
      go_wp2
      obtain ⟨_, _, b2, b3, hl⟩ := four_boxes w _ _ _ _ 58
      exact bodyPost_ret (results_two rfl _ _ _ _ _ _ _ _ _ _ _ _ rfl rfl rfl (b2.later (Later.refl _).drew) (b3.later (Later.refl _).drew) Tryz.underlying58 rfl Tryz.primSize Tryz.primSize) rfl
        ⟨⟨⟨ke, nn, tt, pk, pold, pnew⟩, C, i, e, D, j, f⟩, ⟨⟨kd, nm, to, pl, old, new⟩, A, n, c, B, m, d⟩, rfl, rfl, rfl, (fun _ hx9 hy9 => ⟨hy9, hx9⟩), hl.drew⟩

end Go.Proofs.YtlnjhimbgckdcaaGreat
