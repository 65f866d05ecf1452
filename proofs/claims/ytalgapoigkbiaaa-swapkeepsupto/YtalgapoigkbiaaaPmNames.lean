/-
  What prim's Names comes to, as a call.
-/
import Derived.Test.YtalgapoigkbiaaaPrMem
import Derived.Test.YtalgapoigkbiaaaTrNames
import Derived.Sort.OwnSorted
import Derived.Deep.LoopGhost
import Derived.Deep.QuietTactic
import Derived.BigQuiet
import Derived.Lib.Hide
namespace Go.Proofs.Ytalgapoigkbiaaa
open Go.RowKit Go.Maps Go.Sort

theorem Row.lit2 (w : World) (o : Obj) (ss : List ByteArray) (t : TypeId) : Row ((w.alloc o).alloc (.cells (ss.map Value.string).toArray t)) (some ⟨w.heap.size + 1, 0, .none⟩) ss.length ss := by
  have := Row.lit (w.alloc o) ss t
  rw [show (w.alloc o).heap.size = w.heap.size + 1 from by simp] at this
  exact this
theorem enc_bytes (s : ByteArray) : encStr (bytes s) = .string s := by
  show Value.string (txt (bytes s)) = _
  rw [txt_bytes]

theorem sorted_two (a b : ByteArray) : ([bytes a, bytes b]).mergeSort (fun x y => decide (x ≤ y)) = (if ltN a b = true then [a, b] else [b, a]).map bytes := by
  by_cases h : ltN a b = true
  · rw [if_pos h]
    refine List.mergeSort_of_pairwise (List.pairwise_cons.2 ⟨fun y hy => ?_, List.pairwise_singleton _ _⟩)
    simp at hy
    subst hy
    simp only [decide_eq_true_eq]
    exact List.le_of_lt ((before_lt _ _).1 h)
  · rw [if_neg h]
    have e : ([bytes a, bytes b]).mergeSort leB = ([bytes b, bytes a]).mergeSort leB := mergeSort_of_perm (List.Perm.swap _ _ _)
    rw [show (fun x y : List UInt8 => decide (x ≤ y)) = leB from rfl, e]
    refine List.mergeSort_of_pairwise (List.pairwise_cons.2 ⟨fun y hy => ?_, List.pairwise_singleton _ _⟩)
    simp at hy
    subst hy
    simp only [leB, decide_eq_true_eq]
    exact List.not_lt.1 fun hl => h ((before_lt _ _).2 hl)

theorem namesP_move (nm to : ByteArray) (pl : Int) (old new : List ByteArray) : namesP ⟨3, nm, to, pl, old, new⟩ = if ltN nm to = true then [nm, to] else [to, nm] := by simp [namesP]
theorem namesP_one (k : Int) (nm to : ByteArray) (pl : Int) (old new : List ByteArray) (h : k ≠ 3) : namesP ⟨k, nm, to, pl, old, new⟩ = [nm] := by simp [namesP, h]

set_option maxRecDepth 100000 in
set_option maxHeartbeats 800000 in
theorem primNames_any (x : PrC) (w : World) : Calls Try.prog 68 #[prV x] w (GivesRow (namesP x.v) w) := by
  obtain ⟨⟨kd, nm, to, pl, old, new⟩, A, n, c, B, m, d⟩ := x
  unfold prV
  dsimp only
  by_cases h3 : kd = 3
  · subst h3
    have hb : ((w.alloc (.cells #[.int .i64 3, .string nm, .string to, .int .i64 pl, .slice A n c, .slice B m d] 27)).alloc (.cells #[.string nm, .string to] 9)).heap[w.heap.size + 1]? = some (.cells #[.string nm, .string to] 9 (0, 0)) := heap_alloc2_new w _ _
    have hh := holds_of_block (ss := [bytes nm, bytes to]) hb (by simp [enc_bytes])
    have hs := AnyM.slices_Sort_string Try.laysSort (w.heap.size + 1) 0 2 [bytes nm, bytes to] _ hh (by simp) (by simp)
    rw [sorted_two] at hs
    have hl : Later w ((w.alloc (.cells #[.int .i64 3, .string nm, .string to, .int .i64 pl, .slice A n c, .slice B m d] 27)).alloc (.cells #[.string nm, .string to] 9)) := ((Later.refl w).alloc _).alloc _
    rw [namesP_move]
    have hlen : (if ltN nm to = true then [nm, to] else [to, nm]).length = 2 := by split <;> rfl
    generalize (if ltN nm to = true then [nm, to] else [to, nm]) = l at hs hlen ⊢
    have HS := Lib.hid hs; have HB := Lib.hid hb; have HL := Lib.hid hl; have HN := Lib.hid hlen
    clear hs hb hh hl hlen
    go_enter Try.func68, Try.ntmps68
    go_wp2_with (go_at_call 80; refine HS.out.mono ?_; rintro e w1 ⟨rfl, k1, os1, rfl⟩)
    go_ret
    have h1 := ownsRow_sorted (n := k1) (os := os1) (base := w.heap.size) (g := w.heap.size + 1) (cap := 2) (ss := [bytes nm, bytes to]) (ts := l.map bytes) (by simp [HN.out]) (by omega) HB.out (by simp) (by decide) rfl
    have h2 : (l.map bytes).map encStr = l.map Value.string := by
      rw [List.map_map]
      exact List.map_congr_left fun s _ => enc_bytes s
    rw [h2] at h1
    have hl2 := HL.out.turn (B := w.heap.size + 1) (grownBy_sorted (n := k1) (os := os1) (l.map bytes).toArray) (by omega)
    have h3 : Own 9 w _ (.slice (some ⟨w.heap.size + 1, 0, none⟩) 2 2) l := ⟨by rw [HN.out]; exact h1, hl2⟩
    obtain ⟨A9, c9, hv9, hc9, hr9⟩ := h3.row
    exact ⟨A9, c9, by rw [← hv9]; rfl, hc9, hr9, hl2⟩
  · rw [namesP_one kd nm to pl old new h3]
    go_enter Try.func68, Try.ntmps68
    go_wp2
    go_ret
    exact ⟨_, _, rfl, Nat.le_refl _, Row.lit2 w _ [nm] 9, ((Later.refl w).alloc _).alloc _⟩

end Go.Proofs.Ytalgapoigkbiaaa
