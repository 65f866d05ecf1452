import Derived.Test.YtbhnbkcokhfopaaPk12
import Derived.Test.YtbhnbkcokhfopaaPk18
import Derived.Test.YtbhnbkcokhfopaaPk9

/-
  Operations of a region that draws its order, over the document's rows of pairs and of prims: an index, a field, a load, a cut, a prim that is built, a slice of one, append.
-/
namespace Go.Proofs.Ytbhnbkcokhfopaa
open Go.RowKit Go.Maps

theorem Try.rprimInfo6 : (Try.prog.info? 75).map (fun i => (i.zero, i.size, i.bytes)) = some (some (.agg #[.int .i64 0, .string ByteArray.empty, .string ByteArray.empty, .int .i64 0, .slice none 0 0, .slice none 0 0]), 6, 96) := by kernel_rfl
/-- Where a row begins that is cut out of another one. -/
def cutA (A : Option Addr) (c f : Nat) : Option Addr := if c = f then A else A.map (·.add f)
theorem Row.cutA {w : World} {A : Option Addr} {n c f t : Nat} {l : List ByteArray} (h : Row w A n l) (hft : f ≤ t) (ht : t ≤ n) (hc : n ≤ c) : Row w (cutA A c f) (t - f) (gapL l f t) := by
  have := h.piece (f := f) (t := t) (m := c) hft ht (by omega)
  rw [Nat.mul_one] at this
  exact this
section
variable {ops : Array Oper} {Q : Exit → Act → World → Prop} {K : Act → World → Prop} {i : Nat} {dst : Option Tmp} {js : List Nat} {a : Act} {w w0 : World}
theorem OpIs.indexQ {j k : Tmp} {g o n c m : Nat} (h : OpIs ops i (.indexAddr 27 (.tmp j) (.tmp k)) dst js) (hj : a.eval (.tmp j) = .slice (some ⟨g, o, none⟩) n c) (hk' : a.eval (.tmp k) = .int .i64 (m : Nat)) (hm : m < n) (hk : K (a.put dst (.pointer (some ⟨g, o + m * 2, none⟩))) w) : wpOp Try.prog ops Q i K a w :=
  h.go fun op h1 h2 => by
    have hr : (execOp a.eval op).run Try.prog w = .ok (.value (.pointer (some ⟨g, o + m * 2, none⟩))) w := by
      unfold execOp
      rw [h1]
      simp only [hj, hk']
      go_simp
    unfold Oper.wp
    rw [hr]
    show K _ _
    rw [h2]
    exact hk
theorem OpIs.fieldQ {k : Tmp} {f g o : Nat} (h : OpIs ops i (.fieldAddr 32 (.tmp k) f) dst js) (hf : f < 2) (he : a.eval (.tmp k) = .pointer (some ⟨g, o, none⟩)) (hk : K (a.put dst (.pointer (some ⟨g, o + f, none⟩))) w) : wpOp Try.prog ops Q i K a w :=
  h.go fun op h1 h2 => by
    have hr : (execOp a.eval op).run Try.prog w = .ok (.value (.pointer (some ⟨g, o + f, none⟩))) w := by
      unfold execOp
      rw [h1]
      simp only [he]
      rcases (by omega : f = 0 ∨ f = 1) with rfl | rfl <;> go_simp
    unfold Oper.wp
    rw [hr]
    show K _ _
    rw [h2]
    exact hk
theorem OpIs.loadI {k : Tmp} {g o : Nat} {x : Int} (h : OpIs ops i (.load 3 (.tmp k)) dst js) (he : a.eval (.tmp k) = .pointer (some ⟨g, o, none⟩)) (hc : w.cell? ⟨g, o, none⟩ = some (.int .i64 x)) (hk : K (a.put dst (.int .i64 x)) w) : wpOp Try.prog ops Q i K a w :=
  h.go fun op h1 h2 => by
    have hr : (execOp a.eval op).run Try.prog w = .ok (.value (.int .i64 x)) w := by
      unfold execOp
      rw [h1]
      simp only [he]
      go_simp
    unfold Oper.wp
    rw [hr]
    show K _ _
    rw [h2]
    exact hk
/-- A row cut out of another one. -/
theorem OpIs.cutL {j k m : Tmp} {A : Option Addr} {n c f t : Nat} (h : OpIs ops i (.slice 22 (.tmp j) (some (.tmp k)) (some (.tmp m)) none) dst js) (hj : a.eval (.tmp j) = .slice A n c) (hk' : a.eval (.tmp k) = .int .i64 (f : Nat)) (hm : a.eval (.tmp m) = .int .i64 (t : Nat)) (hft : f ≤ t) (htn : t ≤ n) (hc : n ≤ c)
    (hk : K (a.put dst (.slice (cutA A c f) (t - f) (c - f))) w) : wpOp Try.prog ops Q i K a w :=
  h.go fun op h1 h2 => by
    have hr : (execOp a.eval op).run Try.prog w = .ok (.value (.slice (cutA A c f) (t - f) (c - f))) w := by
      unfold execOp cutA
      rw [h1]
      simp only [Option.map_some, hj, hk', hm]
      go_simp
      exact fun h => absurd h (by omega)
    unfold Oper.wp
    rw [hr]
    show K _ _
    rw [h2]
    exact hk
theorem OpIs.buildH {j k l m : Tmp} {nm : ByteArray} {z : Int} {A B : Option Addr} {n c p d : Nat} (h : OpIs ops i (.build 75 #[(1, .tmp j), (3, .tmp k), (4, .tmp l), (5, .tmp m)]) dst js) (hj : a.eval (.tmp j) = .string nm) (hk' : a.eval (.tmp k) = .int .i64 z) (hl : a.eval (.tmp l) = .slice A n c) (hm : a.eval (.tmp m) = .slice B p d)
    (hk : K (a.put dst (.agg #[.int .i64 0, .string nm, .string ByteArray.empty, .int .i64 z, .slice A n c, .slice B p d])) w) : wpOp Try.prog ops Q i K a w :=
  h.go fun op h1 h2 => by
    have hr : (execOp a.eval op).run Try.prog w = .ok (.value (.agg #[.int .i64 0, .string nm, .string ByteArray.empty, .int .i64 z, .slice A n c, .slice B p d])) w := by
      unfold execOp
      rw [h1]
      simp only [hj, hk', hl, hm, List.map_toArray, List.map_cons, List.map_nil]
      go_simp
      rfl
    unfold Oper.wp
    rw [hr]
    show K _ _
    rw [h2]
    exact hk
theorem OpIs.build1R {k : Tmp} {x : PrC} (h : OpIs ops i (.buildSlice 36 1 #[(0, .tmp k)]) dst js) (hv : a.eval (.tmp k) = prV x) (hk : K (a.put dst (.slice (some ⟨w.heap.size, 0, none⟩) 1 1)) (w.alloc (.cells (prL x).toArray 75))) : wpOp Try.prog ops Q i K a w :=
  h.go fun o h1 h2 => by
    have hr : (execOp a.eval o).run Try.prog w = .ok (.value (.slice (some ⟨w.heap.size, 0, none⟩) 1 1)) (w.alloc (.cells (prL x).toArray 75)) := by
      unfold prV at hv
      unfold execOp
      rw [h1]
      simp only [hv, List.map_toArray, List.map_cons, List.map_nil]
      go_simp
      rfl
    unfold Oper.wp
    rw [hr]
    show K _ _
    rw [h2]
    exact hk
theorem OpIs.appendR {j k : Tmp} {v : Value} {xs ys : List PrC} {A : Option Addr} {m c : Nat} (h : OpIs ops i (.call { callee := .builtin .append, args := #[.tmp j, .tmp k], argTypes := #[36, 36] }) dst js) (hj : a.eval (.tmp j) = v) (hv : a.eval (.tmp k) = .slice A m c)
    (hown : OwnPs 75 w0 w v xs) (hr : RowK 6 w A m (ys.map prL)) (hok : ∀ y ∈ ys, PrOk w y) (haw : ∀ y ∈ ys, ∀ g, v.ownBlock = some g → Away g y) (hb : xs.length + m ≤ 1000000)
    (hk : ∀ v' w', OwnPs 75 w0 w' v' (xs ++ ys) → w.grownBy w' v.ownBlock → K (a.put dst v') w') : wpOp Try.prog ops Q i K a w :=
  h.go fun o h1 h2 => by
    obtain ⟨i0, hi, hz0, hz1, hz2⟩ := info_parts Try.rprimInfo6
    obtain ⟨v', w', hrun, ho, hg⟩ := run_append_ps (P := Try.prog) 36 o.type i0 _ 96 Try.underlying36 hi hz0 hz1 hz2 rfl hown A m c ys hr hok haw hb (by omega)
    unfold Oper.wp execOp
    simp only [h1, resolve, invoke, builtin, Sem.run_bind, Sem.run_pure, Result.andThen_ok, List.map_toArray, List.map_cons, List.map_nil, hj, hv, hrun]
    show K _ _
    rw [h2]
    exact hk v' w' ho hg
end

end Go.Proofs.Ytbhnbkcokhfopaa
