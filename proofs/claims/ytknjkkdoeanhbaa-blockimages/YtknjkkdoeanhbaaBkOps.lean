/-
  Operations of a region that draws its order: those over a device.
-/
import Derived.Test.YtknjkkdoeanhbaaRgCore
import Derived.Test.YtknjkkdoeanhbaaBkLaws
namespace Go.Proofs.Ytknjkkdoeanhbaa
open Go.RowKit

section
variable {ops : Array Oper} {Q : Exit → Act → World → Prop} {K : Act → World → Prop} {i : Nat} {dst : Option Tmp} {js : List Nat} {a : Act} {w : World}
theorem OpIs.fieldDev {k : Tmp} {f g o : Nat} (h : OpIs ops i (.fieldAddr 67 (.tmp k) f) dst js) (hf : f < 6) (he : a.eval (.tmp k) = .pointer (some ⟨g, o, none⟩)) (hk : K (a.put dst (.pointer (some ⟨g, o + f, none⟩))) w) : wpOp Try.prog ops Q i K a w :=
  h.go fun op h1 h2 => by
    have hr : (execOp a.eval op).run Try.prog w = .ok (.value (.pointer (some ⟨g, o + f, none⟩))) w := by
      clear hk
      unfold execOp
      rw [h1]
      dsimp only
      rw [he]
      have h4 : f = 0 ∨ f = 1 ∨ f = 2 ∨ f = 3 ∨ f = 4 ∨ f = 5 := by omega
      rcases h4 with rfl | rfl | rfl | rfl | rfl | rfl <;> go_simp
    unfold Oper.wp
    rw [hr]
    show K _ _
    rw [h2]
    exact hk
theorem OpIs.loadDW {k : Tmp} {g o : Nat} {u : Value} (h : OpIs ops i (.load 65 (.tmp k)) dst js) (he : a.eval (.tmp k) = .pointer (some ⟨g, o, none⟩)) (hc : w.cell? ⟨g, o, none⟩ = some u) (hk : K (a.put dst (u)) w) : wpOp Try.prog ops Q i K a w :=
  h.go fun op h1 h2 => by
    have hr : (execOp a.eval op).run Try.prog w = .ok (.value (u)) w := by
      clear hk
      unfold execOp
      rw [h1]
      dsimp only
      rw [he]
      go_simp
    unfold Oper.wp
    rw [hr]
    show K _ _
    rw [h2]
    exact hk
theorem OpIs.loadDC {k : Tmp} {g o : Nat} {u : Value} (h : OpIs ops i (.load 64 (.tmp k)) dst js) (he : a.eval (.tmp k) = .pointer (some ⟨g, o, none⟩)) (hc : w.cell? ⟨g, o, none⟩ = some u) (hk : K (a.put dst (u)) w) : wpOp Try.prog ops Q i K a w :=
  h.go fun op h1 h2 => by
    have hr : (execOp a.eval op).run Try.prog w = .ok (.value (u)) w := by
      clear hk
      unfold execOp
      rw [h1]
      dsimp only
      rw [he]
      go_simp
    unfold Oper.wp
    rw [hr]
    show K _ _
    rw [h2]
    exact hk
theorem OpIs.loadMid {ty : TypeId} {k : Tmp} {b o : Nat} {cs : List Value} {d : TypeDesc} (h : OpIs ops i (.load ty (.tmp k)) dst js) (he : a.eval (.tmp k) = .pointer (some ⟨b, o, none⟩)) (hc : w.rangeAt b o cs) (hu : Try.prog.underlying ty = some d) (hd : d.isRow = true) (hi : (Try.prog.info? ty).map (·.size) = some cs.length)
    (hk : K (a.put dst (.agg cs.toArray)) w) : wpOp Try.prog ops Q i K a w :=
  h.go fun op h1 h2 => wp_load_mid ty _ h1 b o he cs d hc hu hd hi (by rw [h2]; exact hk)
theorem run_buildOne {P : Program} (w : World) (t e : TypeId) (i : TypeInfo) (z : Value) (cs : List Value) (ht : P.underlying t = some (.slice e)) (hi : P.info? e = some i) (hz : i.zero = some z) (hs : i.size = cs.length) (hzs : z.cells.size = cs.length) (h0 : 0 < cs.length) (h1 : cs.length ≤ 16777216) :
    (Instr.buildSlice t 1 #[(0, .agg cs.toArray)]).run P w = .ok (.slice (some ⟨w.heap.size, 0, none⟩) 1 1) (w.alloc (.cells cs.toArray e)) := by
  have n1 : ¬ 2 ^ 24 < cs.length := by omega
  have n2 : ¬ cs.length = 0 := by omega
  have hf : Instr.fill (fun q => some (q * cs.length, cs.length)) ((Array.range cs.length).map (z.cells[· % cs.length]!)) [(0, .agg cs.toArray)] = some cs.toArray := by
    rw [fill_step (off := 0 * cs.length) (size := cs.length) (vs := cs) rfl rfl rfl (by simp), Instr.fill, Nat.zero_mul, set_all (by simp)]
  simp [Instr.buildSlice, run_underlying ht, sizeOf, typeInfo, hi, hs, zeroValue, hz, hzs, n1, n2, hf, newRow]
theorem OpIs.buildOne {k : Tmp} {t e : TypeId} {cs : List Value} (ti : TypeInfo) (z : Value) (h : OpIs ops i (.buildSlice t 1 #[(0, .tmp k)]) dst js) (hv : a.eval (.tmp k) = .agg cs.toArray) (ht : Try.prog.underlying t = some (.slice e)) (hi : Try.prog.info? e = some ti) (hz : ti.zero = some z) (hs : ti.size = cs.length) (hzs : z.cells.size = cs.length) (h0 : 0 < cs.length) (h1 : cs.length ≤ 16777216)
    (hk : K (a.put dst (.slice (some ⟨w.heap.size, 0, none⟩) 1 1)) (w.alloc (.cells cs.toArray e))) : wpOp Try.prog ops Q i K a w :=
  h.go fun o h3 h2 => by
    have hr : (execOp a.eval o).run Try.prog w = .ok (.value (.slice (some ⟨w.heap.size, 0, none⟩) 1 1)) (w.alloc (.cells cs.toArray e)) := by
      unfold execOp
      rw [h3]
      simp only [hv, List.map_toArray, List.map_cons, List.map_nil, Sem.run_bind, run_buildOne w t e ti z cs ht hi hz hs hzs h0 h1, Result.andThen_ok]
      rfl
    unfold Oper.wp
    rw [hr]
    show K _ _
    rw [h2]
    exact hk
/-- append, by its own run. -/
theorem OpIs.appendD {P : Program} {j k : Tmp} {t s : TypeId} {v u : Value} (h : OpIs ops i (.call { callee := .builtin .append, args := #[.tmp j, .tmp k], argTypes := #[t, s] }) dst js) (hj : a.eval (.tmp j) = v) (hv : a.eval (.tmp k) = u)
    (hk : ∀ ty, ∃ v' w', (Builtin.append_ #[t, s] ty #[v, u]).run P w = .ok v' w' ∧ K (a.put dst v') w') : wpOp P ops Q i K a w :=
  h.go fun o h1 h2 => by
    obtain ⟨v', w', hrun, ho⟩ := hk o.type
    unfold Oper.wp execOp
    simp only [h1, resolve, invoke, builtin, Sem.run_bind, Sem.run_pure, Result.andThen_ok, List.map_toArray, List.map_cons, List.map_nil, hj, hv, hrun]
    show K _ _
    rw [h2]
    exact ho
/-- A slice is stored into a cell of a block. -/
theorem OpIs.storeDW {j k : Tmp} {g f : Nat} {A : Option Addr} {n c : Nat} {cs : Array Value} {t : TypeId} (h : OpIs ops i (.store 65 (.tmp j) (.tmp k)) none js) (hj : a.eval (.tmp j) = .pointer (some ⟨g, f, none⟩)) (hv : a.eval (.tmp k) = .slice A n c) (hb : CellsAt w g cs t) (hf : f < cs.size)
    (hk : ∀ w', CellsAt w' g (cs.setIfInBounds f (.slice A n c)) t → Chg (fun q => q = g) w w' → K a w') : wpOp Try.prog ops Q i K a w :=
  h.go fun o h1 h2 => by
    have hc : w.cell? ⟨g, f, none⟩ = some cs[f] := hb.cell (Array.getElem?_eq_getElem hf)
    have hz := hb.frozen f
    have hb' := hb.set1 f (.slice A n c)
    have ht := chg_set w g f (.slice A n c)
    have hr : (execOp a.eval o).run Try.prog w = .ok .skip (w.setCell ⟨g, f, none⟩ (.slice A n c)) := by
      clear hb hb' ht hk
      unfold execOp
      rw [h1]
      dsimp only
      rw [hj, hv]
      go_simp
    unfold Oper.wp
    rw [hr]
    show K _ _
    rw [h2]
    exact hk _ hb' ht
/-- A slice is stored into a cell of a block. -/
theorem OpIs.storeDC {j k : Tmp} {g f : Nat} {A : Option Addr} {n c : Nat} {cs : Array Value} {t : TypeId} (h : OpIs ops i (.store 64 (.tmp j) (.tmp k)) none js) (hj : a.eval (.tmp j) = .pointer (some ⟨g, f, none⟩)) (hv : a.eval (.tmp k) = .slice A n c) (hb : CellsAt w g cs t) (hf : f < cs.size)
    (hk : ∀ w', CellsAt w' g (cs.setIfInBounds f (.slice A n c)) t → Chg (fun q => q = g) w w' → K a w') : wpOp Try.prog ops Q i K a w :=
  h.go fun o h1 h2 => by
    have hc : w.cell? ⟨g, f, none⟩ = some cs[f] := hb.cell (Array.getElem?_eq_getElem hf)
    have hz := hb.frozen f
    have hb' := hb.set1 f (.slice A n c)
    have ht := chg_set w g f (.slice A n c)
    have hr : (execOp a.eval o).run Try.prog w = .ok .skip (w.setCell ⟨g, f, none⟩ (.slice A n c)) := by
      clear hb hb' ht hk
      unfold execOp
      rw [h1]
      dsimp only
      rw [hj, hv]
      go_simp
    unfold Oper.wp
    rw [hr]
    show K _ _
    rw [h2]
    exact hk _ hb' ht
end

end Go.Proofs.Ytknjkkdoeanhbaa
