/-
  Operations of a region that draws its order: guarded ones; those over the states of the reference.
-/
import Derived.Test.YtknjkkdoeanhbaaBkOps
import Derived.Test.YtknjkkdoeanhbaaBkRef3
namespace Go.Proofs.Ytknjkkdoeanhbaa
open Go.RowKit

def OpG (ops : Array Oper) (i : Nat) (op : Op) (dst : Option Tmp) (js : List Nat) (g : Nat) (d : Tmp) : Prop := ∃ o, ops[i]? = some o ∧ o.op = op ∧ o.dst = dst ∧ o.guard = some (g, true) ∧ needs o js = true ∧ (ops[g]?).bind (·.dst) = some d
def unguard (ops : Array Oper) (i : Nat) : Array Oper := ops.modify i fun o => { o with guard := none }
theorem OpG.waits {ops : Array Oper} {i g : Nat} {d : Tmp} {op : Op} {dst : Option Tmp} {js : List Nat} (h : OpG ops i op dst js g d) {o : Oper} (ho : ops[i]? = some o) {l : Nat → Bool} (hl : ∀ e ∈ o.after, Region.binds .any e = true → l e.on = true) : ∀ j ∈ js, l j = true := by
  obtain ⟨o', h1, -, -, -, h5, -⟩ := h
  rw [ho] at h1
  cases h1
  intro j hj
  have := List.all_eq_true.1 h5 j hj
  simp only [Array.any_eq_true, Bool.and_eq_true, decide_eq_true_eq] at this
  obtain ⟨k, hk, e1, e2⟩ := this
  rw [← e1]
  exact hl _ (Array.getElem_mem hk) e2
theorem OpG.un {ops : Array Oper} {i g : Nat} {d : Tmp} {op : Op} {dst : Option Tmp} {js : List Nat} (h : OpG ops i op dst js g d) : OpIs (unguard ops i) i op dst [] := by
  obtain ⟨o, h1, h2, h3, -, -, -⟩ := h
  exact ⟨{ o with guard := none }, by simp [unguard, Array.getElem?_modify, h1], h2, h3, rfl, rfl⟩
theorem OpG.via {P : Program} {ops : Array Oper} {Q : Exit → Act → World → Prop} {K : Act → World → Prop} {i g : Nat} {d : Tmp} {op : Op} {dst : Option Tmp} {js : List Nat} {a : Act} {w : World} (h : OpG ops i op dst js g d) (hv : a.eval (.tmp d) = .bool true) (hd : d < a.tmps.size)
    (hk : wpOp P (unguard ops i) Q i K a w) : wpOp P ops Q i K a w := by
  obtain ⟨o, h1, -, -, h4, -, h6⟩ := h
  unfold wpOp at hk ⊢
  rw [h1]
  have e1 : (unguard ops i)[i]? = some { o with guard := none } := by simp [unguard, Array.getElem?_modify, h1]
  rw [e1] at hk
  have e2 : Region.wanted o (yielded ops a.tmps) = true := by
    have ht : a.tmps[d]? = some (.bool true) := by
      rw [Array.getElem?_eq_getElem hd]
      have := hv
      simp only [Act.eval, Array.getD, hd, dif_pos] at this
      exact congrArg some this
    simp only [Region.wanted, h4, yielded]
    rw [h6]
    simp [ht]
  dsimp only at hk ⊢
  rw [if_pos e2]
  rw [if_pos (by rfl)] at hk
  exact hk
def OpN (ops : Array Oper) (i : Nat) (op : Op) (dst : Option Tmp) (js : List Nat) (g : Nat) (d : Tmp) : Prop := ∃ o, ops[i]? = some o ∧ o.op = op ∧ o.dst = dst ∧ o.guard = some (g, false) ∧ needs o js = true ∧ (ops[g]?).bind (·.dst) = some d
theorem OpN.waits {ops : Array Oper} {i g : Nat} {d : Tmp} {op : Op} {dst : Option Tmp} {js : List Nat} (h : OpN ops i op dst js g d) {o : Oper} (ho : ops[i]? = some o) {l : Nat → Bool} (hl : ∀ e ∈ o.after, Region.binds .any e = true → l e.on = true) : ∀ j ∈ js, l j = true := by
  obtain ⟨o', h1, -, -, -, h5, -⟩ := h
  rw [ho] at h1
  cases h1
  intro j hj
  have := List.all_eq_true.1 h5 j hj
  simp only [Array.any_eq_true, Bool.and_eq_true, decide_eq_true_eq] at this
  obtain ⟨k, hk, e1, e2⟩ := this
  rw [← e1]
  exact hl _ (Array.getElem_mem hk) e2
theorem OpN.un {ops : Array Oper} {i g : Nat} {d : Tmp} {op : Op} {dst : Option Tmp} {js : List Nat} (h : OpN ops i op dst js g d) : OpIs (unguard ops i) i op dst [] := by
  obtain ⟨o, h1, h2, h3, -, -, -⟩ := h
  exact ⟨{ o with guard := none }, by simp [unguard, Array.getElem?_modify, h1], h2, h3, rfl, rfl⟩
theorem OpN.via {P : Program} {ops : Array Oper} {Q : Exit → Act → World → Prop} {K : Act → World → Prop} {i g : Nat} {d : Tmp} {op : Op} {dst : Option Tmp} {js : List Nat} {a : Act} {w : World} (h : OpN ops i op dst js g d) (hv : a.eval (.tmp d) = .bool false) (hd : d < a.tmps.size)
    (hk : wpOp P (unguard ops i) Q i K a w) : wpOp P ops Q i K a w := by
  obtain ⟨o, h1, -, -, h4, -, h6⟩ := h
  unfold wpOp at hk ⊢
  rw [h1]
  have e1 : (unguard ops i)[i]? = some { o with guard := none } := by simp [unguard, Array.getElem?_modify, h1]
  rw [e1] at hk
  have e2 : Region.wanted o (yielded ops a.tmps) = true := by
    have ht : a.tmps[d]? = some (.bool false) := by
      rw [Array.getElem?_eq_getElem hd]
      have := hv
      simp only [Act.eval, Array.getD, hd, dif_pos] at this
      exact congrArg some this
    simp only [Region.wanted, h4, yielded]
    rw [h6]
    simp [ht]
  dsimp only at hk ⊢
  rw [if_pos e2]
  rw [if_pos (by rfl)] at hk
  exact hk
section
variable {P : Program} {ops : Array Oper} {Q : Exit → Act → World → Prop} {K : Act → World → Prop} {i g : Nat} {d e : Tmp} {op : Op} {js : List Nat} {a : Act} {w : World}
theorem OpG.skip (h : OpG ops i op (some e) js g d) (hv : a.eval (.tmp d) = .bool false) (hd : d < a.tmps.size) (hk : K (a.put (some e) undef) w) : wpOp P ops Q i K a w := by
  obtain ⟨o, h1, -, h3, h4, -, h6⟩ := h
  unfold wpOp
  rw [h1]
  have e2 : ¬ Region.wanted o (yielded ops a.tmps) = true := by
    have ht : a.tmps[d]? = some (.bool false) := by
      rw [Array.getElem?_eq_getElem hd]
      have := hv
      simp only [Act.eval, Array.getD, hd, dif_pos] at this
      exact congrArg some this
    simp only [Region.wanted, h4, yielded]
    rw [h6]
    simp [ht]
  dsimp only
  rw [if_neg e2, h3]
  exact hk
theorem OpN.skip (h : OpN ops i op (some e) js g d) (hv : a.eval (.tmp d) = .bool true) (hd : d < a.tmps.size) (hk : K (a.put (some e) undef) w) : wpOp P ops Q i K a w := by
  obtain ⟨o, h1, -, h3, h4, -, h6⟩ := h
  unfold wpOp
  rw [h1]
  have e2 : ¬ Region.wanted o (yielded ops a.tmps) = true := by
    have ht : a.tmps[d]? = some (.bool true) := by
      rw [Array.getElem?_eq_getElem hd]
      have := hv
      simp only [Act.eval, Array.getD, hd, dif_pos] at this
      exact congrArg some this
    simp only [Region.wanted, h4, yielded]
    rw [h6]
    simp [ht]
  dsimp only
  rw [if_neg e2, h3]
  exact hk
end
section
variable {ops : Array Oper} {Q : Exit → Act → World → Prop} {K : Act → World → Prop} {i : Nat} {dst : Option Tmp} {js : List Nat} {a : Act} {w w0 : World}
theorem OpIs.notB {k : Tmp} {b : Bool} (h : OpIs ops i (.unOp .not 4 (.tmp k)) dst js) (he : a.eval (.tmp k) = .bool b) (hk : K (a.put dst (.bool (!b))) w) : wpOp Try.prog ops Q i K a w :=
  h.go fun op h1 h2 => by
    have hr : (execOp a.eval op).run Try.prog w = .ok (.value (.bool (!b))) w := by
      unfold execOp
      rw [h1]
      dsimp only
      rw [he]
      go_simp
    unfold Oper.wp
    rw [hr]
    show K _ _
    rw [h2]
    exact hk
theorem OpIs.pickF {j k : Tmp} {v : Value} (h : OpIs ops i (.pick (.tmp j) (.const (.bool true)) (.tmp k)) dst js) (hj : a.eval (.tmp j) = .bool false) (hv : a.eval (.tmp k) = v) (hk : K (a.put dst v) w) : wpOp Try.prog ops Q i K a w :=
  h.go fun op h1 h2 => by
    have hr : (execOp a.eval op).run Try.prog w = .ok (.value v) w := by
      unfold execOp
      rw [h1]
      dsimp only
      rw [hj, hv]
      go_simp
    unfold Oper.wp
    rw [hr]
    show K _ _
    rw [h2]
    exact hk
theorem OpIs.fieldSt {k : Tmp} {f g o : Nat} (h : OpIs ops i (.fieldAddr 30 (.tmp k) f) dst js) (hf : f < 5) (he : a.eval (.tmp k) = .pointer (some ⟨g, o, none⟩)) (hk : K (a.put dst (.pointer (some ⟨g, o + f, none⟩))) w) : wpOp Try.prog ops Q i K a w :=
  h.go fun op h1 h2 => by
    have hr : (execOp a.eval op).run Try.prog w = .ok (.value (.pointer (some ⟨g, o + f, none⟩))) w := by
      clear hk
      unfold execOp
      rw [h1]
      dsimp only
      rw [he]
      have h4 : f = 0 ∨ f = 1 ∨ f = 2 ∨ f = 3 ∨ f = 4 := by omega
      rcases h4 with rfl | rfl | rfl | rfl | rfl <;> go_simp
    unfold Oper.wp
    rw [hr]
    show K _ _
    rw [h2]
    exact hk
theorem OpIs.loadRL {k : Tmp} {g o : Nat} {u : Value} (h : OpIs ops i (.load 27 (.tmp k)) dst js) (he : a.eval (.tmp k) = .pointer (some ⟨g, o, none⟩)) (hc : w.cell? ⟨g, o, none⟩ = some u) (hk : K (a.put dst (u)) w) : wpOp Try.prog ops Q i K a w :=
  h.go fun op h1 h2 => by
    have hr : (execOp a.eval op).run Try.prog w = .ok (.value (u)) w := by
      clear hk
      unfold execOp
      rw [h1]
      dsimp only
      rw [he]
      go_simp
    unfold Oper.wp
    rw [hr]
    show K _ _
    rw [h2]
    exact hk
theorem OpIs.loadRW {k : Tmp} {g o : Nat} {u : Value} (h : OpIs ops i (.load 28 (.tmp k)) dst js) (he : a.eval (.tmp k) = .pointer (some ⟨g, o, none⟩)) (hc : w.cell? ⟨g, o, none⟩ = some u) (hk : K (a.put dst (u)) w) : wpOp Try.prog ops Q i K a w :=
  h.go fun op h1 h2 => by
    have hr : (execOp a.eval op).run Try.prog w = .ok (.value (u)) w := by
      clear hk
      unfold execOp
      rw [h1]
      dsimp only
      rw [he]
      go_simp
    unfold Oper.wp
    rw [hr]
    show K _ _
    rw [h2]
    exact hk
theorem OpIs.loadI10 {k : Tmp} {g o : Nat} {u : Value} (h : OpIs ops i (.load 3 (.tmp k)) dst js) (he : a.eval (.tmp k) = .pointer (some ⟨g, o, none⟩)) (hc : w.cell? ⟨g, o, none⟩ = some u) (hk : K (a.put dst (u)) w) : wpOp Try.prog ops Q i K a w :=
  h.go fun op h1 h2 => by
    have hr : (execOp a.eval op).run Try.prog w = .ok (.value (u)) w := by
      clear hk
      unfold execOp
      rw [h1]
      dsimp only
      rw [he]
      go_simp
    unfold Oper.wp
    rw [hr]
    show K _ _
    rw [h2]
    exact hk
theorem OpIs.loadB10 {k : Tmp} {g o : Nat} {u : Value} (h : OpIs ops i (.load 4 (.tmp k)) dst js) (he : a.eval (.tmp k) = .pointer (some ⟨g, o, none⟩)) (hc : w.cell? ⟨g, o, none⟩ = some u) (hk : K (a.put dst (u)) w) : wpOp Try.prog ops Q i K a w :=
  h.go fun op h1 h2 => by
    have hr : (execOp a.eval op).run Try.prog w = .ok (.value (u)) w := by
      clear hk
      unfold execOp
      rw [h1]
      dsimp only
      rw [he]
      go_simp
    unfold Oper.wp
    rw [hr]
    show K _ _
    rw [h2]
    exact hk
theorem OpIs.neqI {j k : Tmp} {z : Int} (h : OpIs ops i (.binOp .neq 3 (.tmp j) (.tmp k) 3) dst js) (hj : a.eval (.tmp j) = .int .i64 z) (hk' : a.eval (.tmp k) = .int .i64 z) (hk : K (a.put dst (.bool false)) w) : wpOp Try.prog ops Q i K a w :=
  h.go fun op h1 h2 => by
    have hr : (execOp a.eval op).run Try.prog w = .ok (.value (.bool false)) w := by
      clear hk
      unfold execOp
      rw [h1]
      dsimp only
      rw [hj]
      rw [hk']
      go_simp
    unfold Oper.wp
    rw [hr]
    show K _ _
    rw [h2]
    exact hk
theorem OpIs.neqB {j k : Tmp} {z : Bool} (h : OpIs ops i (.binOp .neq 4 (.tmp j) (.tmp k) 4) dst js) (hj : a.eval (.tmp j) = .bool z) (hk' : a.eval (.tmp k) = .bool z) (hk : K (a.put dst (.bool false)) w) : wpOp Try.prog ops Q i K a w :=
  h.go fun op h1 h2 => by
    have hr : (execOp a.eval op).run Try.prog w = .ok (.value (.bool false)) w := by
      clear hk
      unfold execOp
      rw [h1]
      dsimp only
      rw [hj]
      rw [hk']
      go_simp
    unfold Oper.wp
    rw [hr]
    show K _ _
    rw [h2]
    exact hk
theorem OpIs.mulC {k : Tmp} {j : Nat} (h : OpIs ops i (.binOp .mul 3 (.const (.int .i64 64)) (.tmp k) 3) dst js) (hj : j ≤ 1000000) (he : a.eval (.tmp k) = .int .i64 (j : Nat)) (hk : K (a.put dst (.int .i64 (64 * j : Nat))) w) : wpOp Try.prog ops Q i K a w :=
  h.go fun op h1 h2 => by
    have hr : (execOp a.eval op).run Try.prog w = .ok (.value (.int .i64 (64 * j : Nat))) w := by
      clear hk
      unfold execOp
      rw [h1]
      dsimp only
      rw [he]
      go_simp
      rw [IntKind.wrap_i64]
      omega
    unfold Oper.wp
    rw [hr]
    show K _ _
    rw [h2]
    exact hk
theorem OpIs.lenRL {k : Tmp} {A : Option Addr} {n c : Nat} (h : OpIs ops i (.call { callee := .builtin .len, args := #[.tmp k], argTypes := #[27] }) dst js) (he : a.eval (.tmp k) = .slice A n c) (hk : K (a.put dst (.int .i64 n)) w) : wpOp Try.prog ops Q i K a w :=
  h.go fun o h1 h2 => by
    have hr : (execOp a.eval o).run Try.prog w = .ok (.value (.int .i64 n)) w := by
      unfold execOp
      rw [h1]
      simp only [resolve, invoke, builtin, Sem.run_bind, List.map_toArray, List.map_cons, List.map_nil, he]
      go_simp
    unfold Oper.wp
    rw [hr]
    show K _ _
    rw [h2]
    exact hk
theorem OpIs.lenRW {k : Tmp} {A : Option Addr} {n c : Nat} (h : OpIs ops i (.call { callee := .builtin .len, args := #[.tmp k], argTypes := #[28] }) dst js) (he : a.eval (.tmp k) = .slice A n c) (hk : K (a.put dst (.int .i64 n)) w) : wpOp Try.prog ops Q i K a w :=
  h.go fun o h1 h2 => by
    have hr : (execOp a.eval o).run Try.prog w = .ok (.value (.int .i64 n)) w := by
      unfold execOp
      rw [h1]
      simp only [resolve, invoke, builtin, Sem.run_bind, List.map_toArray, List.map_cons, List.map_nil, he]
      go_simp
    unfold Oper.wp
    rw [hr]
    show K _ _
    rw [h2]
    exact hk
theorem OpIs.storeRL {j k : Tmp} {g f : Nat} {A : Option Addr} {n c : Nat} {cs : Array Value} {t : TypeId} (h : OpIs ops i (.store 27 (.tmp j) (.tmp k)) none js) (hj : a.eval (.tmp j) = .pointer (some ⟨g, f, none⟩)) (hv : a.eval (.tmp k) = .slice A n c) (hb : CellsAt w g cs t) (hf : f < cs.size)
    (hk : ∀ w', CellsAt w' g (cs.setIfInBounds f (.slice A n c)) t → Chg (fun q => q = g) w w' → K a w') : wpOp Try.prog ops Q i K a w :=
  h.go fun o h1 h2 => by
    have hc : w.cell? ⟨g, f, none⟩ = some cs[f] := hb.cell (Array.getElem?_eq_getElem hf)
    have hz := hb.frozen f
    have hb' := hb.set1 f (.slice A n c)
    have ht := chg_set w g f (.slice A n c)
    have hr : (execOp a.eval o).run Try.prog w = .ok .skip (w.setCell ⟨g, f, none⟩ (.slice A n c)) := by
      clear hb hb' ht hk
      unfold execOp
      rw [h1]
      dsimp only
      rw [hj, hv]
      go_simp
    unfold Oper.wp
    rw [hr]
    show K _ _
    rw [h2]
    exact hk _ hb' ht
theorem OpIs.storeRW {j k : Tmp} {g f : Nat} {A : Option Addr} {n c : Nat} {cs : Array Value} {t : TypeId} (h : OpIs ops i (.store 28 (.tmp j) (.tmp k)) none js) (hj : a.eval (.tmp j) = .pointer (some ⟨g, f, none⟩)) (hv : a.eval (.tmp k) = .slice A n c) (hb : CellsAt w g cs t) (hf : f < cs.size)
    (hk : ∀ w', CellsAt w' g (cs.setIfInBounds f (.slice A n c)) t → Chg (fun q => q = g) w w' → K a w') : wpOp Try.prog ops Q i K a w :=
  h.go fun o h1 h2 => by
    have hc : w.cell? ⟨g, f, none⟩ = some cs[f] := hb.cell (Array.getElem?_eq_getElem hf)
    have hz := hb.frozen f
    have hb' := hb.set1 f (.slice A n c)
    have ht := chg_set w g f (.slice A n c)
    have hr : (execOp a.eval o).run Try.prog w = .ok .skip (w.setCell ⟨g, f, none⟩ (.slice A n c)) := by
      clear hb hb' ht hk
      unfold execOp
      rw [h1]
      dsimp only
      rw [hj, hv]
      go_simp
    unfold Oper.wp
    rw [hr]
    show K _ _
    rw [h2]
    exact hk _ hb' ht
end

end Go.Proofs.Ytknjkkdoeanhbaa
