import Derived.Test.YtbhnbkcokhfopaaPk18
import Derived.Test.YtbhnbkcokhfopaaPk12
import Derived.Test.YtbhnbkcokhfopaaPk15

/-
  More operations of a region that draws its order: rows of prims, boxes of one cell, indices.
-/
namespace Go.Proofs.Ytbhnbkcokhfopaa
open Go.RowKit Go.Maps

section
variable {ops : Array Oper} {Q : Exit → Act → World → Prop} {K : Act → World → Prop} {i : Nat} {dst : Option Tmp} {js : List Nat} {a : Act} {w w0 : World}
/-- A box of one slice is read. -/
theorem OpIs.loadS {k : Tmp} {g : Nat} {v : Value} {t : TypeId} (h : OpIs ops i (.load 33 (.tmp k)) dst js) (he : a.eval (.tmp k) = .pointer (some ⟨g, 0, none⟩)) (hb : BoxAt w g #[v] t) (hk : K (a.put dst v) w) : wpOp Try.prog ops Q i K a w :=
  h.go fun o h1 h2 => by
    have hc := hb.cell (i := 0) rfl
    have hr : (execOp a.eval o).run Try.prog w = .ok (.value v) w := by
      clear hb hk
      unfold execOp
      rw [h1]
      dsimp only
      rw [he]
      go_simp
    unfold Oper.wp
    rw [hr]
    show K _ _
    rw [h2]
    exact hk
/-- A slice is written into its box. -/
theorem OpIs.storeS {j k : Tmp} {g : Nat} {A : Option Addr} {n c : Nat} {u : Value} {t : TypeId} (h : OpIs ops i (.store 33 (.tmp j) (.tmp k)) none js) (hj : a.eval (.tmp j) = .pointer (some ⟨g, 0, none⟩)) (hv : a.eval (.tmp k) = .slice A n c) (hb : BoxAt w g #[u] t)
    (hk : ∀ w', BoxAt w' g #[.slice A n c] t → Turned g w w' → K a w') : wpOp Try.prog ops Q i K a w :=
  h.go fun o h1 h2 => by
    have hc := hb.cell (i := 0) rfl
    have hf := hb.frozen 0
    have hb' := hb.set 0 (.slice A n c)
    have ht := turned_set w g 0 (.slice A n c)
    have hr : (execOp a.eval o).run Try.prog w = .ok .skip (w.setCell ⟨g, 0, none⟩ (.slice A n c)) := by
      clear hb hb' ht hk
      unfold execOp
      rw [h1]
      dsimp only
      rw [hj, hv]
      go_simp
    unfold Oper.wp
    rw [hr]
    show K _ _
    rw [h2]
    exact hk _ hb' ht
/-- A Bool is written into its box. -/
theorem OpIs.storeB {j k : Tmp} {g : Nat} {b : Bool} {u : Value} {t : TypeId} (h : OpIs ops i (.store 4 (.tmp j) (.tmp k)) none js) (hj : a.eval (.tmp j) = .pointer (some ⟨g, 0, none⟩)) (hv : a.eval (.tmp k) = .bool b) (hb : BoxAt w g #[u] t)
    (hk : ∀ w', BoxAt w' g #[.bool b] t → Turned g w w' → K a w') : wpOp Try.prog ops Q i K a w :=
  h.go fun o h1 h2 => by
    have hc := hb.cell (i := 0) rfl
    have hf := hb.frozen 0
    have hb' := hb.set 0 (.bool b)
    have ht := turned_set w g 0 (.bool b)
    have hr : (execOp a.eval o).run Try.prog w = .ok .skip (w.setCell ⟨g, 0, none⟩ (.bool b)) := by
      clear hb hb' ht hk
      unfold execOp
      rw [h1]
      dsimp only
      rw [hj, hv]
      go_simp
    unfold Oper.wp
    rw [hr]
    show K _ _
    rw [h2]
    exact hk _ hb' ht
/-- A slice of one prim is laid. -/
theorem OpIs.build1 {k : Tmp} {x : PrC} (h : OpIs ops i (.buildSlice 33 1 #[(0, .tmp k)]) dst js) (hv : a.eval (.tmp k) = prV x) (hk : K (a.put dst (.slice (some ⟨w.heap.size, 0, none⟩) 1 1)) (w.alloc (.cells (prL x).toArray 51))) : wpOp Try.prog ops Q i K a w :=
  h.go fun o h1 h2 => by
    have hr : (execOp a.eval o).run Try.prog w = .ok (.value (.slice (some ⟨w.heap.size, 0, none⟩) 1 1)) (w.alloc (.cells (prL x).toArray 51)) := by
      unfold prV at hv
      unfold execOp
      rw [h1]
      simp only [hv, List.map_toArray, List.map_cons, List.map_nil]
      go_simp
      rfl
    unfold Oper.wp
    rw [hr]
    show K _ _
    rw [h2]
    exact hk
/-- append onto a row of the call's own. -/
theorem OpIs.append {j k : Tmp} {v : Value} {xs ys : List PrC} {A : Option Addr} {m c : Nat} (h : OpIs ops i (.call { callee := .builtin .append, args := #[.tmp j, .tmp k], argTypes := #[33, 33] }) dst js) (hj : a.eval (.tmp j) = v) (hv : a.eval (.tmp k) = .slice A m c)
    (hown : OwnPs 51 w0 w v xs) (hr : RowK 6 w A m (ys.map prL)) (hok : ∀ y ∈ ys, PrOk w y) (haw : ∀ y ∈ ys, ∀ g, v.ownBlock = some g → Away g y) (hb : xs.length + m ≤ 1000000)
    (hk : ∀ v' w', OwnPs 51 w0 w' v' (xs ++ ys) → w.grownBy w' v.ownBlock → K (a.put dst v') w') : wpOp Try.prog ops Q i K a w :=
  h.go fun o h1 h2 => by
    obtain ⟨i0, hi, hz0, hz1, hz2⟩ := info_parts Try.primInfo
    obtain ⟨v', w', hrun, ho, hg⟩ := run_append_ps (P := Try.prog) 33 o.type i0 _ 96 Try.underlying33 hi hz0 hz1 hz2 rfl hown A m c ys hr hok haw hb (by omega)
    unfold Oper.wp execOp
    simp only [h1, resolve, invoke, builtin, Sem.run_bind, Sem.run_pure, Result.andThen_ok, List.map_toArray, List.map_cons, List.map_nil, hj, hv, hrun]
    show K _ _
    rw [h2]
    exact hk v' w' ho hg
end

end Go.Proofs.Ytbhnbkcokhfopaa

/-
  More operations of a region that draws its order: make, len, an index, a store into a row.
-/
namespace Go.Proofs.Ytbhnbkcokhfopaa
open Go.RowKit Go.Maps

theorem made_zero (n : Nat) : (madeCells (Value.agg #[.int .i64 0, .string ByteArray.empty, .string ByteArray.empty, .int .i64 0, .slice none 0 0, .slice none 0 0]).cells (n * 6)).toList = ((List.replicate n zeroC).map prL).flatten := by
  have hk : ∀ cs ∈ (List.replicate n zeroC).map prL, cs.length = 6 := by
    intro cs hcs
    obtain ⟨y, _, rfl⟩ := List.mem_map.1 hcs
    rfl
  refine List.ext_getElem? fun j => ?_
  rcases Nat.lt_or_ge j (n * 6) with hj | hj
  · have hq : j / 6 < n := by omega
    have hat := flat_at (j := j / 6) (i := j % 6) hk (cs := prL zeroC) (by simp [hq]) (Nat.mod_lt _ (by decide))
    rw [show j / 6 * 6 + j % 6 = j by omega] at hat
    rw [hat]
    have h6 : j % 6 = 0 ∨ j % 6 = 1 ∨ j % 6 = 2 ∨ j % 6 = 3 ∨ j % 6 = 4 ∨ j % 6 = 5 := by omega
    simp only [madeCells, Value.cells]
    rcases h6 with h | h | h | h | h | h <;> simp [hj, h, prL, zeroC, zeroPr]
  · rw [List.getElem?_eq_none (by simp [madeCells]; exact hj), List.getElem?_eq_none (by rw [flat_length hk]; simpa using hj)]
theorem zero_away (g : Nat) : Away g zeroC := ⟨fun h => absurd rfl h, fun h => absurd rfl h⟩
section
variable {ops : Array Oper} {Q : Exit → Act → World → Prop} {K : Act → World → Prop} {i : Nat} {dst : Option Tmp} {js : List Nat} {a : Act} {w w0 : World}
theorem OpIs.lenS {k : Tmp} {A : Option Addr} {n c : Nat} (h : OpIs ops i (.call { callee := .builtin .len, args := #[.tmp k], argTypes := #[33] }) dst js) (he : a.eval (.tmp k) = .slice A n c) (hk : K (a.put dst (.int .i64 n)) w) : wpOp Try.prog ops Q i K a w :=
  h.go fun o h1 h2 => by
    have hr : (execOp a.eval o).run Try.prog w = .ok (.value (.int .i64 n)) w := by
      unfold execOp
      rw [h1]
      simp only [resolve, invoke, builtin, Sem.run_bind, List.map_toArray, List.map_cons, List.map_nil, he]
      go_simp
    unfold Oper.wp
    rw [hr]
    show K _ _
    rw [h2]
    exact hk
/-- A row of n zero prims. -/
theorem OpIs.makeS {j k : Tmp} {n : Nat} (h : OpIs ops i (.makeSlice 33 (.tmp j) (.tmp k)) dst js) (hj : a.eval (.tmp j) = .int .i64 n) (hk' : a.eval (.tmp k) = .int .i64 n) (hn : n ≤ 1000000) (hl : Later w0 w)
    (hk : ∀ w', OwnPs 51 w0 w' (.slice (some ⟨w.heap.size, 0, none⟩) n n) (List.replicate n zeroC) → Later w w' → K (a.put dst (.slice (some ⟨w.heap.size, 0, none⟩) n n)) w') : wpOp Try.prog ops Q i K a w :=
  h.go fun o h1 h2 => by
    obtain ⟨i0, hi, hz0, hz1, hz2⟩ := info_parts Try.primInfo
    obtain ⟨w', hrun, r1, r2⟩ := run_make_full (P := Try.prog) w w0.heap.size 33 51 i0 _ 6 Try.underlying33 hi hz0 hz1 .i64 .i64 n (by rw [hz2]; omega) (by simp only [maxLen]; omega) hl.le
    have hlw : Later w w' := ⟨r2.os, r2.tape, r2.output, r2.size, fun i hi => r2.block i hi (by simp)⟩
    unfold Oper.wp execOp
    simp only [h1, hj, hk', hrun, Sem.run_bind, Sem.run_pure, Result.andThen_ok]
    show K _ _
    rw [h2]
    rw [made_zero] at r1
    refine hk w' ⟨⟨by simpa using r1, fun cs hcs => ?_, hl.trans hlw⟩, fun x hx => ?_, fun x hx g _ => ?_⟩ hlw
    · obtain ⟨y, _, rfl⟩ := List.mem_map.1 hcs
      rfl
    · rw [List.eq_of_mem_replicate hx]; exact zeroC_ok _
    · rw [List.eq_of_mem_replicate hx]; exact zero_away g
theorem OpIs.index {j k : Tmp} {g o n c m : Nat} (h : OpIs ops i (.indexAddr 33 (.tmp j) (.tmp k)) dst js) (hj : a.eval (.tmp j) = .slice (some ⟨g, o, none⟩) n c) (hk' : a.eval (.tmp k) = .int .i64 (m : Nat)) (hm : m < n) (hk : K (a.put dst (.pointer (some ⟨g, o + m * 6, none⟩))) w) : wpOp Try.prog ops Q i K a w :=
  h.go fun op h1 h2 => by
    have hr : (execOp a.eval op).run Try.prog w = .ok (.value (.pointer (some ⟨g, o + m * 6, none⟩))) w := by
      unfold execOp
      rw [h1]
      dsimp only
      rw [hj, hk']
      go_simp
    unfold Oper.wp
    rw [hr]
    show K _ _
    rw [h2]
    exact hk
theorem OpIs.storeP {j k : Tmp} {T e : TypeId} {g o n c m : Nat} {xs : List PrC} {x : PrC} (h : OpIs ops i (.store T (.tmp j) (.tmp k)) none js) (hi : (Try.prog.info? T).map (·.size) = some 6) (hj : a.eval (.tmp j) = .pointer (some ⟨g, o + m * 6, none⟩)) (hv : a.eval (.tmp k) = prV x)
    (hown : OwnPs e w0 w (.slice (some ⟨g, o, none⟩) n c) xs) (hin : m < n) (hx : PrOk w x) (ha : Away g x) (hk : ∀ w', OwnPs e w0 w' (.slice (some ⟨g, o, none⟩) n c) (xs.set m x) → Turned g w w' → K a w') : wpOp Try.prog ops Q i K a w :=
  h.go fun op h1 h2 => by
    obtain ⟨b', o', q, hA, hz, hok, g0, g1, g2, g3, g4, g5⟩ := hown.ps.get hin
    cases hA
    have hth : w.there g (o + m * 6) 6 := by
      intro r hr
      refine ⟨?_, hown.frozen _⟩
      match r, hr with
      | 0, _ => rw [Nat.add_zero, g0]; rfl
      | 1, _ => rw [g1]; rfl
      | 2, _ => rw [g2]; rfl
      | 3, _ => rw [g3]; rfl
      | 4, _ => rw [g4]; rfl
      | 5, _ => rw [g5]; rfl
    refine wp_store_mid T (.tmp j) (.tmp k) h1 g (o + m * 6) (prL x).toArray hj (hv.trans (prV_is x)) hth hi (prL_one x) ?_
    rw [h2, put_none]
    exact hk _ (hown.set hin x hx ha) (turned_sets w g o m _ _ _ _ _ _)
end

end Go.Proofs.Ytbhnbkcokhfopaa

/-
  Operations of a region that are guarded by one that yields true; functions as values.
-/
namespace Go.Proofs.Ytbhnbkcokhfopaa
open Go.RowKit Go.Maps

/-- Operation i of the region, guarded by operation g, whose slot is d. -/
def OpG (ops : Array Oper) (i : Nat) (op : Op) (dst : Option Tmp) (js : List Nat) (g : Nat) (d : Tmp) : Prop := ∃ o, ops[i]? = some o ∧ o.op = op ∧ o.dst = dst ∧ o.guard = some (g, true) ∧ needs o js = true ∧ (ops[g]?).bind (·.dst) = some d
def unguard (ops : Array Oper) (i : Nat) : Array Oper := ops.modify i fun o => { o with guard := none }
theorem OpG.waits {ops : Array Oper} {i g : Nat} {d : Tmp} {op : Op} {dst : Option Tmp} {js : List Nat} (h : OpG ops i op dst js g d) {o : Oper} (ho : ops[i]? = some o) {l : Nat → Bool} (hl : ∀ e ∈ o.after, Region.binds .any e = true → l e.on = true) : ∀ j ∈ js, l j = true := by
  obtain ⟨o', h1, -, -, -, h5, -⟩ := h
  rw [ho] at h1
  cases h1
  intro j hj
  have := List.all_eq_true.1 h5 j hj
  simp only [Array.any_eq_true, Bool.and_eq_true, decide_eq_true_eq] at this
  obtain ⟨k, hk, e1, e2⟩ := this
  rw [← e1]
  exact hl _ (Array.getElem_mem hk) e2
theorem OpG.un {ops : Array Oper} {i g : Nat} {d : Tmp} {op : Op} {dst : Option Tmp} {js : List Nat} (h : OpG ops i op dst js g d) : OpIs (unguard ops i) i op dst [] := by
  obtain ⟨o, h1, h2, h3, -, -, -⟩ := h
  exact ⟨{ o with guard := none }, by simp [unguard, Array.getElem?_modify, h1], h2, h3, rfl, rfl⟩
theorem OpG.via {P : Program} {ops : Array Oper} {Q : Exit → Act → World → Prop} {K : Act → World → Prop} {i g : Nat} {d : Tmp} {op : Op} {dst : Option Tmp} {js : List Nat} {a : Act} {w : World} (h : OpG ops i op dst js g d) (hv : a.eval (.tmp d) = .bool true) (hd : d < a.tmps.size)
    (hk : wpOp P (unguard ops i) Q i K a w) : wpOp P ops Q i K a w := by
  obtain ⟨o, h1, -, -, h4, -, h6⟩ := h
  unfold wpOp at hk ⊢
  rw [h1]
  have e1 : (unguard ops i)[i]? = some { o with guard := none } := by simp [unguard, Array.getElem?_modify, h1]
  rw [e1] at hk
  have e2 : Region.wanted o (yielded ops a.tmps) = true := by
    have ht : a.tmps[d]? = some (.bool true) := by
      rw [Array.getElem?_eq_getElem hd]
      have := hv
      simp only [Act.eval, Array.getD, hd, dif_pos] at this
      exact congrArg some this
    simp only [Region.wanted, h4, yielded]
    rw [h6]
    simp [ht]
  dsimp only at hk ⊢
  rw [if_pos e2]
  rw [if_pos (by rfl)] at hk
  exact hk

section
variable {ops : Array Oper} {Q : Exit → Act → World → Prop} {K : Act → World → Prop} {i : Nat} {dst : Option Tmp} {js : List Nat} {a : Act} {w w0 : World}
theorem OpIs.loadF {k : Tmp} {g : Nat} {fi : FuncId} {lb : Array Value} {t : TypeId} (h : OpIs ops i (.load 101 (.tmp k)) dst js) (he : a.eval (.tmp k) = .pointer (some ⟨g, 0, none⟩)) (hb : BoxAt w g #[.func (.func fi) #[] lb] t) (hk : K (a.put dst (.func (.func fi) #[] lb)) w) : wpOp Try.prog ops Q i K a w :=
  h.go fun o h1 h2 => by
    have hc := hb.cell (i := 0) rfl
    have hr : (execOp a.eval o).run Try.prog w = .ok (.value (.func (.func fi) #[] lb)) w := by
      clear hb hk
      unfold execOp
      rw [h1]
      dsimp only
      rw [he]
      go_simp
    unfold Oper.wp
    rw [hr]
    show K _ _
    rw [h2]
    exact hk
theorem run_neq_func_nil (w : World) (fi : FuncId) (lb : Array Value) : (binOp .neq 101 (.func (.func fi) #[] lb) .nilFunc).run Try.prog w = .ok (.bool true) w := by
  have key : ∀ d, (Op.equalIn (d + 1) 101 (.func (.func fi) #[] lb) .nilFunc).run Try.prog w = .ok false w := fun d => by
    simp [Op.equalIn, run_underlying Try.underlying101]
  have h : (Op.equal 101 (.func (.func fi) #[] lb) .nilFunc).run Try.prog w = .ok false w := key 9999
  simp [binOp, h]
theorem OpIs.notNil {k : Tmp} {fi : FuncId} {lb : Array Value} (h : OpIs ops i (.binOp .neq 101 (.tmp k) (.const .nilFunc) 101) dst js) (he : a.eval (.tmp k) = .func (.func fi) #[] lb) (hk : K (a.put dst (.bool true)) w) : wpOp Try.prog ops Q i K a w :=
  h.go fun o h1 h2 => by
    have hr : (execOp a.eval o).run Try.prog w = .ok (.value (.bool true)) w := by
      clear hk
      unfold execOp
      rw [h1]
      dsimp only
      rw [he]
      have hn := run_neq_func_nil w fi lb
      go_simp
    unfold Oper.wp
    rw [hr]
    show K _ _
    rw [h2]
    exact hk
theorem OpIs.pick {j k : Tmp} {v : Value} (h : OpIs ops i (.pick (.tmp j) (.tmp k) (.const (.bool false))) dst js) (hj : a.eval (.tmp j) = .bool true) (hv : a.eval (.tmp k) = v) (hk : K (a.put dst v) w) : wpOp Try.prog ops Q i K a w :=
  h.go fun o h1 h2 => by
    have hr : (execOp a.eval o).run Try.prog w = .ok (.value v) w := by
      clear hk
      unfold execOp
      rw [h1]
      dsimp only
      rw [hj, hv]
      go_simp
    unfold Oper.wp
    rw [hr]
    show K _ _
    rw [h2]
    exact hk
/-- A prim of a row is read. -/
theorem OpIs.loadP {k : Tmp} {g o m n : Nat} {x : PrC} {xs : List PrC} (h : OpIs ops i (.load 51 (.tmp k)) dst js) (he : a.eval (.tmp k) = .pointer (some ⟨g, o + m * 6, none⟩)) (hr : RowK 6 w (some ⟨g, o, none⟩) n (xs.map prL)) (hx : xs[m]? = some x) (hk : K (a.put dst (prV x)) w) : wpOp Try.prog ops Q i K a w :=
  h.go fun op h1 h2 => by
    have hm : m < n := by
      have := hr.len
      simp only [List.length_map] at this
      have := (List.getElem?_eq_some_iff.1 hx).1
      omega
    obtain ⟨b', o', q, hA, hz, g0, g1, g2, g3, g4, g5⟩ := hr.getP hm
    cases hA
    rw [hx] at hz
    cases hz
    have hrun : (execOp a.eval op).run Try.prog w = .ok (.value (prV x)) w := by
      clear hr hk hx
      unfold prV execOp
      rw [h1]
      dsimp only
      rw [he]
      go_simp
    unfold Oper.wp
    rw [hrun]
    show K _ _
    rw [h2]
    exact hk
/-- A function value is called. -/
theorem OpIs.callF {f k m : Tmp} {t s : TypeId} {v u : Value} {fi : FuncId} {lb : Array Value} {Post : Ending → World → Prop} (h : OpIs ops i (.call { callee := .value (.tmp f), args := #[.tmp k, .tmp m], argTypes := #[t, s] }) dst js) (hf : ∀ args w, (callFunc fi args).run Try.prog w = .ok (.enter fi args) w)
    (he0 : a.eval (.tmp f) = .func (.func fi) #[] lb) (he : a.eval (.tmp k) = v) (he2 : a.eval (.tmp m) = u) (hc : Calls Try.prog fi (#[v, u] ++ lb) w Post) (hk : ∀ e w', Post e w' → ∃ r, e = .returned r ∧ K (a.put dst r) w') : wpOp Try.prog ops Q i K a w :=
  h.go fun o h1 h2 => by
    have hr : (execOp a.eval o).run Try.prog w = .ok (.enter fi (#[v, u] ++ lb)) w := by
      unfold execOp
      rw [h1]
      simp only [resolve, invoke, Sem.run_bind, List.map_toArray, List.map_cons, List.map_nil, he0, he, he2]
      go_simp
    unfold Oper.wp
    rw [hr]
    show Calls _ _ _ _ _
    refine hc.mono ?_
    intro e w' hp
    obtain ⟨r, rfl, hku⟩ := hk e w' hp
    dsimp only
    rw [h2]
    exact hku
end

end Go.Proofs.Ytbhnbkcokhfopaa
