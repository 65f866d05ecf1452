import Derived.Test.YtnhhdjcbifmfgaaDoorPk11

/-
  The statement of the law PrimOwn that fills the tree: in whatever order its operations come.
-/
namespace Go.Proofs.YtnhhdjcbifmfgaaDoor
open Go.RowKit Go.Maps

def OpG (ops : Array Oper) (i : Nat) (op : Op) (dst : Option Tmp) (js : List Nat) (g : Nat) (d : Tmp) : Prop := ∃ o, ops[i]? = some o ∧ o.op = op ∧ o.dst = dst ∧ o.guard = some (g, true) ∧ needs o js = true ∧ (ops[g]?).bind (·.dst) = some d
def unguard (ops : Array Oper) (i : Nat) : Array Oper := ops.modify i fun o => { o with guard := none }
theorem OpG.waits {ops : Array Oper} {i g : Nat} {d : Tmp} {op : Op} {dst : Option Tmp} {js : List Nat} (h : OpG ops i op dst js g d) {o : Oper} (ho : ops[i]? = some o) {l : Nat → Bool} (hl : ∀ e ∈ o.after, Region.binds .any e = true → l e.on = true) : ∀ j ∈ js, l j = true := by
  obtain ⟨o', h1, -, -, -, h5, -⟩ := h
  rw [ho] at h1
  cases h1
  intro j hj
  have := List.all_eq_true.1 h5 j hj
  simp only [Array.any_eq_true, Bool.and_eq_true, decide_eq_true_eq] at this
  obtain ⟨k, hk, e1, e2⟩ := this
  rw [← e1]
  exact hl _ (Array.getElem_mem hk) e2
theorem OpG.un {ops : Array Oper} {i g : Nat} {d : Tmp} {op : Op} {dst : Option Tmp} {js : List Nat} (h : OpG ops i op dst js g d) : OpIs (unguard ops i) i op dst [] := by
  obtain ⟨o, h1, h2, h3, -, -, -⟩ := h
  exact ⟨{ o with guard := none }, by simp [unguard, Array.getElem?_modify, h1], h2, h3, rfl, rfl⟩
theorem OpG.via {P : Program} {ops : Array Oper} {Q : Exit → Act → World → Prop} {K : Act → World → Prop} {i g : Nat} {d : Tmp} {op : Op} {dst : Option Tmp} {js : List Nat} {a : Act} {w : World} (h : OpG ops i op dst js g d) (hv : a.eval (.tmp d) = .bool true) (hd : d < a.tmps.size)
    (hk : wpOp P (unguard ops i) Q i K a w) : wpOp P ops Q i K a w := by
  obtain ⟨o, h1, -, -, h4, -, h6⟩ := h
  unfold wpOp at hk ⊢
  rw [h1]
  have e1 : (unguard ops i)[i]? = some { o with guard := none } := by simp [unguard, Array.getElem?_modify, h1]
  rw [e1] at hk
  have e2 : Region.wanted o (yielded ops a.tmps) = true := by
    have ht : a.tmps[d]? = some (.bool true) := by
      rw [Array.getElem?_eq_getElem hd]
      have := hv
      simp only [Act.eval, Array.getD, hd, dif_pos] at this
      exact congrArg some this
    simp only [Region.wanted, h4, yielded]
    rw [h6]
    simp [ht]
  dsimp only at hk ⊢
  rw [if_pos e2]
  rw [if_pos (by rfl)] at hk
  exact hk
def OpN (ops : Array Oper) (i : Nat) (op : Op) (dst : Option Tmp) (js : List Nat) (g : Nat) (d : Tmp) : Prop := ∃ o, ops[i]? = some o ∧ o.op = op ∧ o.dst = dst ∧ o.guard = some (g, false) ∧ needs o js = true ∧ (ops[g]?).bind (·.dst) = some d
theorem OpN.waits {ops : Array Oper} {i g : Nat} {d : Tmp} {op : Op} {dst : Option Tmp} {js : List Nat} (h : OpN ops i op dst js g d) {o : Oper} (ho : ops[i]? = some o) {l : Nat → Bool} (hl : ∀ e ∈ o.after, Region.binds .any e = true → l e.on = true) : ∀ j ∈ js, l j = true := by
  obtain ⟨o', h1, -, -, -, h5, -⟩ := h
  rw [ho] at h1
  cases h1
  intro j hj
  have := List.all_eq_true.1 h5 j hj
  simp only [Array.any_eq_true, Bool.and_eq_true, decide_eq_true_eq] at this
  obtain ⟨k, hk, e1, e2⟩ := this
  rw [← e1]
  exact hl _ (Array.getElem_mem hk) e2
theorem OpN.un {ops : Array Oper} {i g : Nat} {d : Tmp} {op : Op} {dst : Option Tmp} {js : List Nat} (h : OpN ops i op dst js g d) : OpIs (unguard ops i) i op dst [] := by
  obtain ⟨o, h1, h2, h3, -, -, -⟩ := h
  exact ⟨{ o with guard := none }, by simp [unguard, Array.getElem?_modify, h1], h2, h3, rfl, rfl⟩
theorem OpN.via {P : Program} {ops : Array Oper} {Q : Exit → Act → World → Prop} {K : Act → World → Prop} {i g : Nat} {d : Tmp} {op : Op} {dst : Option Tmp} {js : List Nat} {a : Act} {w : World} (h : OpN ops i op dst js g d) (hv : a.eval (.tmp d) = .bool false) (hd : d < a.tmps.size)
    (hk : wpOp P (unguard ops i) Q i K a w) : wpOp P ops Q i K a w := by
  obtain ⟨o, h1, -, -, h4, -, h6⟩ := h
  unfold wpOp at hk ⊢
  rw [h1]
  have e1 : (unguard ops i)[i]? = some { o with guard := none } := by simp [unguard, Array.getElem?_modify, h1]
  rw [e1] at hk
  have e2 : Region.wanted o (yielded ops a.tmps) = true := by
    have ht : a.tmps[d]? = some (.bool false) := by
      rw [Array.getElem?_eq_getElem hd]
      have := hv
      simp only [Act.eval, Array.getD, hd, dif_pos] at this
      exact congrArg some this
    simp only [Region.wanted, h4, yielded]
    rw [h6]
    simp [ht]
  dsimp only at hk ⊢
  rw [if_pos e2]
  rw [if_pos (by rfl)] at hk
  exact hk
section
variable {ops : Array Oper} {Q : Exit → Act → World → Prop} {K : Act → World → Prop} {i : Nat} {dst : Option Tmp} {js : List Nat} {a : Act} {w : World}
theorem OpIs.eqlNilT {k : Tmp} {g : Nat} (h : OpIs ops i (.binOp .eql 32 (.tmp k) (.const (.pointer none)) 32) dst js) (he : a.eval (.tmp k) = .pointer (some ⟨g, 0, none⟩)) (hk : K (a.put dst (.bool false)) w) : wpOp Tryd.prog ops Q i K a w :=
  h.go fun op h1 h2 => by
    have hr : (execOp a.eval op).run Tryd.prog w = .ok (.value (.bool false)) w := by
      clear hk
      unfold execOp
      rw [h1]
      dsimp only
      rw [he]
      go_simp
    unfold Oper.wp
    rw [hr]
    show K _ _
    rw [h2]
    exact hk
theorem OpIs.neqZ {k : Tmp} (h : OpIs ops i (.binOp .neq 34 (.tmp k) (.const (.int .i64 0)) 34) dst js) (he : a.eval (.tmp k) = .int .i64 0) (hk : K (a.put dst (.bool false)) w) : wpOp Tryd.prog ops Q i K a w :=
  h.go fun op h1 h2 => by
    have hr : (execOp a.eval op).run Tryd.prog w = .ok (.value (.bool false)) w := by
      clear hk
      unfold execOp
      rw [h1]
      dsimp only
      rw [he]
      go_simp
    unfold Oper.wp
    rw [hr]
    show K _ _
    rw [h2]
    exact hk
theorem OpIs.pickO {j k : Tmp} {v : Value} (h : OpIs ops i (.pick (.tmp j) (.const (.bool true)) (.tmp k)) dst js) (hj : a.eval (.tmp j) = .bool false) (hv : a.eval (.tmp k) = v) (hk : K (a.put dst (v)) w) : wpOp Tryd.prog ops Q i K a w :=
  h.go fun op h1 h2 => by
    have hr : (execOp a.eval op).run Tryd.prog w = .ok (.value (v)) w := by
      clear hk
      unfold execOp
      rw [h1]
      dsimp only
      rw [hj, hv]
      go_simp
    unfold Oper.wp
    rw [hr]
    show K _ _
    rw [h2]
    exact hk
theorem OpIs.loadO9 {k : Tmp} {g o : Nat} {u : Value} (h : OpIs ops i (.load 9 (.tmp k)) dst js) (he : a.eval (.tmp k) = .pointer (some ⟨g, o, none⟩)) (hc : w.cell? ⟨g, o, none⟩ = some u) (hk : K (a.put dst (u)) w) : wpOp Tryd.prog ops Q i K a w :=
  h.go fun op h1 h2 => by
    have hr : (execOp a.eval op).run Tryd.prog w = .ok (.value (u)) w := by
      clear hk
      unfold execOp
      rw [h1]
      dsimp only
      rw [he]
      go_simp
    unfold Oper.wp
    rw [hr]
    show K _ _
    rw [h2]
    exact hk
theorem OpIs.loadO3 {k : Tmp} {g o : Nat} {u : Value} (h : OpIs ops i (.load 3 (.tmp k)) dst js) (he : a.eval (.tmp k) = .pointer (some ⟨g, o, none⟩)) (hc : w.cell? ⟨g, o, none⟩ = some u) (hk : K (a.put dst (u)) w) : wpOp Tryd.prog ops Q i K a w :=
  h.go fun op h1 h2 => by
    have hr : (execOp a.eval op).run Tryd.prog w = .ok (.value (u)) w := by
      clear hk
      unfold execOp
      rw [h1]
      dsimp only
      rw [he]
      go_simp
    unfold Oper.wp
    rw [hr]
    show K _ _
    rw [h2]
    exact hk
theorem OpIs.loadOL {k : Tmp} {g o : Nat} {u : Value} (h : OpIs ops i (.load 22 (.tmp k)) dst js) (he : a.eval (.tmp k) = .pointer (some ⟨g, o, none⟩)) (hc : w.cell? ⟨g, o, none⟩ = some u) (hk : K (a.put dst (u)) w) : wpOp Tryd.prog ops Q i K a w :=
  h.go fun op h1 h2 => by
    have hr : (execOp a.eval op).run Tryd.prog w = .ok (.value (u)) w := by
      clear hk
      unfold execOp
      rw [h1]
      dsimp only
      rw [he]
      go_simp
    unfold Oper.wp
    rw [hr]
    show K _ _
    rw [h2]
    exact hk
theorem OpIs.fieldO {k : Tmp} {f g : Nat} (h : OpIs ops i (.fieldAddr 24 (.tmp k) f) dst js) (hf : f < 6) (he : a.eval (.tmp k) = .pointer (some ⟨g, 0, none⟩)) (hk : K (a.put dst (.pointer (some ⟨g, f, none⟩))) w) : wpOp Tryd.prog ops Q i K a w :=
  h.go fun op h1 h2 => by
    have hr : (execOp a.eval op).run Tryd.prog w = .ok (.value (.pointer (some ⟨g, f, none⟩))) w := by
      clear hk
      unfold execOp
      rw [h1]
      dsimp only
      rw [he]
      have h4 : f = 0 ∨ f = 1 ∨ f = 2 ∨ f = 3 ∨ f = 4 ∨ f = 5 := by omega
      rcases h4 with rfl | rfl | rfl | rfl | rfl | rfl <;> go_simp
    unfold Oper.wp
    rw [hr]
    show K _ _
    rw [h2]
    exact hk
theorem OpIs.makeL {j : Tmp} {z : Int} {v : Value} {w' : World} (h : OpIs ops i (.makeSlice 22 (.tmp j) (.tmp j)) dst js) (hj : a.eval (.tmp j) = .int .i64 z) (hm : (Instr.makeSlice 22 (.int .i64 z) (.int .i64 z)).run Tryd.prog w = .ok v w') (hk : K (a.put dst v) w') : wpOp Tryd.prog ops Q i K a w :=
  h.go fun op h1 h2 => by
    have hr : (execOp a.eval op).run Tryd.prog w = .ok (.value v) w' := by
      clear hk
      unfold execOp
      rw [h1]
      dsimp only
      rw [hj]
      simp only [Sem.run_bind, hm, Result.andThen_ok]
      rfl
    unfold Oper.wp
    rw [hr]
    show K _ _
    rw [h2]
    exact hk
theorem OpIs.appendG {j k : Tmp} {w0 : World} {v : Value} {olds news : List ByteArray} {A : Option Addr} {m c : Nat} (h : OpIs ops i (.call { callee := .builtin .append, args := #[.tmp j, .tmp k], argTypes := #[22, 22] }) dst js) (hj : a.eval (.tmp j) = v) (hk' : a.eval (.tmp k) = .slice A m c)
    (hown : Own 9 w0 w v olds) (hr : Row w A m news) (hb : olds.length + m ≤ 1000000) (hk : ∀ v' w', Own 9 w0 w' v' (olds ++ news) → K (a.put dst v') w') : wpOp Tryd.prog ops Q i K a w :=
  h.go fun op h1 h2 => by
    obtain ⟨i0, hi, hz0, hz1, hz2⟩ := info_parts Tryd.textInfo
    obtain ⟨v', w', hrun, h3, _⟩ := run_append_row (P := Tryd.prog) 22 op.type i0 Tryd.underlying22 hi hz0 hz1 hz2 hown A m c news hr hb
    unfold Oper.wp execOp
    simp only [h1, resolve, invoke, builtin, Sem.run_bind, Sem.run_pure, Result.andThen_ok, List.map_toArray, List.map_cons, List.map_nil, hj, hk', hrun]
    show K _ _
    rw [h2]
    exact hk v' w' h3
theorem OpIs.call3 {f : FuncId} {k m n : Tmp} {t s r : TypeId} {v u y : Value} {Post : Ending → World → Prop} (h : OpIs ops i (.call { callee := .value (.func f), args := #[.tmp k, .tmp m, .tmp n], argTypes := #[t, s, r] }) dst js) (hf : ∀ args w, (callFunc f args).run Tryd.prog w = .ok (.enter f args) w)
    (he : a.eval (.tmp k) = v) (he2 : a.eval (.tmp m) = u) (he3 : a.eval (.tmp n) = y) (hc : Calls Tryd.prog f #[v, u, y] w Post) (hk : ∀ e w', Post e w' → ∃ r, e = .returned r ∧ K (a.put dst r) w') : wpOp Tryd.prog ops Q i K a w :=
  h.go fun o h1 h2 => by
    have hr : (execOp a.eval o).run Tryd.prog w = .ok (.enter f #[v, u, y]) w := by
      unfold execOp
      rw [h1]
      simp only [resolve, invoke, Sem.run_bind, List.map_toArray, List.map_cons, List.map_nil, he, he2, he3]
      go_simp
    unfold Oper.wp
    rw [hr]
    show Calls _ _ _ _ _
    refine hc.mono ?_
    intro e w' hp
    obtain ⟨r, rfl, hku⟩ := hk e w' hp
    dsimp only
    rw [h2]
    exact hku
end
/-- What the statement has made: the row of empty lines, the row put, the rows of the tree. -/
structure OwD where
  b : Nat
  w10 : World
  va : Value
  v12 : Value
  v13 : Value
def OwSt (w0 wx : World) (gp gz gB : Nat) (cur : Array Value) (x z : PrC) (p B k : Nat) : Nat → OwD → World → Prop
  | 0, _, w => Keep w0 wx w gp gz gB cur x z ∧ TreeAt w p B []
  | 1, _, w => Keep w0 wx w gp gz gB cur x z ∧ TreeAt w p B [(x.v.name, [])]
  | 2, D, w => Keep w0 wx D.w10 gp gz gB cur x z ∧ TreeAt D.w10 p B [(x.v.name, [])] ∧ Own 9 D.w10 w (.slice (some ⟨D.b, 0, none⟩) k k) (List.replicate k ByteArray.empty)
  | 3, D, w => Keep w0 wx D.w10 gp gz gB cur x z ∧ TreeAt D.w10 p B [(x.v.name, [])] ∧ Own 9 D.w10 w D.va (List.replicate k ByteArray.empty ++ x.v.old)
  | 4, D, w => Keep w0 wx w gp gz gB cur x z ∧ w.cell? ⟨p, 0, none⟩ = some (.map (some B)) ∧ FA w B [(x.v.name, (D.v12, filled k x.v.old))]
  | _, D, w => Keep w0 wx w gp gz gB cur x z ∧ w.cell? ⟨p, 0, none⟩ = some (.map (some B)) ∧ FA w B [(x.v.name, (D.v13, spliced (filled k x.v.old) k z.n z.v.new))] ∧ ∀ j, D.v13.ownBlock = some j → wx.heap.size ≤ j
theorem OwSt.keep {w0 wx w : World} {gp gz gB : Nat} {cur : Array Value} {x z : PrC} {p B k n : Nat} {D : OwD} (h : OwSt w0 wx gp gz gB cur x z p B k n D w) : Keep w0 wx w gp gz gB cur x z := by
  match n, h with
  | 0, h => exact h.1
  | 1, h => exact h.1
  | 2, h => exact h.1.on h.2.2.later
  | 3, h => exact h.1.on h.2.2.later
  | 4, h => exact h.1
  | n + 5, h => exact h.1

set_option maxHeartbeats 1600000 in
theorem own_fill {ops : Array Oper} (hn : ops.size = 28) (hg : goesBack ops = true)
    (o0 : OpIs ops 0 (.move (.tmp 6)) (some 85) [])
    (o1 : OpIs ops 1 (.binOp .eql 32 (.tmp 85) (.const (.pointer none)) 32) (some 86) [0])
    (o2 : OpIs ops 2 (.move (.tmp 86)) (some 87) [1])
    (o3 : OpN ops 3 (.move (.tmp 6)) (some 88) [2] 2 87)
    (o4 : OpN ops 4 (.fieldAddr 24 (.tmp 1) 1) (some 89) [2] 2 87)
    (o5 : OpN ops 5 (.load 9 (.tmp 89)) (some 90) [2, 4] 2 87)
    (o6 : OpN ops 6 (.call { callee := .value (.func 11), args := #[.tmp 88, .tmp 90], argTypes := #[32, 9] }) (some 91) [2, 3, 5] 2 87)
    (o7 : OpN ops 7 (.binOp .neq 34 (.tmp 91) (.const (.int .i64 0)) 34) (some 92) [2, 6] 2 87)
    (o8 : OpIs ops 8 (.pick (.tmp 87) (.const (.bool true)) (.tmp 92)) (some 93) [2, 7])
    (o9 : OpIs ops 9 (.move (.tmp 93)) (some 94) [6, 8])
    (o10 : OpN ops 10 (.move (.tmp 6)) (some 95) [9] 9 94)
    (o11 : OpN ops 11 (.fieldAddr 24 (.tmp 1) 1) (some 96) [9] 9 94)
    (o12 : OpN ops 12 (.load 9 (.tmp 96)) (some 97) [9, 11] 9 94)
    (o13 : OpN ops 13 (.fieldAddr 24 (.tmp 1) 3) (some 98) [9] 9 94)
    (o14 : OpN ops 14 (.load 3 (.tmp 98)) (some 99) [9, 13] 9 94)
    (o15 : OpN ops 15 (.makeSlice 22 (.tmp 99) (.tmp 99)) (some 100) [9, 14] 9 94)
    (o16 : OpN ops 16 (.fieldAddr 24 (.tmp 1) 4) (some 101) [9] 9 94)
    (o17 : OpN ops 17 (.load 22 (.tmp 101)) (some 102) [9, 16] 9 94)
    (o18 : OpN ops 18 (.call { callee := .builtin .append, args := #[.tmp 100, .tmp 102], argTypes := #[22, 22] }) (some 103) [9, 15, 17] 9 94)
    (o19 : OpN ops 19 (.call { callee := .value (.func 12), args := #[.tmp 95, .tmp 97, .tmp 103], argTypes := #[32, 9, 22] }) (some 104) [9, 10, 12, 18] 9 94)
    (o20 : OpN ops 20 (.binOp .neq 34 (.tmp 104) (.const (.int .i64 0)) 34) (some 105) [9, 19] 9 94)
    (o21 : OpIs ops 21 (.pick (.tmp 94) (.const (.bool true)) (.tmp 105)) (some 106) [9, 20])
    (o22 : OpIs ops 22 (.move (.tmp 106)) (some 107) [19, 21])
    (o23 : OpN ops 23 (.move (.tmp 6)) (some 108) [22] 22 107)
    (o24 : OpN ops 24 (.load 29 (.tmp 3)) (some 109) [22] 22 107)
    (o25 : OpN ops 25 (.call { callee := .value (.func 13), args := #[.tmp 108, .tmp 109], argTypes := #[32, 29] }) (some 110) [22, 23, 24] 22 107)
    (o26 : OpN ops 26 (.binOp .neq 34 (.tmp 110) (.const (.int .i64 0)) 34) (some 111) [22, 25] 22 107)
    (o27 : OpIs ops 27 (.pick (.tmp 107) (.const (.bool true)) (.tmp 111)) (some 112) [22, 26])
    {a1 : Act} (hs : 128 ≤ a1.tmps.size) {wx w9 : World} {w0 : World} {gp gz gB p B k : Nat} {cur : Array Value} {x z : PrC} (e6 : a1.eval (.tmp 6) = .pointer (some ⟨p, 0, none⟩)) (e1 : a1.eval (.tmp 1) = .pointer (some ⟨gp, 0, none⟩)) (e3 : a1.eval (.tmp 3) = .pointer (some ⟨gz, 0, none⟩)) (hBw : w0.heap.size ≤ B) (hk100 : k ≤ 100) (hxn : x.n ≤ 4000) (h0 : Keep w0 wx w9 gp gz gB cur x z ∧ TreeAt w9 p B [])
    (hadd : ∀ w', TreeAt w' p B [] → Calls Tryd.prog 11 #[.pointer (some ⟨p, 0, none⟩), .string x.v.name] w' (Does ([(x.v.name, [])], 0) p B w'))
    (hmk : ∀ u : World, (Instr.makeSlice 22 (.int .i64 x.v.place) (.int .i64 x.v.place)).run Tryd.prog u = .ok (.slice (some ⟨u.heap.size, 0, none⟩) k k) (u.alloc (.cells (madeCells #[.string ByteArray.empty] k) 9)))
    (hput : ∀ (w10 w11 : World) (va : Value), Keep w0 wx w11 gp gz gB cur x z → TreeAt w11 p B [(x.v.name, [])] → Own 9 w10 w11 va (List.replicate k ByteArray.empty ++ x.v.old) → Hid (Calls Tryd.prog 12 #[.pointer (some ⟨p, 0, none⟩), .string x.v.name, va] w11 (fun e w12 => ∃ v12, e = .returned (.int .i64 0) ∧ w12.cell? ⟨p, 0, none⟩ = some (.map (some B)) ∧ FA w12 B [(x.v.name, (v12, filled k x.v.old))] ∧ (Keep w0 wx w11 gp gz gB cur x z → Keep w0 wx w12 gp gz gB cur x z))))
    (happ : ∀ (w12 : World) (v12 : Value), Keep w0 wx w12 gp gz gB cur x z → w12.cell? ⟨p, 0, none⟩ = some (.map (some B)) → FA w12 B [(x.v.name, (v12, filled k x.v.old))] → Hid (Calls Tryd.prog 13 #[.pointer (some ⟨p, 0, none⟩), prV z] w12 (fun e w13 => ∃ v13, e = .returned (.int .i64 0) ∧ w13.cell? ⟨p, 0, none⟩ = some (.map (some B)) ∧ FA w13 B [(x.v.name, (v13, spliced (filled k x.v.old) k z.n z.v.new))] ∧ (∀ j, v13.ownBlock = some j → wx.heap.size ≤ j) ∧ (Keep w0 wx w12 gp gz gB cur x z → Keep w0 wx w13 gp gz gB cur x z))))
    {Q : Exit → Act → World → Prop} {id : Nat} (hend : ∀ (D : OwD) (a : Act) (w : World), SameOut a1 a [85, 86, 87, 88, 89, 90, 91, 92, 93, 94, 95, 96, 97, 98, 99, 100, 101, 102, 103, 104, 105, 106, 107, 108, 109, 110, 111, 112] → a.eval (.tmp 112) = .bool false → OwSt w0 wx gp gz gB cur x z p B k (5) D w → Q .normal a w) :
    (Code.region id ops true).wp Tryd.prog Q a1 w9 := by
  refine region_inv (by kernel_rfl) hg (fun l a w => ∃ D : OwD, SameOut a1 a [85, 86, 87, 88, 89, 90, 91, 92, 93, 94, 95, 96, 97, 98, 99, 100, 101, 102, 103, 104, 105, 106, 107, 108, 109, 110, 111, 112] ∧ OwSt w0 wx gp gz gB cur x z p B k (if l 25 = true then 5 else (if l 19 = true then 4 else (if l 18 = true then 3 else (if l 15 = true then 2 else (if l 6 = true then 1 else 0))))) D w ∧ (l 0 = true → a.eval (.tmp 85) = .pointer (some ⟨p, 0, none⟩)) ∧ (l 1 = true → a.eval (.tmp 86) = .bool false) ∧ (l 2 = true → a.eval (.tmp 87) = .bool false) ∧ (l 3 = true → a.eval (.tmp 88) = .pointer (some ⟨p, 0, none⟩)) ∧ (l 4 = true → a.eval (.tmp 89) = .pointer (some ⟨gp, 1, none⟩)) ∧ (l 5 = true → a.eval (.tmp 90) = .string x.v.name) ∧ (l 6 = true → a.eval (.tmp 91) = .int .i64 0) ∧ (l 7 = true → a.eval (.tmp 92) = .bool false) ∧ (l 8 = true → a.eval (.tmp 93) = .bool false) ∧ (l 9 = true → a.eval (.tmp 94) = .bool false) ∧ (l 10 = true → a.eval (.tmp 95) = .pointer (some ⟨p, 0, none⟩)) ∧ (l 11 = true → a.eval (.tmp 96) = .pointer (some ⟨gp, 1, none⟩)) ∧ (l 12 = true → a.eval (.tmp 97) = .string x.v.name) ∧ (l 13 = true → a.eval (.tmp 98) = .pointer (some ⟨gp, 3, none⟩)) ∧ (l 14 = true → a.eval (.tmp 99) = .int .i64 x.v.place) ∧ (l 15 = true → a.eval (.tmp 100) = .slice (some ⟨D.b, 0, none⟩) k k) ∧ (l 16 = true → a.eval (.tmp 101) = .pointer (some ⟨gp, 4, none⟩)) ∧ (l 17 = true → a.eval (.tmp 102) = .slice x.A x.n x.c) ∧ (l 18 = true → a.eval (.tmp 103) = D.va) ∧ (l 19 = true → a.eval (.tmp 104) = .int .i64 0) ∧ (l 20 = true → a.eval (.tmp 105) = .bool false) ∧ (l 21 = true → a.eval (.tmp 106) = .bool false) ∧ (l 22 = true → a.eval (.tmp 107) = .bool false) ∧ (l 23 = true → a.eval (.tmp 108) = .pointer (some ⟨p, 0, none⟩)) ∧ (l 24 = true → a.eval (.tmp 109) = prV z) ∧ (l 25 = true → a.eval (.tmp 110) = .int .i64 0) ∧ (l 26 = true → a.eval (.tmp 111) = .bool false) ∧ (l 27 = true → a.eval (.tmp 112) = .bool false) ∧ (l 15 = true → l 6 = true) ∧ (l 18 = true → l 15 = true) ∧ (l 19 = true → l 18 = true) ∧ (l 25 = true → l 19 = true) ∧ (l 9 = true → l 6 = true) ∧ (l 22 = true → l 19 = true)) ?_ ?_ ?_
  · intro l a w i o ho hl hwait ⟨D, so, st, f0, f1, f2, f3, f4, f5, f6, f7, f8, f9, f10, f11, f12, f13, f14, f15, f16, f17, f18, f19, f20, f21, f22, f23, f24, f25, f26, f27, d15_6, d18_15, d19_18, d25_19, d9_6, d22_19⟩
    have hi : i < 28 := by rw [← hn]; exact (Array.getElem?_eq_some_iff.1 ho).1
    have hc : i = 0 ∨ i = 1 ∨ i = 2 ∨ i = 3 ∨ i = 4 ∨ i = 5 ∨ i = 6 ∨ i = 7 ∨ i = 8 ∨ i = 9 ∨ i = 10 ∨ i = 11 ∨ i = 12 ∨ i = 13 ∨ i = 14 ∨ i = 15 ∨ i = 16 ∨ i = 17 ∨ i = 18 ∨ i = 19 ∨ i = 20 ∨ i = 21 ∨ i = 22 ∨ i = 23 ∨ i = 24 ∨ i = 25 ∨ i = 26 ∨ i = 27 := by omega
    rcases hc with rfl | rfl | rfl | rfl | rfl | rfl | rfl | rfl | rfl | rfl | rfl | rfl | rfl | rfl | rfl | rfl | rfl | rfl | rfl | rfl | rfl | rfl | rfl | rfl | rfl | rfl | rfl | rfl
    · have st0 := st
      have ev : a.eval (.tmp 6) = .pointer (some ⟨p, 0, none⟩) := ((show _ = a1.eval _ from by simp only [Act.eval, Array.getD_eq_getD_getElem?, so.out 6 (by decide)]).trans e6)
      refine o0.move ?_
      rw [ev]
      exact ⟨D, (so.put (by decide) _), st, (fun _ => eval_put_same' _ _ _ (by rw [so.size]; show (85 : Nat) < _; omega)), (fun e => (eval_put_other' _ _ (by decide)).trans (f1 e)), (fun e => (eval_put_other' _ _ (by decide)).trans (f2 e)), (fun e => (eval_put_other' _ _ (by decide)).trans (f3 e)), (fun e => (eval_put_other' _ _ (by decide)).trans (f4 e)), (fun e => (eval_put_other' _ _ (by decide)).trans (f5 e)), (fun e => (eval_put_other' _ _ (by decide)).trans (f6 e)), (fun e => (eval_put_other' _ _ (by decide)).trans (f7 e)), (fun e => (eval_put_other' _ _ (by decide)).trans (f8 e)), (fun e => (eval_put_other' _ _ (by decide)).trans (f9 e)), (fun e => (eval_put_other' _ _ (by decide)).trans (f10 e)), (fun e => (eval_put_other' _ _ (by decide)).trans (f11 e)), (fun e => (eval_put_other' _ _ (by decide)).trans (f12 e)), (fun e => (eval_put_other' _ _ (by decide)).trans (f13 e)), (fun e => (eval_put_other' _ _ (by decide)).trans (f14 e)), (fun e => (eval_put_other' _ _ (by decide)).trans (f15 e)), (fun e => (eval_put_other' _ _ (by decide)).trans (f16 e)), (fun e => (eval_put_other' _ _ (by decide)).trans (f17 e)), (fun e => (eval_put_other' _ _ (by decide)).trans (f18 e)), (fun e => (eval_put_other' _ _ (by decide)).trans (f19 e)), (fun e => (eval_put_other' _ _ (by decide)).trans (f20 e)), (fun e => (eval_put_other' _ _ (by decide)).trans (f21 e)), (fun e => (eval_put_other' _ _ (by decide)).trans (f22 e)), (fun e => (eval_put_other' _ _ (by decide)).trans (f23 e)), (fun e => (eval_put_other' _ _ (by decide)).trans (f24 e)), (fun e => (eval_put_other' _ _ (by decide)).trans (f25 e)), (fun e => (eval_put_other' _ _ (by decide)).trans (f26 e)), (fun e => (eval_put_other' _ _ (by decide)).trans (f27 e)), d15_6, d18_15, d19_18, d25_19, d9_6, d22_19⟩
    · have ws := o1.waits ho hwait
      have w0 := ws 0 (by simp)
      have st0 := st
      refine o1.eqlNilT (f0 w0) ?_
      exact ⟨D, (so.put (by decide) _), st, (fun e => (eval_put_other' _ _ (by decide)).trans (f0 e)), (fun _ => eval_put_same' _ _ _ (by rw [so.size]; show (86 : Nat) < _; omega)), (fun e => (eval_put_other' _ _ (by decide)).trans (f2 e)), (fun e => (eval_put_other' _ _ (by decide)).trans (f3 e)), (fun e => (eval_put_other' _ _ (by decide)).trans (f4 e)), (fun e => (eval_put_other' _ _ (by decide)).trans (f5 e)), (fun e => (eval_put_other' _ _ (by decide)).trans (f6 e)), (fun e => (eval_put_other' _ _ (by decide)).trans (f7 e)), (fun e => (eval_put_other' _ _ (by decide)).trans (f8 e)), (fun e => (eval_put_other' _ _ (by decide)).trans (f9 e)), (fun e => (eval_put_other' _ _ (by decide)).trans (f10 e)), (fun e => (eval_put_other' _ _ (by decide)).trans (f11 e)), (fun e => (eval_put_other' _ _ (by decide)).trans (f12 e)), (fun e => (eval_put_other' _ _ (by decide)).trans (f13 e)), (fun e => (eval_put_other' _ _ (by decide)).trans (f14 e)), (fun e => (eval_put_other' _ _ (by decide)).trans (f15 e)), (fun e => (eval_put_other' _ _ (by decide)).trans (f16 e)), (fun e => (eval_put_other' _ _ (by decide)).trans (f17 e)), (fun e => (eval_put_other' _ _ (by decide)).trans (f18 e)), (fun e => (eval_put_other' _ _ (by decide)).trans (f19 e)), (fun e => (eval_put_other' _ _ (by decide)).trans (f20 e)), (fun e => (eval_put_other' _ _ (by decide)).trans (f21 e)), (fun e => (eval_put_other' _ _ (by decide)).trans (f22 e)), (fun e => (eval_put_other' _ _ (by decide)).trans (f23 e)), (fun e => (eval_put_other' _ _ (by decide)).trans (f24 e)), (fun e => (eval_put_other' _ _ (by decide)).trans (f25 e)), (fun e => (eval_put_other' _ _ (by decide)).trans (f26 e)), (fun e => (eval_put_other' _ _ (by decide)).trans (f27 e)), d15_6, d18_15, d19_18, d25_19, d9_6, d22_19⟩
    · have ws := o2.waits ho hwait
      have w1 := ws 1 (by simp)
      have st0 := st
      refine o2.move ?_
      rw [f1 w1]
      exact ⟨D, (so.put (by decide) _), st, (fun e => (eval_put_other' _ _ (by decide)).trans (f0 e)), (fun e => (eval_put_other' _ _ (by decide)).trans (f1 e)), (fun _ => eval_put_same' _ _ _ (by rw [so.size]; show (87 : Nat) < _; omega)), (fun e => (eval_put_other' _ _ (by decide)).trans (f3 e)), (fun e => (eval_put_other' _ _ (by decide)).trans (f4 e)), (fun e => (eval_put_other' _ _ (by decide)).trans (f5 e)), (fun e => (eval_put_other' _ _ (by decide)).trans (f6 e)), (fun e => (eval_put_other' _ _ (by decide)).trans (f7 e)), (fun e => (eval_put_other' _ _ (by decide)).trans (f8 e)), (fun e => (eval_put_other' _ _ (by decide)).trans (f9 e)), (fun e => (eval_put_other' _ _ (by decide)).trans (f10 e)), (fun e => (eval_put_other' _ _ (by decide)).trans (f11 e)), (fun e => (eval_put_other' _ _ (by decide)).trans (f12 e)), (fun e => (eval_put_other' _ _ (by decide)).trans (f13 e)), (fun e => (eval_put_other' _ _ (by decide)).trans (f14 e)), (fun e => (eval_put_other' _ _ (by decide)).trans (f15 e)), (fun e => (eval_put_other' _ _ (by decide)).trans (f16 e)), (fun e => (eval_put_other' _ _ (by decide)).trans (f17 e)), (fun e => (eval_put_other' _ _ (by decide)).trans (f18 e)), (fun e => (eval_put_other' _ _ (by decide)).trans (f19 e)), (fun e => (eval_put_other' _ _ (by decide)).trans (f20 e)), (fun e => (eval_put_other' _ _ (by decide)).trans (f21 e)), (fun e => (eval_put_other' _ _ (by decide)).trans (f22 e)), (fun e => (eval_put_other' _ _ (by decide)).trans (f23 e)), (fun e => (eval_put_other' _ _ (by decide)).trans (f24 e)), (fun e => (eval_put_other' _ _ (by decide)).trans (f25 e)), (fun e => (eval_put_other' _ _ (by decide)).trans (f26 e)), (fun e => (eval_put_other' _ _ (by decide)).trans (f27 e)), d15_6, d18_15, d19_18, d25_19, d9_6, d22_19⟩
    · have ws := o3.waits ho hwait
      have w2 := ws 2 (by simp)
      have st0 := st
      refine o3.via (f2 w2) (by rw [so.size]; show (87 : Nat) < _; omega) ?_
      have ev : a.eval (.tmp 6) = .pointer (some ⟨p, 0, none⟩) := ((show _ = a1.eval _ from by simp only [Act.eval, Array.getD_eq_getD_getElem?, so.out 6 (by decide)]).trans e6)
      refine o3.un.move ?_
      rw [ev]
      exact ⟨D, (so.put (by decide) _), st, (fun e => (eval_put_other' _ _ (by decide)).trans (f0 e)), (fun e => (eval_put_other' _ _ (by decide)).trans (f1 e)), (fun e => (eval_put_other' _ _ (by decide)).trans (f2 e)), (fun _ => eval_put_same' _ _ _ (by rw [so.size]; show (88 : Nat) < _; omega)), (fun e => (eval_put_other' _ _ (by decide)).trans (f4 e)), (fun e => (eval_put_other' _ _ (by decide)).trans (f5 e)), (fun e => (eval_put_other' _ _ (by decide)).trans (f6 e)), (fun e => (eval_put_other' _ _ (by decide)).trans (f7 e)), (fun e => (eval_put_other' _ _ (by decide)).trans (f8 e)), (fun e => (eval_put_other' _ _ (by decide)).trans (f9 e)), (fun e => (eval_put_other' _ _ (by decide)).trans (f10 e)), (fun e => (eval_put_other' _ _ (by decide)).trans (f11 e)), (fun e => (eval_put_other' _ _ (by decide)).trans (f12 e)), (fun e => (eval_put_other' _ _ (by decide)).trans (f13 e)), (fun e => (eval_put_other' _ _ (by decide)).trans (f14 e)), (fun e => (eval_put_other' _ _ (by decide)).trans (f15 e)), (fun e => (eval_put_other' _ _ (by decide)).trans (f16 e)), (fun e => (eval_put_other' _ _ (by decide)).trans (f17 e)), (fun e => (eval_put_other' _ _ (by decide)).trans (f18 e)), (fun e => (eval_put_other' _ _ (by decide)).trans (f19 e)), (fun e => (eval_put_other' _ _ (by decide)).trans (f20 e)), (fun e => (eval_put_other' _ _ (by decide)).trans (f21 e)), (fun e => (eval_put_other' _ _ (by decide)).trans (f22 e)), (fun e => (eval_put_other' _ _ (by decide)).trans (f23 e)), (fun e => (eval_put_other' _ _ (by decide)).trans (f24 e)), (fun e => (eval_put_other' _ _ (by decide)).trans (f25 e)), (fun e => (eval_put_other' _ _ (by decide)).trans (f26 e)), (fun e => (eval_put_other' _ _ (by decide)).trans (f27 e)), d15_6, d18_15, d19_18, d25_19, d9_6, d22_19⟩
    · have ws := o4.waits ho hwait
      have w2 := ws 2 (by simp)
      have st0 := st
      refine o4.via (f2 w2) (by rw [so.size]; show (87 : Nat) < _; omega) ?_
      refine o4.un.fieldO (by decide) ((show _ = a1.eval _ from by simp only [Act.eval, Array.getD_eq_getD_getElem?, so.out 1 (by decide)]).trans e1) ?_
      exact ⟨D, (so.put (by decide) _), st, (fun e => (eval_put_other' _ _ (by decide)).trans (f0 e)), (fun e => (eval_put_other' _ _ (by decide)).trans (f1 e)), (fun e => (eval_put_other' _ _ (by decide)).trans (f2 e)), (fun e => (eval_put_other' _ _ (by decide)).trans (f3 e)), (fun _ => eval_put_same' _ _ _ (by rw [so.size]; show (89 : Nat) < _; omega)), (fun e => (eval_put_other' _ _ (by decide)).trans (f5 e)), (fun e => (eval_put_other' _ _ (by decide)).trans (f6 e)), (fun e => (eval_put_other' _ _ (by decide)).trans (f7 e)), (fun e => (eval_put_other' _ _ (by decide)).trans (f8 e)), (fun e => (eval_put_other' _ _ (by decide)).trans (f9 e)), (fun e => (eval_put_other' _ _ (by decide)).trans (f10 e)), (fun e => (eval_put_other' _ _ (by decide)).trans (f11 e)), (fun e => (eval_put_other' _ _ (by decide)).trans (f12 e)), (fun e => (eval_put_other' _ _ (by decide)).trans (f13 e)), (fun e => (eval_put_other' _ _ (by decide)).trans (f14 e)), (fun e => (eval_put_other' _ _ (by decide)).trans (f15 e)), (fun e => (eval_put_other' _ _ (by decide)).trans (f16 e)), (fun e => (eval_put_other' _ _ (by decide)).trans (f17 e)), (fun e => (eval_put_other' _ _ (by decide)).trans (f18 e)), (fun e => (eval_put_other' _ _ (by decide)).trans (f19 e)), (fun e => (eval_put_other' _ _ (by decide)).trans (f20 e)), (fun e => (eval_put_other' _ _ (by decide)).trans (f21 e)), (fun e => (eval_put_other' _ _ (by decide)).trans (f22 e)), (fun e => (eval_put_other' _ _ (by decide)).trans (f23 e)), (fun e => (eval_put_other' _ _ (by decide)).trans (f24 e)), (fun e => (eval_put_other' _ _ (by decide)).trans (f25 e)), (fun e => (eval_put_other' _ _ (by decide)).trans (f26 e)), (fun e => (eval_put_other' _ _ (by decide)).trans (f27 e)), d15_6, d18_15, d19_18, d25_19, d9_6, d22_19⟩
    · have ws := o5.waits ho hwait
      have w2 := ws 2 (by simp)
      have w4 := ws 4 (by simp)
      have st0 := st
      refine o5.via (f2 w2) (by rw [so.size]; show (87 : Nat) < _; omega) ?_
      refine o5.un.loadO9 (f4 w4) ((OwSt.keep st).bp.cell rfl) ?_
      exact ⟨D, (so.put (by decide) _), st, (fun e => (eval_put_other' _ _ (by decide)).trans (f0 e)), (fun e => (eval_put_other' _ _ (by decide)).trans (f1 e)), (fun e => (eval_put_other' _ _ (by decide)).trans (f2 e)), (fun e => (eval_put_other' _ _ (by decide)).trans (f3 e)), (fun e => (eval_put_other' _ _ (by decide)).trans (f4 e)), (fun _ => eval_put_same' _ _ _ (by rw [so.size]; show (90 : Nat) < _; omega)), (fun e => (eval_put_other' _ _ (by decide)).trans (f6 e)), (fun e => (eval_put_other' _ _ (by decide)).trans (f7 e)), (fun e => (eval_put_other' _ _ (by decide)).trans (f8 e)), (fun e => (eval_put_other' _ _ (by decide)).trans (f9 e)), (fun e => (eval_put_other' _ _ (by decide)).trans (f10 e)), (fun e => (eval_put_other' _ _ (by decide)).trans (f11 e)), (fun e => (eval_put_other' _ _ (by decide)).trans (f12 e)), (fun e => (eval_put_other' _ _ (by decide)).trans (f13 e)), (fun e => (eval_put_other' _ _ (by decide)).trans (f14 e)), (fun e => (eval_put_other' _ _ (by decide)).trans (f15 e)), (fun e => (eval_put_other' _ _ (by decide)).trans (f16 e)), (fun e => (eval_put_other' _ _ (by decide)).trans (f17 e)), (fun e => (eval_put_other' _ _ (by decide)).trans (f18 e)), (fun e => (eval_put_other' _ _ (by decide)).trans (f19 e)), (fun e => (eval_put_other' _ _ (by decide)).trans (f20 e)), (fun e => (eval_put_other' _ _ (by decide)).trans (f21 e)), (fun e => (eval_put_other' _ _ (by decide)).trans (f22 e)), (fun e => (eval_put_other' _ _ (by decide)).trans (f23 e)), (fun e => (eval_put_other' _ _ (by decide)).trans (f24 e)), (fun e => (eval_put_other' _ _ (by decide)).trans (f25 e)), (fun e => (eval_put_other' _ _ (by decide)).trans (f26 e)), (fun e => (eval_put_other' _ _ (by decide)).trans (f27 e)), d15_6, d18_15, d19_18, d25_19, d9_6, d22_19⟩
    · have ws := o6.waits ho hwait
      have w2 := ws 2 (by simp)
      have w3 := ws 3 (by simp)
      have w5 := ws 5 (by simp)
      have n15 : l 15 = false := by cases hx : l 15 with | false => rfl | true => have := d15_6 hx; rw [hl] at this; cases this
      have n18 : l 18 = false := by cases hx : l 18 with | false => rfl | true => have := d18_15 hx; rw [n15] at this; cases this
      have n19 : l 19 = false := by cases hx : l 19 with | false => rfl | true => have := d19_18 hx; rw [n18] at this; cases this
      have n25 : l 25 = false := by cases hx : l 25 with | false => rfl | true => have := d25_19 hx; rw [n19] at this; cases this
      have n9 : l 9 = false := by cases hx : l 9 with | false => rfl | true => have := d9_6 hx; rw [hl] at this; cases this
      have n22 : l 22 = false := by cases hx : l 22 with | false => rfl | true => have := d22_19 hx; rw [n19] at this; cases this
      have st0 : OwSt w0 wx gp gz gB cur x z p B k 0 D w := by
        have hst := st
        simp only [hl, n15, n18, n19, n25, Bool.false_eq_true, if_false] at hst
        exact hst
      refine o6.via (f2 w2) (by rw [so.size]; show (87 : Nat) < _; omega) ?_
      obtain ⟨hK, hT⟩ := st0
      refine o6.un.call2 (enters_of Tryd.func11 (by kernel_rfl) rfl) (f3 w3) (f5 w5) (hadd w hT) ?_
      rintro e w' ⟨rfl, ht', hg'⟩
      have st1 : OwSt w0 wx gp gz gB cur x z p B k 1 D w' := ⟨keep_tree hK (Later.refl w) hT hg' hBw, ht'⟩
      have st2 : OwSt w0 wx gp gz gB cur x z p B k (if (more l 6) 25 = true then 5 else (if (more l 6) 19 = true then 4 else (if (more l 6) 18 = true then 3 else (if (more l 6) 15 = true then 2 else (if (more l 6) 6 = true then 1 else 0))))) (D) w' := by
        rw [if_neg (show ¬ (more l 6 25 = true) from by rw [show more l 6 25 = l 25 from rfl, n25]; simp), if_neg (show ¬ (more l 6 19 = true) from by rw [show more l 6 19 = l 19 from rfl, n19]; simp), if_neg (show ¬ (more l 6 18 = true) from by rw [show more l 6 18 = l 18 from rfl, n18]; simp), if_neg (show ¬ (more l 6 15 = true) from by rw [show more l 6 15 = l 15 from rfl, n15]; simp), if_pos (show more l 6 6 = true from rfl)]
        exact st1
      exact ⟨_, rfl, ⟨D, (so.put (by decide) _), st2, (fun e => (eval_put_other' _ _ (by decide)).trans (f0 e)), (fun e => (eval_put_other' _ _ (by decide)).trans (f1 e)), (fun e => (eval_put_other' _ _ (by decide)).trans (f2 e)), (fun e => (eval_put_other' _ _ (by decide)).trans (f3 e)), (fun e => (eval_put_other' _ _ (by decide)).trans (f4 e)), (fun e => (eval_put_other' _ _ (by decide)).trans (f5 e)), (fun _ => eval_put_same' _ _ _ (by rw [so.size]; show (91 : Nat) < _; omega)), (fun e => (eval_put_other' _ _ (by decide)).trans (f7 e)), (fun e => (eval_put_other' _ _ (by decide)).trans (f8 e)), (fun e => by rw [show more l 6 9 = l 9 from rfl, n9] at e; cases e), (fun e => (eval_put_other' _ _ (by decide)).trans (f10 e)), (fun e => (eval_put_other' _ _ (by decide)).trans (f11 e)), (fun e => (eval_put_other' _ _ (by decide)).trans (f12 e)), (fun e => (eval_put_other' _ _ (by decide)).trans (f13 e)), (fun e => (eval_put_other' _ _ (by decide)).trans (f14 e)), (fun e => by rw [show more l 6 15 = l 15 from rfl, n15] at e; cases e), (fun e => (eval_put_other' _ _ (by decide)).trans (f16 e)), (fun e => (eval_put_other' _ _ (by decide)).trans (f17 e)), (fun e => by rw [show more l 6 18 = l 18 from rfl, n18] at e; cases e), (fun e => by rw [show more l 6 19 = l 19 from rfl, n19] at e; cases e), (fun e => (eval_put_other' _ _ (by decide)).trans (f20 e)), (fun e => (eval_put_other' _ _ (by decide)).trans (f21 e)), (fun e => by rw [show more l 6 22 = l 22 from rfl, n22] at e; cases e), (fun e => (eval_put_other' _ _ (by decide)).trans (f23 e)), (fun e => (eval_put_other' _ _ (by decide)).trans (f24 e)), (fun e => by rw [show more l 6 25 = l 25 from rfl, n25] at e; cases e), (fun e => (eval_put_other' _ _ (by decide)).trans (f26 e)), (fun e => (eval_put_other' _ _ (by decide)).trans (f27 e)), (fun _ => rfl), d18_15, d19_18, d25_19, (fun _ => rfl), d22_19⟩⟩
    · have ws := o7.waits ho hwait
      have w2 := ws 2 (by simp)
      have w6 := ws 6 (by simp)
      have st0 := st
      refine o7.via (f2 w2) (by rw [so.size]; show (87 : Nat) < _; omega) ?_
      refine o7.un.neqZ (f6 w6) ?_
      exact ⟨D, (so.put (by decide) _), st, (fun e => (eval_put_other' _ _ (by decide)).trans (f0 e)), (fun e => (eval_put_other' _ _ (by decide)).trans (f1 e)), (fun e => (eval_put_other' _ _ (by decide)).trans (f2 e)), (fun e => (eval_put_other' _ _ (by decide)).trans (f3 e)), (fun e => (eval_put_other' _ _ (by decide)).trans (f4 e)), (fun e => (eval_put_other' _ _ (by decide)).trans (f5 e)), (fun e => (eval_put_other' _ _ (by decide)).trans (f6 e)), (fun _ => eval_put_same' _ _ _ (by rw [so.size]; show (92 : Nat) < _; omega)), (fun e => (eval_put_other' _ _ (by decide)).trans (f8 e)), (fun e => (eval_put_other' _ _ (by decide)).trans (f9 e)), (fun e => (eval_put_other' _ _ (by decide)).trans (f10 e)), (fun e => (eval_put_other' _ _ (by decide)).trans (f11 e)), (fun e => (eval_put_other' _ _ (by decide)).trans (f12 e)), (fun e => (eval_put_other' _ _ (by decide)).trans (f13 e)), (fun e => (eval_put_other' _ _ (by decide)).trans (f14 e)), (fun e => (eval_put_other' _ _ (by decide)).trans (f15 e)), (fun e => (eval_put_other' _ _ (by decide)).trans (f16 e)), (fun e => (eval_put_other' _ _ (by decide)).trans (f17 e)), (fun e => (eval_put_other' _ _ (by decide)).trans (f18 e)), (fun e => (eval_put_other' _ _ (by decide)).trans (f19 e)), (fun e => (eval_put_other' _ _ (by decide)).trans (f20 e)), (fun e => (eval_put_other' _ _ (by decide)).trans (f21 e)), (fun e => (eval_put_other' _ _ (by decide)).trans (f22 e)), (fun e => (eval_put_other' _ _ (by decide)).trans (f23 e)), (fun e => (eval_put_other' _ _ (by decide)).trans (f24 e)), (fun e => (eval_put_other' _ _ (by decide)).trans (f25 e)), (fun e => (eval_put_other' _ _ (by decide)).trans (f26 e)), (fun e => (eval_put_other' _ _ (by decide)).trans (f27 e)), d15_6, d18_15, d19_18, d25_19, d9_6, d22_19⟩
    · have ws := o8.waits ho hwait
      have w2 := ws 2 (by simp)
      have w7 := ws 7 (by simp)
      have st0 := st
      refine o8.pickO (f2 w2) (f7 w7) ?_
      exact ⟨D, (so.put (by decide) _), st, (fun e => (eval_put_other' _ _ (by decide)).trans (f0 e)), (fun e => (eval_put_other' _ _ (by decide)).trans (f1 e)), (fun e => (eval_put_other' _ _ (by decide)).trans (f2 e)), (fun e => (eval_put_other' _ _ (by decide)).trans (f3 e)), (fun e => (eval_put_other' _ _ (by decide)).trans (f4 e)), (fun e => (eval_put_other' _ _ (by decide)).trans (f5 e)), (fun e => (eval_put_other' _ _ (by decide)).trans (f6 e)), (fun e => (eval_put_other' _ _ (by decide)).trans (f7 e)), (fun _ => eval_put_same' _ _ _ (by rw [so.size]; show (93 : Nat) < _; omega)), (fun e => (eval_put_other' _ _ (by decide)).trans (f9 e)), (fun e => (eval_put_other' _ _ (by decide)).trans (f10 e)), (fun e => (eval_put_other' _ _ (by decide)).trans (f11 e)), (fun e => (eval_put_other' _ _ (by decide)).trans (f12 e)), (fun e => (eval_put_other' _ _ (by decide)).trans (f13 e)), (fun e => (eval_put_other' _ _ (by decide)).trans (f14 e)), (fun e => (eval_put_other' _ _ (by decide)).trans (f15 e)), (fun e => (eval_put_other' _ _ (by decide)).trans (f16 e)), (fun e => (eval_put_other' _ _ (by decide)).trans (f17 e)), (fun e => (eval_put_other' _ _ (by decide)).trans (f18 e)), (fun e => (eval_put_other' _ _ (by decide)).trans (f19 e)), (fun e => (eval_put_other' _ _ (by decide)).trans (f20 e)), (fun e => (eval_put_other' _ _ (by decide)).trans (f21 e)), (fun e => (eval_put_other' _ _ (by decide)).trans (f22 e)), (fun e => (eval_put_other' _ _ (by decide)).trans (f23 e)), (fun e => (eval_put_other' _ _ (by decide)).trans (f24 e)), (fun e => (eval_put_other' _ _ (by decide)).trans (f25 e)), (fun e => (eval_put_other' _ _ (by decide)).trans (f26 e)), (fun e => (eval_put_other' _ _ (by decide)).trans (f27 e)), d15_6, d18_15, d19_18, d25_19, d9_6, d22_19⟩
    · have ws := o9.waits ho hwait
      have w6 := ws 6 (by simp)
      have w8 := ws 8 (by simp)
      have st0 := st
      refine o9.move ?_
      rw [f8 w8]
      exact ⟨D, (so.put (by decide) _), st, (fun e => (eval_put_other' _ _ (by decide)).trans (f0 e)), (fun e => (eval_put_other' _ _ (by decide)).trans (f1 e)), (fun e => (eval_put_other' _ _ (by decide)).trans (f2 e)), (fun e => (eval_put_other' _ _ (by decide)).trans (f3 e)), (fun e => (eval_put_other' _ _ (by decide)).trans (f4 e)), (fun e => (eval_put_other' _ _ (by decide)).trans (f5 e)), (fun e => (eval_put_other' _ _ (by decide)).trans (f6 e)), (fun e => (eval_put_other' _ _ (by decide)).trans (f7 e)), (fun e => (eval_put_other' _ _ (by decide)).trans (f8 e)), (fun _ => eval_put_same' _ _ _ (by rw [so.size]; show (94 : Nat) < _; omega)), (fun e => (eval_put_other' _ _ (by decide)).trans (f10 e)), (fun e => (eval_put_other' _ _ (by decide)).trans (f11 e)), (fun e => (eval_put_other' _ _ (by decide)).trans (f12 e)), (fun e => (eval_put_other' _ _ (by decide)).trans (f13 e)), (fun e => (eval_put_other' _ _ (by decide)).trans (f14 e)), (fun e => (eval_put_other' _ _ (by decide)).trans (f15 e)), (fun e => (eval_put_other' _ _ (by decide)).trans (f16 e)), (fun e => (eval_put_other' _ _ (by decide)).trans (f17 e)), (fun e => (eval_put_other' _ _ (by decide)).trans (f18 e)), (fun e => (eval_put_other' _ _ (by decide)).trans (f19 e)), (fun e => (eval_put_other' _ _ (by decide)).trans (f20 e)), (fun e => (eval_put_other' _ _ (by decide)).trans (f21 e)), (fun e => (eval_put_other' _ _ (by decide)).trans (f22 e)), (fun e => (eval_put_other' _ _ (by decide)).trans (f23 e)), (fun e => (eval_put_other' _ _ (by decide)).trans (f24 e)), (fun e => (eval_put_other' _ _ (by decide)).trans (f25 e)), (fun e => (eval_put_other' _ _ (by decide)).trans (f26 e)), (fun e => (eval_put_other' _ _ (by decide)).trans (f27 e)), d15_6, d18_15, d19_18, d25_19, (fun _ => w6), d22_19⟩
    · have ws := o10.waits ho hwait
      have w9 := ws 9 (by simp)
      have w6 := d9_6 w9
      have st0 := st
      refine o10.via (f9 w9) (by rw [so.size]; show (94 : Nat) < _; omega) ?_
      have ev : a.eval (.tmp 6) = .pointer (some ⟨p, 0, none⟩) := ((show _ = a1.eval _ from by simp only [Act.eval, Array.getD_eq_getD_getElem?, so.out 6 (by decide)]).trans e6)
      refine o10.un.move ?_
      rw [ev]
      exact ⟨D, (so.put (by decide) _), st, (fun e => (eval_put_other' _ _ (by decide)).trans (f0 e)), (fun e => (eval_put_other' _ _ (by decide)).trans (f1 e)), (fun e => (eval_put_other' _ _ (by decide)).trans (f2 e)), (fun e => (eval_put_other' _ _ (by decide)).trans (f3 e)), (fun e => (eval_put_other' _ _ (by decide)).trans (f4 e)), (fun e => (eval_put_other' _ _ (by decide)).trans (f5 e)), (fun e => (eval_put_other' _ _ (by decide)).trans (f6 e)), (fun e => (eval_put_other' _ _ (by decide)).trans (f7 e)), (fun e => (eval_put_other' _ _ (by decide)).trans (f8 e)), (fun e => (eval_put_other' _ _ (by decide)).trans (f9 e)), (fun _ => eval_put_same' _ _ _ (by rw [so.size]; show (95 : Nat) < _; omega)), (fun e => (eval_put_other' _ _ (by decide)).trans (f11 e)), (fun e => (eval_put_other' _ _ (by decide)).trans (f12 e)), (fun e => (eval_put_other' _ _ (by decide)).trans (f13 e)), (fun e => (eval_put_other' _ _ (by decide)).trans (f14 e)), (fun e => (eval_put_other' _ _ (by decide)).trans (f15 e)), (fun e => (eval_put_other' _ _ (by decide)).trans (f16 e)), (fun e => (eval_put_other' _ _ (by decide)).trans (f17 e)), (fun e => (eval_put_other' _ _ (by decide)).trans (f18 e)), (fun e => (eval_put_other' _ _ (by decide)).trans (f19 e)), (fun e => (eval_put_other' _ _ (by decide)).trans (f20 e)), (fun e => (eval_put_other' _ _ (by decide)).trans (f21 e)), (fun e => (eval_put_other' _ _ (by decide)).trans (f22 e)), (fun e => (eval_put_other' _ _ (by decide)).trans (f23 e)), (fun e => (eval_put_other' _ _ (by decide)).trans (f24 e)), (fun e => (eval_put_other' _ _ (by decide)).trans (f25 e)), (fun e => (eval_put_other' _ _ (by decide)).trans (f26 e)), (fun e => (eval_put_other' _ _ (by decide)).trans (f27 e)), d15_6, d18_15, d19_18, d25_19, d9_6, d22_19⟩
    · have ws := o11.waits ho hwait
      have w9 := ws 9 (by simp)
      have w6 := d9_6 w9
      have st0 := st
      refine o11.via (f9 w9) (by rw [so.size]; show (94 : Nat) < _; omega) ?_
      refine o11.un.fieldO (by decide) ((show _ = a1.eval _ from by simp only [Act.eval, Array.getD_eq_getD_getElem?, so.out 1 (by decide)]).trans e1) ?_
      exact ⟨D, (so.put (by decide) _), st, (fun e => (eval_put_other' _ _ (by decide)).trans (f0 e)), (fun e => (eval_put_other' _ _ (by decide)).trans (f1 e)), (fun e => (eval_put_other' _ _ (by decide)).trans (f2 e)), (fun e => (eval_put_other' _ _ (by decide)).trans (f3 e)), (fun e => (eval_put_other' _ _ (by decide)).trans (f4 e)), (fun e => (eval_put_other' _ _ (by decide)).trans (f5 e)), (fun e => (eval_put_other' _ _ (by decide)).trans (f6 e)), (fun e => (eval_put_other' _ _ (by decide)).trans (f7 e)), (fun e => (eval_put_other' _ _ (by decide)).trans (f8 e)), (fun e => (eval_put_other' _ _ (by decide)).trans (f9 e)), (fun e => (eval_put_other' _ _ (by decide)).trans (f10 e)), (fun _ => eval_put_same' _ _ _ (by rw [so.size]; show (96 : Nat) < _; omega)), (fun e => (eval_put_other' _ _ (by decide)).trans (f12 e)), (fun e => (eval_put_other' _ _ (by decide)).trans (f13 e)), (fun e => (eval_put_other' _ _ (by decide)).trans (f14 e)), (fun e => (eval_put_other' _ _ (by decide)).trans (f15 e)), (fun e => (eval_put_other' _ _ (by decide)).trans (f16 e)), (fun e => (eval_put_other' _ _ (by decide)).trans (f17 e)), (fun e => (eval_put_other' _ _ (by decide)).trans (f18 e)), (fun e => (eval_put_other' _ _ (by decide)).trans (f19 e)), (fun e => (eval_put_other' _ _ (by decide)).trans (f20 e)), (fun e => (eval_put_other' _ _ (by decide)).trans (f21 e)), (fun e => (eval_put_other' _ _ (by decide)).trans (f22 e)), (fun e => (eval_put_other' _ _ (by decide)).trans (f23 e)), (fun e => (eval_put_other' _ _ (by decide)).trans (f24 e)), (fun e => (eval_put_other' _ _ (by decide)).trans (f25 e)), (fun e => (eval_put_other' _ _ (by decide)).trans (f26 e)), (fun e => (eval_put_other' _ _ (by decide)).trans (f27 e)), d15_6, d18_15, d19_18, d25_19, d9_6, d22_19⟩
    · have ws := o12.waits ho hwait
      have w9 := ws 9 (by simp)
      have w11 := ws 11 (by simp)
      have w6 := d9_6 w9
      have st0 := st
      refine o12.via (f9 w9) (by rw [so.size]; show (94 : Nat) < _; omega) ?_
      refine o12.un.loadO9 (f11 w11) ((OwSt.keep st).bp.cell rfl) ?_
      exact ⟨D, (so.put (by decide) _), st, (fun e => (eval_put_other' _ _ (by decide)).trans (f0 e)), (fun e => (eval_put_other' _ _ (by decide)).trans (f1 e)), (fun e => (eval_put_other' _ _ (by decide)).trans (f2 e)), (fun e => (eval_put_other' _ _ (by decide)).trans (f3 e)), (fun e => (eval_put_other' _ _ (by decide)).trans (f4 e)), (fun e => (eval_put_other' _ _ (by decide)).trans (f5 e)), (fun e => (eval_put_other' _ _ (by decide)).trans (f6 e)), (fun e => (eval_put_other' _ _ (by decide)).trans (f7 e)), (fun e => (eval_put_other' _ _ (by decide)).trans (f8 e)), (fun e => (eval_put_other' _ _ (by decide)).trans (f9 e)), (fun e => (eval_put_other' _ _ (by decide)).trans (f10 e)), (fun e => (eval_put_other' _ _ (by decide)).trans (f11 e)), (fun _ => eval_put_same' _ _ _ (by rw [so.size]; show (97 : Nat) < _; omega)), (fun e => (eval_put_other' _ _ (by decide)).trans (f13 e)), (fun e => (eval_put_other' _ _ (by decide)).trans (f14 e)), (fun e => (eval_put_other' _ _ (by decide)).trans (f15 e)), (fun e => (eval_put_other' _ _ (by decide)).trans (f16 e)), (fun e => (eval_put_other' _ _ (by decide)).trans (f17 e)), (fun e => (eval_put_other' _ _ (by decide)).trans (f18 e)), (fun e => (eval_put_other' _ _ (by decide)).trans (f19 e)), (fun e => (eval_put_other' _ _ (by decide)).trans (f20 e)), (fun e => (eval_put_other' _ _ (by decide)).trans (f21 e)), (fun e => (eval_put_other' _ _ (by decide)).trans (f22 e)), (fun e => (eval_put_other' _ _ (by decide)).trans (f23 e)), (fun e => (eval_put_other' _ _ (by decide)).trans (f24 e)), (fun e => (eval_put_other' _ _ (by decide)).trans (f25 e)), (fun e => (eval_put_other' _ _ (by decide)).trans (f26 e)), (fun e => (eval_put_other' _ _ (by decide)).trans (f27 e)), d15_6, d18_15, d19_18, d25_19, d9_6, d22_19⟩
    · have ws := o13.waits ho hwait
      have w9 := ws 9 (by simp)
      have w6 := d9_6 w9
      have st0 := st
      refine o13.via (f9 w9) (by rw [so.size]; show (94 : Nat) < _; omega) ?_
      refine o13.un.fieldO (by decide) ((show _ = a1.eval _ from by simp only [Act.eval, Array.getD_eq_getD_getElem?, so.out 1 (by decide)]).trans e1) ?_
      exact ⟨D, (so.put (by decide) _), st, (fun e => (eval_put_other' _ _ (by decide)).trans (f0 e)), (fun e => (eval_put_other' _ _ (by decide)).trans (f1 e)), (fun e => (eval_put_other' _ _ (by decide)).trans (f2 e)), (fun e => (eval_put_other' _ _ (by decide)).trans (f3 e)), (fun e => (eval_put_other' _ _ (by decide)).trans (f4 e)), (fun e => (eval_put_other' _ _ (by decide)).trans (f5 e)), (fun e => (eval_put_other' _ _ (by decide)).trans (f6 e)), (fun e => (eval_put_other' _ _ (by decide)).trans (f7 e)), (fun e => (eval_put_other' _ _ (by decide)).trans (f8 e)), (fun e => (eval_put_other' _ _ (by decide)).trans (f9 e)), (fun e => (eval_put_other' _ _ (by decide)).trans (f10 e)), (fun e => (eval_put_other' _ _ (by decide)).trans (f11 e)), (fun e => (eval_put_other' _ _ (by decide)).trans (f12 e)), (fun _ => eval_put_same' _ _ _ (by rw [so.size]; show (98 : Nat) < _; omega)), (fun e => (eval_put_other' _ _ (by decide)).trans (f14 e)), (fun e => (eval_put_other' _ _ (by decide)).trans (f15 e)), (fun e => (eval_put_other' _ _ (by decide)).trans (f16 e)), (fun e => (eval_put_other' _ _ (by decide)).trans (f17 e)), (fun e => (eval_put_other' _ _ (by decide)).trans (f18 e)), (fun e => (eval_put_other' _ _ (by decide)).trans (f19 e)), (fun e => (eval_put_other' _ _ (by decide)).trans (f20 e)), (fun e => (eval_put_other' _ _ (by decide)).trans (f21 e)), (fun e => (eval_put_other' _ _ (by decide)).trans (f22 e)), (fun e => (eval_put_other' _ _ (by decide)).trans (f23 e)), (fun e => (eval_put_other' _ _ (by decide)).trans (f24 e)), (fun e => (eval_put_other' _ _ (by decide)).trans (f25 e)), (fun e => (eval_put_other' _ _ (by decide)).trans (f26 e)), (fun e => (eval_put_other' _ _ (by decide)).trans (f27 e)), d15_6, d18_15, d19_18, d25_19, d9_6, d22_19⟩
    · have ws := o14.waits ho hwait
      have w9 := ws 9 (by simp)
      have w13 := ws 13 (by simp)
      have w6 := d9_6 w9
      have st0 := st
      refine o14.via (f9 w9) (by rw [so.size]; show (94 : Nat) < _; omega) ?_
      refine o14.un.loadO3 (f13 w13) ((OwSt.keep st).bp.cell rfl) ?_
      exact ⟨D, (so.put (by decide) _), st, (fun e => (eval_put_other' _ _ (by decide)).trans (f0 e)), (fun e => (eval_put_other' _ _ (by decide)).trans (f1 e)), (fun e => (eval_put_other' _ _ (by decide)).trans (f2 e)), (fun e => (eval_put_other' _ _ (by decide)).trans (f3 e)), (fun e => (eval_put_other' _ _ (by decide)).trans (f4 e)), (fun e => (eval_put_other' _ _ (by decide)).trans (f5 e)), (fun e => (eval_put_other' _ _ (by decide)).trans (f6 e)), (fun e => (eval_put_other' _ _ (by decide)).trans (f7 e)), (fun e => (eval_put_other' _ _ (by decide)).trans (f8 e)), (fun e => (eval_put_other' _ _ (by decide)).trans (f9 e)), (fun e => (eval_put_other' _ _ (by decide)).trans (f10 e)), (fun e => (eval_put_other' _ _ (by decide)).trans (f11 e)), (fun e => (eval_put_other' _ _ (by decide)).trans (f12 e)), (fun e => (eval_put_other' _ _ (by decide)).trans (f13 e)), (fun _ => eval_put_same' _ _ _ (by rw [so.size]; show (99 : Nat) < _; omega)), (fun e => (eval_put_other' _ _ (by decide)).trans (f15 e)), (fun e => (eval_put_other' _ _ (by decide)).trans (f16 e)), (fun e => (eval_put_other' _ _ (by decide)).trans (f17 e)), (fun e => (eval_put_other' _ _ (by decide)).trans (f18 e)), (fun e => (eval_put_other' _ _ (by decide)).trans (f19 e)), (fun e => (eval_put_other' _ _ (by decide)).trans (f20 e)), (fun e => (eval_put_other' _ _ (by decide)).trans (f21 e)), (fun e => (eval_put_other' _ _ (by decide)).trans (f22 e)), (fun e => (eval_put_other' _ _ (by decide)).trans (f23 e)), (fun e => (eval_put_other' _ _ (by decide)).trans (f24 e)), (fun e => (eval_put_other' _ _ (by decide)).trans (f25 e)), (fun e => (eval_put_other' _ _ (by decide)).trans (f26 e)), (fun e => (eval_put_other' _ _ (by decide)).trans (f27 e)), d15_6, d18_15, d19_18, d25_19, d9_6, d22_19⟩
    · have ws := o15.waits ho hwait
      have w9 := ws 9 (by simp)
      have w14 := ws 14 (by simp)
      have w6 := d9_6 w9
      have n18 : l 18 = false := by cases hx : l 18 with | false => rfl | true => have := d18_15 hx; rw [hl] at this; cases this
      have n19 : l 19 = false := by cases hx : l 19 with | false => rfl | true => have := d19_18 hx; rw [n18] at this; cases this
      have n25 : l 25 = false := by cases hx : l 25 with | false => rfl | true => have := d25_19 hx; rw [n19] at this; cases this
      have n22 : l 22 = false := by cases hx : l 22 with | false => rfl | true => have := d22_19 hx; rw [n19] at this; cases this
      have st0 : OwSt w0 wx gp gz gB cur x z p B k 1 D w := by
        have hst := st
        simp only [hl, n18, n19, n25, Bool.false_eq_true, if_false, if_true, w6] at hst
        exact hst
      refine o15.via (f9 w9) (by rw [so.size]; show (94 : Nat) < _; omega) ?_
      obtain ⟨hK, hT⟩ := st0
      refine o15.un.makeL (f14 w14) (hmk w) ?_
      have st1 : OwSt w0 wx gp gz gB cur x z p B k 2 { D with b := w.heap.size, w10 := w } (w.alloc (.cells (madeCells #[.string ByteArray.empty] k) 9)) := ⟨hK, hT, own_made w hk100⟩
      have st2 : OwSt w0 wx gp gz gB cur x z p B k (if (more l 15) 25 = true then 5 else (if (more l 15) 19 = true then 4 else (if (more l 15) 18 = true then 3 else (if (more l 15) 15 = true then 2 else (if (more l 15) 6 = true then 1 else 0))))) ({ D with b := w.heap.size, w10 := w }) (w.alloc (.cells (madeCells #[.string ByteArray.empty] k) 9)) := by
        rw [if_neg (show ¬ (more l 15 25 = true) from by rw [show more l 15 25 = l 25 from rfl, n25]; simp), if_neg (show ¬ (more l 15 19 = true) from by rw [show more l 15 19 = l 19 from rfl, n19]; simp), if_neg (show ¬ (more l 15 18 = true) from by rw [show more l 15 18 = l 18 from rfl, n18]; simp), if_pos (show more l 15 15 = true from rfl)]
        exact st1
      exact ⟨{ D with b := w.heap.size, w10 := w }, (so.put (by decide) _), st2, (fun e => (eval_put_other' _ _ (by decide)).trans (f0 e)), (fun e => (eval_put_other' _ _ (by decide)).trans (f1 e)), (fun e => (eval_put_other' _ _ (by decide)).trans (f2 e)), (fun e => (eval_put_other' _ _ (by decide)).trans (f3 e)), (fun e => (eval_put_other' _ _ (by decide)).trans (f4 e)), (fun e => (eval_put_other' _ _ (by decide)).trans (f5 e)), (fun e => (eval_put_other' _ _ (by decide)).trans (f6 e)), (fun e => (eval_put_other' _ _ (by decide)).trans (f7 e)), (fun e => (eval_put_other' _ _ (by decide)).trans (f8 e)), (fun e => (eval_put_other' _ _ (by decide)).trans (f9 e)), (fun e => (eval_put_other' _ _ (by decide)).trans (f10 e)), (fun e => (eval_put_other' _ _ (by decide)).trans (f11 e)), (fun e => (eval_put_other' _ _ (by decide)).trans (f12 e)), (fun e => (eval_put_other' _ _ (by decide)).trans (f13 e)), (fun e => (eval_put_other' _ _ (by decide)).trans (f14 e)), (fun _ => eval_put_same' _ _ _ (by rw [so.size]; show (100 : Nat) < _; omega)), (fun e => (eval_put_other' _ _ (by decide)).trans (f16 e)), (fun e => (eval_put_other' _ _ (by decide)).trans (f17 e)), (fun e => by rw [show more l 15 18 = l 18 from rfl, n18] at e; cases e), (fun e => by rw [show more l 15 19 = l 19 from rfl, n19] at e; cases e), (fun e => (eval_put_other' _ _ (by decide)).trans (f20 e)), (fun e => (eval_put_other' _ _ (by decide)).trans (f21 e)), (fun e => by rw [show more l 15 22 = l 22 from rfl, n22] at e; cases e), (fun e => (eval_put_other' _ _ (by decide)).trans (f23 e)), (fun e => (eval_put_other' _ _ (by decide)).trans (f24 e)), (fun e => by rw [show more l 15 25 = l 25 from rfl, n25] at e; cases e), (fun e => (eval_put_other' _ _ (by decide)).trans (f26 e)), (fun e => (eval_put_other' _ _ (by decide)).trans (f27 e)), (fun _ => w6), (fun _ => rfl), d19_18, d25_19, d9_6, d22_19⟩
    · have ws := o16.waits ho hwait
      have w9 := ws 9 (by simp)
      have w6 := d9_6 w9
      have st0 := st
      refine o16.via (f9 w9) (by rw [so.size]; show (94 : Nat) < _; omega) ?_
      refine o16.un.fieldO (by decide) ((show _ = a1.eval _ from by simp only [Act.eval, Array.getD_eq_getD_getElem?, so.out 1 (by decide)]).trans e1) ?_
      exact ⟨D, (so.put (by decide) _), st, (fun e => (eval_put_other' _ _ (by decide)).trans (f0 e)), (fun e => (eval_put_other' _ _ (by decide)).trans (f1 e)), (fun e => (eval_put_other' _ _ (by decide)).trans (f2 e)), (fun e => (eval_put_other' _ _ (by decide)).trans (f3 e)), (fun e => (eval_put_other' _ _ (by decide)).trans (f4 e)), (fun e => (eval_put_other' _ _ (by decide)).trans (f5 e)), (fun e => (eval_put_other' _ _ (by decide)).trans (f6 e)), (fun e => (eval_put_other' _ _ (by decide)).trans (f7 e)), (fun e => (eval_put_other' _ _ (by decide)).trans (f8 e)), (fun e => (eval_put_other' _ _ (by decide)).trans (f9 e)), (fun e => (eval_put_other' _ _ (by decide)).trans (f10 e)), (fun e => (eval_put_other' _ _ (by decide)).trans (f11 e)), (fun e => (eval_put_other' _ _ (by decide)).trans (f12 e)), (fun e => (eval_put_other' _ _ (by decide)).trans (f13 e)), (fun e => (eval_put_other' _ _ (by decide)).trans (f14 e)), (fun e => (eval_put_other' _ _ (by decide)).trans (f15 e)), (fun _ => eval_put_same' _ _ _ (by rw [so.size]; show (101 : Nat) < _; omega)), (fun e => (eval_put_other' _ _ (by decide)).trans (f17 e)), (fun e => (eval_put_other' _ _ (by decide)).trans (f18 e)), (fun e => (eval_put_other' _ _ (by decide)).trans (f19 e)), (fun e => (eval_put_other' _ _ (by decide)).trans (f20 e)), (fun e => (eval_put_other' _ _ (by decide)).trans (f21 e)), (fun e => (eval_put_other' _ _ (by decide)).trans (f22 e)), (fun e => (eval_put_other' _ _ (by decide)).trans (f23 e)), (fun e => (eval_put_other' _ _ (by decide)).trans (f24 e)), (fun e => (eval_put_other' _ _ (by decide)).trans (f25 e)), (fun e => (eval_put_other' _ _ (by decide)).trans (f26 e)), (fun e => (eval_put_other' _ _ (by decide)).trans (f27 e)), d15_6, d18_15, d19_18, d25_19, d9_6, d22_19⟩
    · have ws := o17.waits ho hwait
      have w9 := ws 9 (by simp)
      have w16 := ws 16 (by simp)
      have w6 := d9_6 w9
      have st0 := st
      refine o17.via (f9 w9) (by rw [so.size]; show (94 : Nat) < _; omega) ?_
      refine o17.un.loadOL (f16 w16) ((OwSt.keep st).bp.cell rfl) ?_
      exact ⟨D, (so.put (by decide) _), st, (fun e => (eval_put_other' _ _ (by decide)).trans (f0 e)), (fun e => (eval_put_other' _ _ (by decide)).trans (f1 e)), (fun e => (eval_put_other' _ _ (by decide)).trans (f2 e)), (fun e => (eval_put_other' _ _ (by decide)).trans (f3 e)), (fun e => (eval_put_other' _ _ (by decide)).trans (f4 e)), (fun e => (eval_put_other' _ _ (by decide)).trans (f5 e)), (fun e => (eval_put_other' _ _ (by decide)).trans (f6 e)), (fun e => (eval_put_other' _ _ (by decide)).trans (f7 e)), (fun e => (eval_put_other' _ _ (by decide)).trans (f8 e)), (fun e => (eval_put_other' _ _ (by decide)).trans (f9 e)), (fun e => (eval_put_other' _ _ (by decide)).trans (f10 e)), (fun e => (eval_put_other' _ _ (by decide)).trans (f11 e)), (fun e => (eval_put_other' _ _ (by decide)).trans (f12 e)), (fun e => (eval_put_other' _ _ (by decide)).trans (f13 e)), (fun e => (eval_put_other' _ _ (by decide)).trans (f14 e)), (fun e => (eval_put_other' _ _ (by decide)).trans (f15 e)), (fun e => (eval_put_other' _ _ (by decide)).trans (f16 e)), (fun _ => eval_put_same' _ _ _ (by rw [so.size]; show (102 : Nat) < _; omega)), (fun e => (eval_put_other' _ _ (by decide)).trans (f18 e)), (fun e => (eval_put_other' _ _ (by decide)).trans (f19 e)), (fun e => (eval_put_other' _ _ (by decide)).trans (f20 e)), (fun e => (eval_put_other' _ _ (by decide)).trans (f21 e)), (fun e => (eval_put_other' _ _ (by decide)).trans (f22 e)), (fun e => (eval_put_other' _ _ (by decide)).trans (f23 e)), (fun e => (eval_put_other' _ _ (by decide)).trans (f24 e)), (fun e => (eval_put_other' _ _ (by decide)).trans (f25 e)), (fun e => (eval_put_other' _ _ (by decide)).trans (f26 e)), (fun e => (eval_put_other' _ _ (by decide)).trans (f27 e)), d15_6, d18_15, d19_18, d25_19, d9_6, d22_19⟩
    · have ws := o18.waits ho hwait
      have w9 := ws 9 (by simp)
      have w15 := ws 15 (by simp)
      have w17 := ws 17 (by simp)
      have w6 := d15_6 w15
      have n19 : l 19 = false := by cases hx : l 19 with | false => rfl | true => have := d19_18 hx; rw [hl] at this; cases this
      have n25 : l 25 = false := by cases hx : l 25 with | false => rfl | true => have := d25_19 hx; rw [n19] at this; cases this
      have n22 : l 22 = false := by cases hx : l 22 with | false => rfl | true => have := d22_19 hx; rw [n19] at this; cases this
      have st0 : OwSt w0 wx gp gz gB cur x z p B k 2 D w := by
        have hst := st
        simp only [hl, n19, n25, Bool.false_eq_true, if_false, if_true, w15] at hst
        exact hst
      refine o18.via (f9 w9) (by rw [so.size]; show (94 : Nat) < _; omega) ?_
      obtain ⟨hK, hT, hO⟩ := st0
      refine o18.un.appendG (f15 w15) (f17 w17) hO (hK.on hO.later).ro (by rw [List.length_replicate]; omega) ?_
      intro va w' hown
      have st1 : OwSt w0 wx gp gz gB cur x z p B k 3 { D with va := va } w' := ⟨hK, hT, hown⟩
      have st2 : OwSt w0 wx gp gz gB cur x z p B k (if (more l 18) 25 = true then 5 else (if (more l 18) 19 = true then 4 else (if (more l 18) 18 = true then 3 else (if (more l 18) 15 = true then 2 else (if (more l 18) 6 = true then 1 else 0))))) ({ D with va := va }) w' := by
        rw [if_neg (show ¬ (more l 18 25 = true) from by rw [show more l 18 25 = l 25 from rfl, n25]; simp), if_neg (show ¬ (more l 18 19 = true) from by rw [show more l 18 19 = l 19 from rfl, n19]; simp), if_pos (show more l 18 18 = true from rfl)]
        exact st1
      exact ⟨{ D with va := va }, (so.put (by decide) _), st2, (fun e => (eval_put_other' _ _ (by decide)).trans (f0 e)), (fun e => (eval_put_other' _ _ (by decide)).trans (f1 e)), (fun e => (eval_put_other' _ _ (by decide)).trans (f2 e)), (fun e => (eval_put_other' _ _ (by decide)).trans (f3 e)), (fun e => (eval_put_other' _ _ (by decide)).trans (f4 e)), (fun e => (eval_put_other' _ _ (by decide)).trans (f5 e)), (fun e => (eval_put_other' _ _ (by decide)).trans (f6 e)), (fun e => (eval_put_other' _ _ (by decide)).trans (f7 e)), (fun e => (eval_put_other' _ _ (by decide)).trans (f8 e)), (fun e => (eval_put_other' _ _ (by decide)).trans (f9 e)), (fun e => (eval_put_other' _ _ (by decide)).trans (f10 e)), (fun e => (eval_put_other' _ _ (by decide)).trans (f11 e)), (fun e => (eval_put_other' _ _ (by decide)).trans (f12 e)), (fun e => (eval_put_other' _ _ (by decide)).trans (f13 e)), (fun e => (eval_put_other' _ _ (by decide)).trans (f14 e)), (fun e => (eval_put_other' _ _ (by decide)).trans (f15 e)), (fun e => (eval_put_other' _ _ (by decide)).trans (f16 e)), (fun e => (eval_put_other' _ _ (by decide)).trans (f17 e)), (fun _ => eval_put_same' _ _ _ (by rw [so.size]; show (103 : Nat) < _; omega)), (fun e => by rw [show more l 18 19 = l 19 from rfl, n19] at e; cases e), (fun e => (eval_put_other' _ _ (by decide)).trans (f20 e)), (fun e => (eval_put_other' _ _ (by decide)).trans (f21 e)), (fun e => by rw [show more l 18 22 = l 22 from rfl, n22] at e; cases e), (fun e => (eval_put_other' _ _ (by decide)).trans (f23 e)), (fun e => (eval_put_other' _ _ (by decide)).trans (f24 e)), (fun e => by rw [show more l 18 25 = l 25 from rfl, n25] at e; cases e), (fun e => (eval_put_other' _ _ (by decide)).trans (f26 e)), (fun e => (eval_put_other' _ _ (by decide)).trans (f27 e)), d15_6, (fun _ => w15), (fun _ => rfl), d25_19, d9_6, d22_19⟩
    · have ws := o19.waits ho hwait
      have w9 := ws 9 (by simp)
      have w10 := ws 10 (by simp)
      have w12 := ws 12 (by simp)
      have w18 := ws 18 (by simp)
      have w15 := d18_15 w18
      have w6 := d9_6 w9
      have n25 : l 25 = false := by cases hx : l 25 with | false => rfl | true => have := d25_19 hx; rw [hl] at this; cases this
      have n22 : l 22 = false := by cases hx : l 22 with | false => rfl | true => have := d22_19 hx; rw [hl] at this; cases this
      have st0 : OwSt w0 wx gp gz gB cur x z p B k 3 D w := by
        have hst := st
        simp only [hl, n25, Bool.false_eq_true, if_false, if_true, w18] at hst
        exact hst
      refine o19.via (f9 w9) (by rw [so.size]; show (94 : Nat) < _; omega) ?_
      obtain ⟨hK, hT, hO⟩ := st0
      refine o19.un.call3 (enters_of Tryd.func12 (by kernel_rfl) rfl) (f10 w10) (f12 w12) (f18 w18) (hput D.w10 w D.va (hK.on hO.later) (hT.later hO.later) hO).out ?_
      rintro e w' ⟨v12, rfl, hc, hf, hk'⟩
      have st1 : OwSt w0 wx gp gz gB cur x z p B k 4 { D with v12 := v12 } w' := ⟨hk' (hK.on hO.later), hc, hf⟩
      have st2 : OwSt w0 wx gp gz gB cur x z p B k (if (more l 19) 25 = true then 5 else (if (more l 19) 19 = true then 4 else (if (more l 19) 18 = true then 3 else (if (more l 19) 15 = true then 2 else (if (more l 19) 6 = true then 1 else 0))))) ({ D with v12 := v12 }) w' := by
        rw [if_neg (show ¬ (more l 19 25 = true) from by rw [show more l 19 25 = l 25 from rfl, n25]; simp), if_pos (show more l 19 19 = true from rfl)]
        exact st1
      exact ⟨_, rfl, ⟨{ D with v12 := v12 }, (so.put (by decide) _), st2, (fun e => (eval_put_other' _ _ (by decide)).trans (f0 e)), (fun e => (eval_put_other' _ _ (by decide)).trans (f1 e)), (fun e => (eval_put_other' _ _ (by decide)).trans (f2 e)), (fun e => (eval_put_other' _ _ (by decide)).trans (f3 e)), (fun e => (eval_put_other' _ _ (by decide)).trans (f4 e)), (fun e => (eval_put_other' _ _ (by decide)).trans (f5 e)), (fun e => (eval_put_other' _ _ (by decide)).trans (f6 e)), (fun e => (eval_put_other' _ _ (by decide)).trans (f7 e)), (fun e => (eval_put_other' _ _ (by decide)).trans (f8 e)), (fun e => (eval_put_other' _ _ (by decide)).trans (f9 e)), (fun e => (eval_put_other' _ _ (by decide)).trans (f10 e)), (fun e => (eval_put_other' _ _ (by decide)).trans (f11 e)), (fun e => (eval_put_other' _ _ (by decide)).trans (f12 e)), (fun e => (eval_put_other' _ _ (by decide)).trans (f13 e)), (fun e => (eval_put_other' _ _ (by decide)).trans (f14 e)), (fun e => (eval_put_other' _ _ (by decide)).trans (f15 e)), (fun e => (eval_put_other' _ _ (by decide)).trans (f16 e)), (fun e => (eval_put_other' _ _ (by decide)).trans (f17 e)), (fun e => (eval_put_other' _ _ (by decide)).trans (f18 e)), (fun _ => eval_put_same' _ _ _ (by rw [so.size]; show (104 : Nat) < _; omega)), (fun e => (eval_put_other' _ _ (by decide)).trans (f20 e)), (fun e => (eval_put_other' _ _ (by decide)).trans (f21 e)), (fun e => by rw [show more l 19 22 = l 22 from rfl, n22] at e; cases e), (fun e => (eval_put_other' _ _ (by decide)).trans (f23 e)), (fun e => (eval_put_other' _ _ (by decide)).trans (f24 e)), (fun e => by rw [show more l 19 25 = l 25 from rfl, n25] at e; cases e), (fun e => (eval_put_other' _ _ (by decide)).trans (f26 e)), (fun e => (eval_put_other' _ _ (by decide)).trans (f27 e)), d15_6, d18_15, (fun _ => w18), (fun _ => rfl), d9_6, (fun _ => rfl)⟩⟩
    · have ws := o20.waits ho hwait
      have w9 := ws 9 (by simp)
      have w19 := ws 19 (by simp)
      have w18 := d19_18 w19
      have w6 := d9_6 w9
      have w15 := d18_15 w18
      have st0 := st
      refine o20.via (f9 w9) (by rw [so.size]; show (94 : Nat) < _; omega) ?_
      refine o20.un.neqZ (f19 w19) ?_
      exact ⟨D, (so.put (by decide) _), st, (fun e => (eval_put_other' _ _ (by decide)).trans (f0 e)), (fun e => (eval_put_other' _ _ (by decide)).trans (f1 e)), (fun e => (eval_put_other' _ _ (by decide)).trans (f2 e)), (fun e => (eval_put_other' _ _ (by decide)).trans (f3 e)), (fun e => (eval_put_other' _ _ (by decide)).trans (f4 e)), (fun e => (eval_put_other' _ _ (by decide)).trans (f5 e)), (fun e => (eval_put_other' _ _ (by decide)).trans (f6 e)), (fun e => (eval_put_other' _ _ (by decide)).trans (f7 e)), (fun e => (eval_put_other' _ _ (by decide)).trans (f8 e)), (fun e => (eval_put_other' _ _ (by decide)).trans (f9 e)), (fun e => (eval_put_other' _ _ (by decide)).trans (f10 e)), (fun e => (eval_put_other' _ _ (by decide)).trans (f11 e)), (fun e => (eval_put_other' _ _ (by decide)).trans (f12 e)), (fun e => (eval_put_other' _ _ (by decide)).trans (f13 e)), (fun e => (eval_put_other' _ _ (by decide)).trans (f14 e)), (fun e => (eval_put_other' _ _ (by decide)).trans (f15 e)), (fun e => (eval_put_other' _ _ (by decide)).trans (f16 e)), (fun e => (eval_put_other' _ _ (by decide)).trans (f17 e)), (fun e => (eval_put_other' _ _ (by decide)).trans (f18 e)), (fun e => (eval_put_other' _ _ (by decide)).trans (f19 e)), (fun _ => eval_put_same' _ _ _ (by rw [so.size]; show (105 : Nat) < _; omega)), (fun e => (eval_put_other' _ _ (by decide)).trans (f21 e)), (fun e => (eval_put_other' _ _ (by decide)).trans (f22 e)), (fun e => (eval_put_other' _ _ (by decide)).trans (f23 e)), (fun e => (eval_put_other' _ _ (by decide)).trans (f24 e)), (fun e => (eval_put_other' _ _ (by decide)).trans (f25 e)), (fun e => (eval_put_other' _ _ (by decide)).trans (f26 e)), (fun e => (eval_put_other' _ _ (by decide)).trans (f27 e)), d15_6, d18_15, d19_18, d25_19, d9_6, d22_19⟩
    · have ws := o21.waits ho hwait
      have w9 := ws 9 (by simp)
      have w20 := ws 20 (by simp)
      have w6 := d9_6 w9
      have st0 := st
      refine o21.pickO (f9 w9) (f20 w20) ?_
      exact ⟨D, (so.put (by decide) _), st, (fun e => (eval_put_other' _ _ (by decide)).trans (f0 e)), (fun e => (eval_put_other' _ _ (by decide)).trans (f1 e)), (fun e => (eval_put_other' _ _ (by decide)).trans (f2 e)), (fun e => (eval_put_other' _ _ (by decide)).trans (f3 e)), (fun e => (eval_put_other' _ _ (by decide)).trans (f4 e)), (fun e => (eval_put_other' _ _ (by decide)).trans (f5 e)), (fun e => (eval_put_other' _ _ (by decide)).trans (f6 e)), (fun e => (eval_put_other' _ _ (by decide)).trans (f7 e)), (fun e => (eval_put_other' _ _ (by decide)).trans (f8 e)), (fun e => (eval_put_other' _ _ (by decide)).trans (f9 e)), (fun e => (eval_put_other' _ _ (by decide)).trans (f10 e)), (fun e => (eval_put_other' _ _ (by decide)).trans (f11 e)), (fun e => (eval_put_other' _ _ (by decide)).trans (f12 e)), (fun e => (eval_put_other' _ _ (by decide)).trans (f13 e)), (fun e => (eval_put_other' _ _ (by decide)).trans (f14 e)), (fun e => (eval_put_other' _ _ (by decide)).trans (f15 e)), (fun e => (eval_put_other' _ _ (by decide)).trans (f16 e)), (fun e => (eval_put_other' _ _ (by decide)).trans (f17 e)), (fun e => (eval_put_other' _ _ (by decide)).trans (f18 e)), (fun e => (eval_put_other' _ _ (by decide)).trans (f19 e)), (fun e => (eval_put_other' _ _ (by decide)).trans (f20 e)), (fun _ => eval_put_same' _ _ _ (by rw [so.size]; show (106 : Nat) < _; omega)), (fun e => (eval_put_other' _ _ (by decide)).trans (f22 e)), (fun e => (eval_put_other' _ _ (by decide)).trans (f23 e)), (fun e => (eval_put_other' _ _ (by decide)).trans (f24 e)), (fun e => (eval_put_other' _ _ (by decide)).trans (f25 e)), (fun e => (eval_put_other' _ _ (by decide)).trans (f26 e)), (fun e => (eval_put_other' _ _ (by decide)).trans (f27 e)), d15_6, d18_15, d19_18, d25_19, d9_6, d22_19⟩
    · have ws := o22.waits ho hwait
      have w19 := ws 19 (by simp)
      have w21 := ws 21 (by simp)
      have w18 := d19_18 w19
      have w15 := d18_15 w18
      have w6 := d15_6 w15
      have st0 := st
      refine o22.move ?_
      rw [f21 w21]
      exact ⟨D, (so.put (by decide) _), st, (fun e => (eval_put_other' _ _ (by decide)).trans (f0 e)), (fun e => (eval_put_other' _ _ (by decide)).trans (f1 e)), (fun e => (eval_put_other' _ _ (by decide)).trans (f2 e)), (fun e => (eval_put_other' _ _ (by decide)).trans (f3 e)), (fun e => (eval_put_other' _ _ (by decide)).trans (f4 e)), (fun e => (eval_put_other' _ _ (by decide)).trans (f5 e)), (fun e => (eval_put_other' _ _ (by decide)).trans (f6 e)), (fun e => (eval_put_other' _ _ (by decide)).trans (f7 e)), (fun e => (eval_put_other' _ _ (by decide)).trans (f8 e)), (fun e => (eval_put_other' _ _ (by decide)).trans (f9 e)), (fun e => (eval_put_other' _ _ (by decide)).trans (f10 e)), (fun e => (eval_put_other' _ _ (by decide)).trans (f11 e)), (fun e => (eval_put_other' _ _ (by decide)).trans (f12 e)), (fun e => (eval_put_other' _ _ (by decide)).trans (f13 e)), (fun e => (eval_put_other' _ _ (by decide)).trans (f14 e)), (fun e => (eval_put_other' _ _ (by decide)).trans (f15 e)), (fun e => (eval_put_other' _ _ (by decide)).trans (f16 e)), (fun e => (eval_put_other' _ _ (by decide)).trans (f17 e)), (fun e => (eval_put_other' _ _ (by decide)).trans (f18 e)), (fun e => (eval_put_other' _ _ (by decide)).trans (f19 e)), (fun e => (eval_put_other' _ _ (by decide)).trans (f20 e)), (fun e => (eval_put_other' _ _ (by decide)).trans (f21 e)), (fun _ => eval_put_same' _ _ _ (by rw [so.size]; show (107 : Nat) < _; omega)), (fun e => (eval_put_other' _ _ (by decide)).trans (f23 e)), (fun e => (eval_put_other' _ _ (by decide)).trans (f24 e)), (fun e => (eval_put_other' _ _ (by decide)).trans (f25 e)), (fun e => (eval_put_other' _ _ (by decide)).trans (f26 e)), (fun e => (eval_put_other' _ _ (by decide)).trans (f27 e)), d15_6, d18_15, d19_18, d25_19, d9_6, (fun _ => w19)⟩
    · have ws := o23.waits ho hwait
      have w22 := ws 22 (by simp)
      have w19 := d22_19 w22
      have w18 := d19_18 w19
      have w15 := d18_15 w18
      have w6 := d15_6 w15
      have st0 := st
      refine o23.via (f22 w22) (by rw [so.size]; show (107 : Nat) < _; omega) ?_
      have ev : a.eval (.tmp 6) = .pointer (some ⟨p, 0, none⟩) := ((show _ = a1.eval _ from by simp only [Act.eval, Array.getD_eq_getD_getElem?, so.out 6 (by decide)]).trans e6)
      refine o23.un.move ?_
      rw [ev]
      exact ⟨D, (so.put (by decide) _), st, (fun e => (eval_put_other' _ _ (by decide)).trans (f0 e)), (fun e => (eval_put_other' _ _ (by decide)).trans (f1 e)), (fun e => (eval_put_other' _ _ (by decide)).trans (f2 e)), (fun e => (eval_put_other' _ _ (by decide)).trans (f3 e)), (fun e => (eval_put_other' _ _ (by decide)).trans (f4 e)), (fun e => (eval_put_other' _ _ (by decide)).trans (f5 e)), (fun e => (eval_put_other' _ _ (by decide)).trans (f6 e)), (fun e => (eval_put_other' _ _ (by decide)).trans (f7 e)), (fun e => (eval_put_other' _ _ (by decide)).trans (f8 e)), (fun e => (eval_put_other' _ _ (by decide)).trans (f9 e)), (fun e => (eval_put_other' _ _ (by decide)).trans (f10 e)), (fun e => (eval_put_other' _ _ (by decide)).trans (f11 e)), (fun e => (eval_put_other' _ _ (by decide)).trans (f12 e)), (fun e => (eval_put_other' _ _ (by decide)).trans (f13 e)), (fun e => (eval_put_other' _ _ (by decide)).trans (f14 e)), (fun e => (eval_put_other' _ _ (by decide)).trans (f15 e)), (fun e => (eval_put_other' _ _ (by decide)).trans (f16 e)), (fun e => (eval_put_other' _ _ (by decide)).trans (f17 e)), (fun e => (eval_put_other' _ _ (by decide)).trans (f18 e)), (fun e => (eval_put_other' _ _ (by decide)).trans (f19 e)), (fun e => (eval_put_other' _ _ (by decide)).trans (f20 e)), (fun e => (eval_put_other' _ _ (by decide)).trans (f21 e)), (fun e => (eval_put_other' _ _ (by decide)).trans (f22 e)), (fun _ => eval_put_same' _ _ _ (by rw [so.size]; show (108 : Nat) < _; omega)), (fun e => (eval_put_other' _ _ (by decide)).trans (f24 e)), (fun e => (eval_put_other' _ _ (by decide)).trans (f25 e)), (fun e => (eval_put_other' _ _ (by decide)).trans (f26 e)), (fun e => (eval_put_other' _ _ (by decide)).trans (f27 e)), d15_6, d18_15, d19_18, d25_19, d9_6, d22_19⟩
    · have ws := o24.waits ho hwait
      have w22 := ws 22 (by simp)
      have w19 := d22_19 w22
      have w18 := d19_18 w19
      have w15 := d18_15 w18
      have w6 := d15_6 w15
      have st0 := st
      refine o24.via (f22 w22) (by rw [so.size]; show (107 : Nat) < _; omega) ?_
      refine o24.un.load Tryd.underlying29 Tryd.primSize ((show _ = a1.eval _ from by simp only [Act.eval, Array.getD_eq_getD_getElem?, so.out 3 (by decide)]).trans e3) (OwSt.keep st).bz ?_
      exact ⟨D, (so.put (by decide) _), st, (fun e => (eval_put_other' _ _ (by decide)).trans (f0 e)), (fun e => (eval_put_other' _ _ (by decide)).trans (f1 e)), (fun e => (eval_put_other' _ _ (by decide)).trans (f2 e)), (fun e => (eval_put_other' _ _ (by decide)).trans (f3 e)), (fun e => (eval_put_other' _ _ (by decide)).trans (f4 e)), (fun e => (eval_put_other' _ _ (by decide)).trans (f5 e)), (fun e => (eval_put_other' _ _ (by decide)).trans (f6 e)), (fun e => (eval_put_other' _ _ (by decide)).trans (f7 e)), (fun e => (eval_put_other' _ _ (by decide)).trans (f8 e)), (fun e => (eval_put_other' _ _ (by decide)).trans (f9 e)), (fun e => (eval_put_other' _ _ (by decide)).trans (f10 e)), (fun e => (eval_put_other' _ _ (by decide)).trans (f11 e)), (fun e => (eval_put_other' _ _ (by decide)).trans (f12 e)), (fun e => (eval_put_other' _ _ (by decide)).trans (f13 e)), (fun e => (eval_put_other' _ _ (by decide)).trans (f14 e)), (fun e => (eval_put_other' _ _ (by decide)).trans (f15 e)), (fun e => (eval_put_other' _ _ (by decide)).trans (f16 e)), (fun e => (eval_put_other' _ _ (by decide)).trans (f17 e)), (fun e => (eval_put_other' _ _ (by decide)).trans (f18 e)), (fun e => (eval_put_other' _ _ (by decide)).trans (f19 e)), (fun e => (eval_put_other' _ _ (by decide)).trans (f20 e)), (fun e => (eval_put_other' _ _ (by decide)).trans (f21 e)), (fun e => (eval_put_other' _ _ (by decide)).trans (f22 e)), (fun e => (eval_put_other' _ _ (by decide)).trans (f23 e)), (fun _ => eval_put_same' _ _ _ (by rw [so.size]; show (109 : Nat) < _; omega)), (fun e => (eval_put_other' _ _ (by decide)).trans (f25 e)), (fun e => (eval_put_other' _ _ (by decide)).trans (f26 e)), (fun e => (eval_put_other' _ _ (by decide)).trans (f27 e)), d15_6, d18_15, d19_18, d25_19, d9_6, d22_19⟩
    · have ws := o25.waits ho hwait
      have w22 := ws 22 (by simp)
      have w23 := ws 23 (by simp)
      have w24 := ws 24 (by simp)
      have w19 := d22_19 w22
      have w18 := d19_18 w19
      have w15 := d18_15 w18
      have w6 := d15_6 w15
      have st0 : OwSt w0 wx gp gz gB cur x z p B k 4 D w := by
        have hst := st
        simp only [hl, Bool.false_eq_true, if_false, if_true, w19] at hst
        exact hst
      refine o25.via (f22 w22) (by rw [so.size]; show (107 : Nat) < _; omega) ?_
      obtain ⟨hK, hc, hf⟩ := st0
      refine o25.un.call2 (enters_of Tryd.func13 (by kernel_rfl) rfl) (f23 w23) (f24 w24) (happ w D.v12 hK hc hf).out ?_
      rintro e w' ⟨v13, rfl, hc', hf', hn, hk'⟩
      have st1 : OwSt w0 wx gp gz gB cur x z p B k 5 { D with v13 := v13 } w' := ⟨hk' hK, hc', hf', hn⟩
      have st2 : OwSt w0 wx gp gz gB cur x z p B k (if (more l 25) 25 = true then 5 else (if (more l 25) 19 = true then 4 else (if (more l 25) 18 = true then 3 else (if (more l 25) 15 = true then 2 else (if (more l 25) 6 = true then 1 else 0))))) ({ D with v13 := v13 }) w' := by
        rw [if_pos (show more l 25 25 = true from rfl)]
        exact st1
      exact ⟨_, rfl, ⟨{ D with v13 := v13 }, (so.put (by decide) _), st2, (fun e => (eval_put_other' _ _ (by decide)).trans (f0 e)), (fun e => (eval_put_other' _ _ (by decide)).trans (f1 e)), (fun e => (eval_put_other' _ _ (by decide)).trans (f2 e)), (fun e => (eval_put_other' _ _ (by decide)).trans (f3 e)), (fun e => (eval_put_other' _ _ (by decide)).trans (f4 e)), (fun e => (eval_put_other' _ _ (by decide)).trans (f5 e)), (fun e => (eval_put_other' _ _ (by decide)).trans (f6 e)), (fun e => (eval_put_other' _ _ (by decide)).trans (f7 e)), (fun e => (eval_put_other' _ _ (by decide)).trans (f8 e)), (fun e => (eval_put_other' _ _ (by decide)).trans (f9 e)), (fun e => (eval_put_other' _ _ (by decide)).trans (f10 e)), (fun e => (eval_put_other' _ _ (by decide)).trans (f11 e)), (fun e => (eval_put_other' _ _ (by decide)).trans (f12 e)), (fun e => (eval_put_other' _ _ (by decide)).trans (f13 e)), (fun e => (eval_put_other' _ _ (by decide)).trans (f14 e)), (fun e => (eval_put_other' _ _ (by decide)).trans (f15 e)), (fun e => (eval_put_other' _ _ (by decide)).trans (f16 e)), (fun e => (eval_put_other' _ _ (by decide)).trans (f17 e)), (fun e => (eval_put_other' _ _ (by decide)).trans (f18 e)), (fun e => (eval_put_other' _ _ (by decide)).trans (f19 e)), (fun e => (eval_put_other' _ _ (by decide)).trans (f20 e)), (fun e => (eval_put_other' _ _ (by decide)).trans (f21 e)), (fun e => (eval_put_other' _ _ (by decide)).trans (f22 e)), (fun e => (eval_put_other' _ _ (by decide)).trans (f23 e)), (fun e => (eval_put_other' _ _ (by decide)).trans (f24 e)), (fun _ => eval_put_same' _ _ _ (by rw [so.size]; show (110 : Nat) < _; omega)), (fun e => (eval_put_other' _ _ (by decide)).trans (f26 e)), (fun e => (eval_put_other' _ _ (by decide)).trans (f27 e)), d15_6, d18_15, d19_18, (fun _ => w19), d9_6, d22_19⟩⟩
    · have ws := o26.waits ho hwait
      have w22 := ws 22 (by simp)
      have w25 := ws 25 (by simp)
      have w19 := d25_19 w25
      have w18 := d19_18 w19
      have w15 := d18_15 w18
      have w6 := d15_6 w15
      have st0 := st
      refine o26.via (f22 w22) (by rw [so.size]; show (107 : Nat) < _; omega) ?_
      refine o26.un.neqZ (f25 w25) ?_
      exact ⟨D, (so.put (by decide) _), st, (fun e => (eval_put_other' _ _ (by decide)).trans (f0 e)), (fun e => (eval_put_other' _ _ (by decide)).trans (f1 e)), (fun e => (eval_put_other' _ _ (by decide)).trans (f2 e)), (fun e => (eval_put_other' _ _ (by decide)).trans (f3 e)), (fun e => (eval_put_other' _ _ (by decide)).trans (f4 e)), (fun e => (eval_put_other' _ _ (by decide)).trans (f5 e)), (fun e => (eval_put_other' _ _ (by decide)).trans (f6 e)), (fun e => (eval_put_other' _ _ (by decide)).trans (f7 e)), (fun e => (eval_put_other' _ _ (by decide)).trans (f8 e)), (fun e => (eval_put_other' _ _ (by decide)).trans (f9 e)), (fun e => (eval_put_other' _ _ (by decide)).trans (f10 e)), (fun e => (eval_put_other' _ _ (by decide)).trans (f11 e)), (fun e => (eval_put_other' _ _ (by decide)).trans (f12 e)), (fun e => (eval_put_other' _ _ (by decide)).trans (f13 e)), (fun e => (eval_put_other' _ _ (by decide)).trans (f14 e)), (fun e => (eval_put_other' _ _ (by decide)).trans (f15 e)), (fun e => (eval_put_other' _ _ (by decide)).trans (f16 e)), (fun e => (eval_put_other' _ _ (by decide)).trans (f17 e)), (fun e => (eval_put_other' _ _ (by decide)).trans (f18 e)), (fun e => (eval_put_other' _ _ (by decide)).trans (f19 e)), (fun e => (eval_put_other' _ _ (by decide)).trans (f20 e)), (fun e => (eval_put_other' _ _ (by decide)).trans (f21 e)), (fun e => (eval_put_other' _ _ (by decide)).trans (f22 e)), (fun e => (eval_put_other' _ _ (by decide)).trans (f23 e)), (fun e => (eval_put_other' _ _ (by decide)).trans (f24 e)), (fun e => (eval_put_other' _ _ (by decide)).trans (f25 e)), (fun _ => eval_put_same' _ _ _ (by rw [so.size]; show (111 : Nat) < _; omega)), (fun e => (eval_put_other' _ _ (by decide)).trans (f27 e)), d15_6, d18_15, d19_18, d25_19, d9_6, d22_19⟩
    · have ws := o27.waits ho hwait
      have w22 := ws 22 (by simp)
      have w26 := ws 26 (by simp)
      have w19 := d22_19 w22
      have w18 := d19_18 w19
      have w15 := d18_15 w18
      have w6 := d15_6 w15
      have st0 := st
      refine o27.pickO (f22 w22) (f26 w26) ?_
      exact ⟨D, (so.put (by decide) _), st, (fun e => (eval_put_other' _ _ (by decide)).trans (f0 e)), (fun e => (eval_put_other' _ _ (by decide)).trans (f1 e)), (fun e => (eval_put_other' _ _ (by decide)).trans (f2 e)), (fun e => (eval_put_other' _ _ (by decide)).trans (f3 e)), (fun e => (eval_put_other' _ _ (by decide)).trans (f4 e)), (fun e => (eval_put_other' _ _ (by decide)).trans (f5 e)), (fun e => (eval_put_other' _ _ (by decide)).trans (f6 e)), (fun e => (eval_put_other' _ _ (by decide)).trans (f7 e)), (fun e => (eval_put_other' _ _ (by decide)).trans (f8 e)), (fun e => (eval_put_other' _ _ (by decide)).trans (f9 e)), (fun e => (eval_put_other' _ _ (by decide)).trans (f10 e)), (fun e => (eval_put_other' _ _ (by decide)).trans (f11 e)), (fun e => (eval_put_other' _ _ (by decide)).trans (f12 e)), (fun e => (eval_put_other' _ _ (by decide)).trans (f13 e)), (fun e => (eval_put_other' _ _ (by decide)).trans (f14 e)), (fun e => (eval_put_other' _ _ (by decide)).trans (f15 e)), (fun e => (eval_put_other' _ _ (by decide)).trans (f16 e)), (fun e => (eval_put_other' _ _ (by decide)).trans (f17 e)), (fun e => (eval_put_other' _ _ (by decide)).trans (f18 e)), (fun e => (eval_put_other' _ _ (by decide)).trans (f19 e)), (fun e => (eval_put_other' _ _ (by decide)).trans (f20 e)), (fun e => (eval_put_other' _ _ (by decide)).trans (f21 e)), (fun e => (eval_put_other' _ _ (by decide)).trans (f22 e)), (fun e => (eval_put_other' _ _ (by decide)).trans (f23 e)), (fun e => (eval_put_other' _ _ (by decide)).trans (f24 e)), (fun e => (eval_put_other' _ _ (by decide)).trans (f25 e)), (fun e => (eval_put_other' _ _ (by decide)).trans (f26 e)), (fun _ => eval_put_same' _ _ _ (by rw [so.size]; show (112 : Nat) < _; omega)), d15_6, d18_15, d19_18, d25_19, d9_6, d22_19⟩
  · intro l a w hall ⟨D, so, st, f0, f1, f2, f3, f4, f5, f6, f7, f8, f9, f10, f11, f12, f13, f14, f15, f16, f17, f18, f19, f20, f21, f22, f23, f24, f25, f26, f27, d15_6, d18_15, d19_18, d25_19, d9_6, d22_19⟩
    rw [hn] at hall
    have hst : OwSt w0 wx gp gz gB cur x z p B k 5 D w := by
      have hst := st
      simp only [hall 25 (by decide), if_true] at hst
      exact hst
    exact hend D a w so (f27 (hall 27 (by decide))) hst
  · exact ⟨⟨0, wx, .bool false, .bool false, .bool false⟩, SameOut.refl _ _, (show OwSt w0 wx gp gz gB cur x z p B k 0 _ _ from ⟨h0.1.on (Later.refl w9).drew, h0.2.later (Later.refl w9).drew⟩), (fun e => by cases e), (fun e => by cases e), (fun e => by cases e), (fun e => by cases e), (fun e => by cases e), (fun e => by cases e), (fun e => by cases e), (fun e => by cases e), (fun e => by cases e), (fun e => by cases e), (fun e => by cases e), (fun e => by cases e), (fun e => by cases e), (fun e => by cases e), (fun e => by cases e), (fun e => by cases e), (fun e => by cases e), (fun e => by cases e), (fun e => by cases e), (fun e => by cases e), (fun e => by cases e), (fun e => by cases e), (fun e => by cases e), (fun e => by cases e), (fun e => by cases e), (fun e => by cases e), (fun e => by cases e), (fun e => by cases e), (fun e => by cases e), (fun e => by cases e), (fun e => by cases e), (fun e => by cases e), (fun e => by cases e), (fun e => by cases e)⟩

end Go.Proofs.YtnhhdjcbifmfgaaDoor
