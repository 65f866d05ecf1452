import Derived.Test.YtlnjhimbgckdcaaGreatPk15
import Derived.Test.YtlnjhimbgckdcaaGreatPk4
import Derived.Test.YtlnjhimbgckdcaaGreatPk3
import Derived.Test.YtlnjhimbgckdcaaGreatPk13
import Derived.Test.YtlnjhimbgckdcaaGreatPk9

/-
  Operations of a region that are guarded by one that yields false.
-/
namespace Go.Proofs.YtlnjhimbgckdcaaGreat
open Go.RowKit Go.Maps

def OpN (ops : Array Oper) (i : Nat) (op : Op) (dst : Option Tmp) (js : List Nat) (g : Nat) (d : Tmp) : Prop := ∃ o, ops[i]? = some o /\ o.op = op /\ o.dst = dst /\ o.guard = some (g, false) /\ needs o js = true /\ (ops[g]?).bind (·.dst) = some d
theorem OpN.waits {ops : Array Oper} {i g : Nat} {d : Tmp} {op : Op} {dst : Option Tmp} {js : List Nat} (h : OpN ops i op dst js g d) {o : Oper} (ho : ops[i]? = some o) {l : Nat -> Bool} (hl : ∀ e ∈ o.after, Region.binds .any e = true -> l e.on = true) : ∀ j ∈ js, l j = true := by
  obtain ⟨o', h1, -, -, -, h5, -⟩ := h
  rw [ho] at h1
  cases h1
  intro j hj
  have := List.all_eq_true.1 h5 j hj
  simp only [Array.any_eq_true, Bool.and_eq_true, decide_eq_true_eq] at this
  obtain ⟨k, hk, e1, e2⟩ := this
  rw [← e1]
  exact hl _ (Array.getElem_mem hk) e2
theorem OpN.un {ops : Array Oper} {i g : Nat} {d : Tmp} {op : Op} {dst : Option Tmp} {js : List Nat} (h : OpN ops i op dst js g d) : OpIs (unguard ops i) i op dst [] := by
  obtain ⟨o, h1, h2, h3, -, -, -⟩ := h
  exact ⟨{ o with guard := none }, by simp [unguard, Array.getElem?_modify, h1], h2, h3, rfl, rfl⟩
theorem OpN.via {P : Program} {ops : Array Oper} {Q : Exit -> Act -> World -> Prop} {K : Act -> World -> Prop} {i g : Nat} {d : Tmp} {op : Op} {dst : Option Tmp} {js : List Nat} {a : Act} {w : World} (h : OpN ops i op dst js g d) (hv : a.eval (.tmp d) = .bool false) (hd : d < a.tmps.size)
    (hk : wpOp P (unguard ops i) Q i K a w) : wpOp P ops Q i K a w := by
  obtain ⟨o, h1, -, -, h4, -, h6⟩ := h
  unfold wpOp at hk ⊢
  rw [h1]
  have e1 : (unguard ops i)[i]? = some { o with guard := none } := by simp [unguard, Array.getElem?_modify, h1]
  rw [e1] at hk
  have e2 : Region.wanted o (yielded ops a.tmps) = true := by
    have ht : a.tmps[d]? = some (.bool false) := by
      rw [Array.getElem?_eq_getElem hd]
      have := hv
      simp only [Act.eval, Array.getD, hd, dif_pos] at this
      exact congrArg some this
    simp only [Region.wanted, h4, yielded]
    rw [h6]
    simp [ht]
  dsimp only at hk ⊢
  rw [if_pos e2]
  rw [if_pos (by rfl)] at hk
  exact hk

section
variable {ops : Array Oper} {Q : Exit -> Act -> World -> Prop} {K : Act -> World -> Prop} {i : Nat} {dst : Option Tmp} {js : List Nat} {a : Act} {w w0 : World}
theorem OpIs.notB {k : Tmp} {b : Bool} (h : OpIs ops i (.unOp .not 4 (.tmp k)) dst js) (he : a.eval (.tmp k) = .bool b) (hk : K (a.put dst (.bool (!b))) w) : wpOp Tryz.prog ops Q i K a w :=
  h.go fun op h1 h2 => by
    have hr : (execOp a.eval op).run Tryz.prog w = .ok (.value (.bool (!b))) w := by
      unfold execOp
      rw [h1]
      dsimp only
      rw [he]
      go_simp
    unfold Oper.wp
    rw [hr]
    show K _ _
    rw [h2]
    exact hk
theorem OpIs.pickF {j k : Tmp} {v : Value} (h : OpIs ops i (.pick (.tmp j) (.const (.bool true)) (.tmp k)) dst js) (hj : a.eval (.tmp j) = .bool false) (hv : a.eval (.tmp k) = v) (hk : K (a.put dst v) w) : wpOp Tryz.prog ops Q i K a w :=
  h.go fun op h1 h2 => by
    have hr : (execOp a.eval op).run Tryz.prog w = .ok (.value v) w := by
      unfold execOp
      rw [h1]
      dsimp only
      rw [hj, hv]
      go_simp
    unfold Oper.wp
    rw [hr]
    show K _ _
    rw [h2]
    exact hk
end

end Go.Proofs.YtlnjhimbgckdcaaGreat

/-
  A region that draws its order, whose operations read, or make memory, and turn nothing that is there: one law for any number of operations.
-/
namespace Go.Proofs.YtlnjhimbgckdcaaGreat
open Go.RowKit Go.Maps

theorem getD_inj {l : List Nat} (h : l.Nodup) {i j : Nat} (hi : i < l.length) (hj : j < l.length) (hne : i ≠ j) : l.getD i 0 ≠ l.getD j 0 := by
  rw [List.getD, List.getD, List.getElem?_eq_getElem hi, List.getElem?_eq_getElem hj]
  intro e
  exact hne ((List.getElem_inj h).1 e)
theorem getD_mem {l : List Nat} {i : Nat} (hi : i < l.length) : l.getD i 0 ∈ l := by
  rw [List.getD, List.getElem?_eq_getElem hi]
  exact List.getElem_mem hi
def Known (wx : World) (ds : List Nat) (n : Nat) (R : Nat -> Value -> World -> Prop) (l : Nat -> Bool) (a : Act) (w : World) : Prop := ∀ k, l k = true -> k < n -> ∃ w0, Later wx w0 /\ Later w0 w /\ R k (a.eval (.tmp (ds.getD k 0))) w0
theorem region_reads {P : Program} {ops : Array Oper} {Q : Exit -> Act -> World -> Prop} {id : Nat} {a1 : Act} {wx : World} {n : Nat} (hm : P.follows .mixedOrders = true) (hg : goesBack ops = true) (hn : ops.size = n) (ds : List Nat) (hnd : ds.Nodup) (hlen : ds.length = n) (hsz : ∀ d ∈ ds, d < a1.tmps.size) (R : Nat -> Value -> World -> Prop)
    (hstep : ∀ (l : Nat -> Bool) (a : Act) (w : World) (i : Nat) (o : Oper) (K : Act -> World -> Prop), ops[i]? = some o -> i < n -> (∀ e ∈ o.after, Region.binds .any e = true -> l e.on = true) -> SameOut a1 a ds -> Later wx w -> Known wx ds n R l a w -> (∀ v w', Later w w' -> R i v w' -> K (a.put (some (ds.getD i 0)) v) w') -> wpOp P ops Q i K a w)
    (hend : ∀ a w, SameOut a1 a ds -> Later wx w -> Known wx ds n R (fun _ => true) a w -> Q .normal a w) : (Code.region id ops true).wp P Q a1 wx := by
  refine region_inv hm hg (fun l a w => SameOut a1 a ds /\ Later wx w /\ Known wx ds n R l a w) ?_ ?_ ?_
  · intro l a w i o ho hl hwait ⟨so, hl0, hf⟩
    have hi : i < n := by rw [← hn]; exact (Array.getElem?_eq_some_iff.1 ho).1
    refine hstep l a w i o _ ho hi hwait so hl0 hf fun v w' hl' hr => ?_
    refine ⟨so.put (getD_mem (by omega)) v, hl0.trans hl', fun k hk hkn => ?_⟩
    by_cases e : k = i
    · subst e
      refine ⟨w', hl0.trans hl', Later.refl w', ?_⟩
      rw [eval_put_same' _ _ _ (by rw [so.size]; exact hsz _ (getD_mem (by omega)))]
      exact hr
    · rw [more_other l e] at hk
      obtain ⟨w0, h1, h2, h3⟩ := hf k hk hkn
      refine ⟨w0, h1, h2.trans hl', ?_⟩
      rw [eval_put_other' _ _ (getD_inj hnd (by omega) (by omega) (fun e' => e e'.symm))]
      exact h3
  · intro l a w hall ⟨so, hl0, hf⟩
    refine hend a w so hl0 fun k _ hkn => hf k (hall k (by rw [hn]; exact hkn)) hkn
  · exact ⟨SameOut.refl _ _, (Later.refl wx).drew, fun k hk => by cases hk⟩

section
variable {P : Program} {ops : Array Oper} {Q : Exit -> Act -> World -> Prop} {K : Act -> World -> Prop} {i g : Nat} {d e : Tmp} {op : Op} {js : List Nat} {a : Act} {w : World}
theorem OpG.skip (h : OpG ops i op (some e) js g d) (hv : a.eval (.tmp d) = .bool false) (hd : d < a.tmps.size) (hk : K (a.put (some e) undef) w) : wpOp P ops Q i K a w := by
  obtain ⟨o, h1, -, h3, h4, -, h6⟩ := h
  unfold wpOp
  rw [h1]
  have e2 : ¬ Region.wanted o (yielded ops a.tmps) = true := by
    have ht : a.tmps[d]? = some (.bool false) := by
      rw [Array.getElem?_eq_getElem hd]
      have := hv
      simp only [Act.eval, Array.getD, hd, dif_pos] at this
      exact congrArg some this
    simp only [Region.wanted, h4, yielded]
    rw [h6]
    simp [ht]
  dsimp only
  rw [if_neg e2, h3]
  exact hk
theorem OpN.skip (h : OpN ops i op (some e) js g d) (hv : a.eval (.tmp d) = .bool true) (hd : d < a.tmps.size) (hk : K (a.put (some e) undef) w) : wpOp P ops Q i K a w := by
  obtain ⟨o, h1, -, h3, h4, -, h6⟩ := h
  unfold wpOp
  rw [h1]
  have e2 : ¬ Region.wanted o (yielded ops a.tmps) = true := by
    have ht : a.tmps[d]? = some (.bool true) := by
      rw [Array.getElem?_eq_getElem hd]
      have := hv
      simp only [Act.eval, Array.getD, hd, dif_pos] at this
      exact congrArg some this
    simp only [Region.wanted, h4, yielded]
    rw [h6]
    simp [ht]
  dsimp only
  rw [if_neg e2, h3]
  exact hk
end

end Go.Proofs.YtlnjhimbgckdcaaGreat

/-
  More operations of a region that draws its order: fields, numbers, picks.
-/
namespace Go.Proofs.YtlnjhimbgckdcaaGreat
open Go.RowKit Go.Maps

section
variable {ops : Array Oper} {Q : Exit -> Act -> World -> Prop} {K : Act -> World -> Prop} {i : Nat} {dst : Option Tmp} {js : List Nat} {a : Act} {w w0 : World}
theorem OpIs.fieldN {k : Tmp} {f g o : Nat} (h : OpIs ops i (.fieldAddr 30 (.tmp k) f) dst js) (hf : f < 4) (he : a.eval (.tmp k) = .pointer (some ⟨g, o, none⟩)) (hk : K (a.put dst (.pointer (some ⟨g, o + f, none⟩))) w) : wpOp Tryz.prog ops Q i K a w :=
  h.go fun op h1 h2 => by
    have hr : (execOp a.eval op).run Tryz.prog w = .ok (.value (.pointer (some ⟨g, o + f, none⟩))) w := by
      clear hk
      unfold execOp
      rw [h1]
      dsimp only
      rw [he]
      have h4 : f = 0 ∨ f = 1 ∨ f = 2 ∨ f = 3 := by omega
      rcases h4 with rfl | rfl | rfl | rfl <;> go_simp
    unfold Oper.wp
    rw [hr]
    show K _ _
    rw [h2]
    exact hk
theorem OpIs.fieldRN {k : Tmp} {f g o : Nat} (h : OpIs ops i (.fieldAddr 25 (.tmp k) f) dst js) (hf : f < 4) (he : a.eval (.tmp k) = .pointer (some ⟨g, o, none⟩)) (hk : K (a.put dst (.pointer (some ⟨g, o + f, none⟩))) w) : wpOp Tryz.prog ops Q i K a w :=
  h.go fun op h1 h2 => by
    have hr : (execOp a.eval op).run Tryz.prog w = .ok (.value (.pointer (some ⟨g, o + f, none⟩))) w := by
      clear hk
      unfold execOp
      rw [h1]
      dsimp only
      rw [he]
      have h4 : f = 0 ∨ f = 1 ∨ f = 2 ∨ f = 3 := by omega
      rcases h4 with rfl | rfl | rfl | rfl <;> go_simp
    unfold Oper.wp
    rw [hr]
    show K _ _
    rw [h2]
    exact hk
theorem OpIs.eqlC {k : Tmp} {z : Int} (h : OpIs ops i (.binOp .eql 3 (.tmp k) (.const (.int .i64 z)) 3) dst js) (he : a.eval (.tmp k) = .int .i64 z) (hk : K (a.put dst (.bool true)) w) : wpOp Tryz.prog ops Q i K a w :=
  h.go fun op h1 h2 => by
    have hr : (execOp a.eval op).run Tryz.prog w = .ok (.value (.bool true)) w := by
      clear hk
      unfold execOp
      rw [h1]
      dsimp only
      rw [he]
      go_simp
    unfold Oper.wp
    rw [hr]
    show K _ _
    rw [h2]
    exact hk
theorem OpIs.pickNo {j k : Tmp} (h : OpIs ops i (.pick (.tmp j) (.tmp k) (.const (.bool false))) dst js) (he : a.eval (.tmp j) = .bool false) (hk : K (a.put dst (.bool false)) w) : wpOp Tryz.prog ops Q i K a w :=
  h.go fun op h1 h2 => by
    have hr : (execOp a.eval op).run Tryz.prog w = .ok (.value (.bool false)) w := by
      clear hk
      unfold execOp
      rw [h1]
      dsimp only
      rw [he]
      go_simp
    unfold Oper.wp
    rw [hr]
    show K _ _
    rw [h2]
    exact hk
theorem OpIs.pickYes {j k : Tmp} (h : OpIs ops i (.pick (.tmp j) (.const (.bool true)) (.tmp k)) dst js) (he : a.eval (.tmp j) = .bool true) (hk : K (a.put dst (.bool true)) w) : wpOp Tryz.prog ops Q i K a w :=
  h.go fun op h1 h2 => by
    have hr : (execOp a.eval op).run Tryz.prog w = .ok (.value (.bool true)) w := by
      clear hk
      unfold execOp
      rw [h1]
      dsimp only
      rw [he]
      go_simp
    unfold Oper.wp
    rw [hr]
    show K _ _
    rw [h2]
    exact hk
theorem OpIs.loadI7 {k : Tmp} {g o : Nat} {x : Int} (h : OpIs ops i (.load 3 (.tmp k)) dst js) (he : a.eval (.tmp k) = .pointer (some ⟨g, o, none⟩)) (hc : w.cell? ⟨g, o, none⟩ = some (.int .i64 x)) (hk : K (a.put dst (.int .i64 x)) w) : wpOp Tryz.prog ops Q i K a w :=
  h.go fun op h1 h2 => by
    have hr : (execOp a.eval op).run Tryz.prog w = .ok (.value (.int .i64 x)) w := by
      clear hk
      unfold execOp
      rw [h1]
      dsimp only
      rw [he]
      go_simp
    unfold Oper.wp
    rw [hr]
    show K _ _
    rw [h2]
    exact hk
theorem OpIs.loadS7 {k : Tmp} {g o : Nat} {x : ByteArray} (h : OpIs ops i (.load 9 (.tmp k)) dst js) (he : a.eval (.tmp k) = .pointer (some ⟨g, o, none⟩)) (hc : w.cell? ⟨g, o, none⟩ = some (.string x)) (hk : K (a.put dst (.string x)) w) : wpOp Tryz.prog ops Q i K a w :=
  h.go fun op h1 h2 => by
    have hr : (execOp a.eval op).run Tryz.prog w = .ok (.value (.string x)) w := by
      clear hk
      unfold execOp
      rw [h1]
      dsimp only
      rw [he]
      go_simp
    unfold Oper.wp
    rw [hr]
    show K _ _
    rw [h2]
    exact hk
theorem OpIs.loadD7 {k : Tmp} {g o n c : Nat} {A : Option Addr} (h : OpIs ops i (.load 22 (.tmp k)) dst js) (he : a.eval (.tmp k) = .pointer (some ⟨g, o, none⟩)) (hc : w.cell? ⟨g, o, none⟩ = some (.slice A n c)) (hk : K (a.put dst (.slice A n c)) w) : wpOp Tryz.prog ops Q i K a w :=
  h.go fun op h1 h2 => by
    have hr : (execOp a.eval op).run Tryz.prog w = .ok (.value (.slice A n c)) w := by
      clear hk
      unfold execOp
      rw [h1]
      dsimp only
      rw [he]
      go_simp
    unfold Oper.wp
    rw [hr]
    show K _ _
    rw [h2]
    exact hk
theorem OpIs.loadP7 {k : Tmp} {g o n c : Nat} {A : Option Addr} (h : OpIs ops i (.load 28 (.tmp k)) dst js) (he : a.eval (.tmp k) = .pointer (some ⟨g, o, none⟩)) (hc : w.cell? ⟨g, o, none⟩ = some (.slice A n c)) (hk : K (a.put dst (.slice A n c)) w) : wpOp Tryz.prog ops Q i K a w :=
  h.go fun op h1 h2 => by
    have hr : (execOp a.eval op).run Tryz.prog w = .ok (.value (.slice A n c)) w := by
      clear hk
      unfold execOp
      rw [h1]
      dsimp only
      rw [he]
      go_simp
    unfold Oper.wp
    rw [hr]
    show K _ _
    rw [h2]
    exact hk
theorem OpIs.loadR7 {k : Tmp} {g o n c : Nat} {A : Option Addr} (h : OpIs ops i (.load 23 (.tmp k)) dst js) (he : a.eval (.tmp k) = .pointer (some ⟨g, o, none⟩)) (hc : w.cell? ⟨g, o, none⟩ = some (.slice A n c)) (hk : K (a.put dst (.slice A n c)) w) : wpOp Tryz.prog ops Q i K a w :=
  h.go fun op h1 h2 => by
    have hr : (execOp a.eval op).run Tryz.prog w = .ok (.value (.slice A n c)) w := by
      clear hk
      unfold execOp
      rw [h1]
      dsimp only
      rw [he]
      go_simp
    unfold Oper.wp
    rw [hr]
    show K _ _
    rw [h2]
    exact hk
theorem OpIs.buildZ  (h : OpIs ops i (.build 30 #[]) dst js)  (hk : K (a.put dst (paV zeroN)) w) : wpOp Tryz.prog ops Q i K a w :=
  h.go fun op h1 h2 => by
    have hr : (execOp a.eval op).run Tryz.prog w = .ok (.value (paV zeroN)) w := by
      clear hk
      unfold execOp
      rw [h1]
      dsimp only
      go_simp
      rfl
    unfold Oper.wp
    rw [hr]
    show K _ _
    rw [h2]
    exact hk
theorem OpIs.lenRN {k : Tmp} {A : Option Addr} {n c : Nat} (h : OpIs ops i (.call { callee := .builtin .len, args := #[.tmp k], argTypes := #[39] }) dst js) (he : a.eval (.tmp k) = .slice A n c) (hk : K (a.put dst (.int .i64 n)) w) : wpOp Tryz.prog ops Q i K a w :=
  h.go fun o h1 h2 => by
    have hr : (execOp a.eval o).run Tryz.prog w = .ok (.value (.int .i64 n)) w := by
      unfold execOp
      rw [h1]
      simp only [resolve, invoke, builtin, Sem.run_bind, List.map_toArray, List.map_cons, List.map_nil, he]
      go_simp
    unfold Oper.wp
    rw [hr]
    show K _ _
    rw [h2]
    exact hk
theorem OpIs.lenI7 {k : Tmp} {A : Option Addr} {n c : Nat} (h : OpIs ops i (.call { callee := .builtin .len, args := #[.tmp k], argTypes := #[22] }) dst js) (he : a.eval (.tmp k) = .slice A n c) (hk : K (a.put dst (.int .i64 n)) w) : wpOp Tryz.prog ops Q i K a w :=
  h.go fun o h1 h2 => by
    have hr : (execOp a.eval o).run Tryz.prog w = .ok (.value (.int .i64 n)) w := by
      unfold execOp
      rw [h1]
      simp only [resolve, invoke, builtin, Sem.run_bind, List.map_toArray, List.map_cons, List.map_nil, he]
      go_simp
    unfold Oper.wp
    rw [hr]
    show K _ _
    rw [h2]
    exact hk
end

end Go.Proofs.YtlnjhimbgckdcaaGreat

/-
  More operations of a region that draws its order: a call of nothing, two Bools.
-/
namespace Go.Proofs.YtlnjhimbgckdcaaGreat
open Go.RowKit Go.Maps

section
variable {ops : Array Oper} {Q : Exit -> Act -> World -> Prop} {K : Act -> World -> Prop} {i : Nat} {dst : Option Tmp} {js : List Nat} {a : Act} {w w0 : World}
theorem OpIs.call0 {f : FuncId} {Post : Ending -> World -> Prop} (h : OpIs ops i (.call { callee := .value (.func f), args := #[], argTypes := #[] }) dst js) (hf : ∀ args w, (callFunc f args).run Tryz.prog w = .ok (.enter f args) w)
    (hc : Calls Tryz.prog f #[] w Post) (hk : ∀ e w', Post e w' -> ∃ u, e = .returned u /\ K (a.put dst u) w') : wpOp Tryz.prog ops Q i K a w :=
  h.go fun o h1 h2 => by
    have hr : (execOp a.eval o).run Tryz.prog w = .ok (.enter f #[]) w := by
      unfold execOp
      rw [h1]
      simp only [resolve, invoke, Sem.run_bind, List.map_toArray, List.map_nil]
      go_simp
    unfold Oper.wp
    rw [hr]
    show Calls _ _ _ _ _
    refine hc.mono ?_
    intro e w' hp
    obtain ⟨u, rfl, hku⟩ := hk e w' hp
    dsimp only
    rw [h2]
    exact hku
theorem OpIs.eqlB {j k : Tmp} {b : Bool} (h : OpIs ops i (.binOp .eql 4 (.tmp j) (.tmp k) 4) dst js) (he : a.eval (.tmp j) = .bool b) (he2 : a.eval (.tmp k) = .bool b) (hk : K (a.put dst (.bool true)) w) : wpOp Tryz.prog ops Q i K a w :=
  h.go fun op h1 h2 => by
    have hr : (execOp a.eval op).run Tryz.prog w = .ok (.value (.bool true)) w := by
      clear hk
      unfold execOp
      rw [h1]
      dsimp only
      rw [he, he2]
      cases b <;> go_simp
    unfold Oper.wp
    rw [hr]
    show K _ _
    rw [h2]
    exact hk
end

end Go.Proofs.YtlnjhimbgckdcaaGreat

/-
  slices.Backward at a row of patches: what its closure hands on, round by round.
-/
namespace Go.Proofs.YtlnjhimbgckdcaaGreat
open Go.RowKit Go.Maps
attribute [local go_sem] Oper.semAt_some

def roundsN (xs : List PaC) : List (Nat × PaC) := ((List.range xs.length).map fun j => (j, xs.getD j zeroN)).reverse
theorem roundsN_length (xs : List PaC) : (roundsN xs).length = xs.length := by simp [roundsN]
theorem roundsN_at {xs : List PaC} {k : Nat} {z : Nat × PaC} (h : (roundsN xs)[k]? = some z) : z.1 + k + 1 = xs.length /\ xs[z.1]? = some z.2 := by
  have hk : k < xs.length := by have := (List.getElem?_eq_some_iff.1 h).1; rwa [roundsN_length] at this
  unfold roundsN at h
  rw [List.getElem?_reverse (by simpa using hk)] at h
  simp only [List.length_map, List.length_range, List.getElem?_map] at h
  rw [List.getElem?_range (by omega)] at h
  simp only [Option.map_some, Option.some.injEq] at h
  subst h
  dsimp only
  refine ⟨by omega, ?_⟩
  rw [List.getD, List.getElem?_eq_getElem (by omega)]
  rfl
theorem roundsN_get {xs : List PaC} {j k : Nat} {x : PaC} (h : xs[j]? = some x) (hk : j + k + 1 = xs.length) : (roundsN xs)[k]? = some (j, x) := by
  unfold roundsN
  rw [List.getElem?_reverse (by simp; omega)]
  simp only [List.length_map, List.length_range, List.getElem?_map]
  rw [List.getElem?_range (by omega), show xs.length - 1 - k = j by omega]
  simp [List.getD, h]
def backVN (z : Nat × PaC) : Array Value := #[.int .i64 (z.1 : Nat), paV z.2]
set_option maxRecDepth 100000 in
set_option maxHeartbeats 2000000 in
theorem back1n_in (m l Bs : Nat) (hm : 1 <= m) (A : Option Addr) (n c : Nat) (xs : List PaC) (hn : n <= 524288) (w00 : World) (hrow : RowK 4 w00 A n (xs.map paL)) (J Jx : Nat -> World -> Prop)
    (hY : ∀ k x W, (roundsN xs)[k]? = some x -> J k W -> YieldAt Fence.wide (m - 1) Tryz.prog l (backVN x) W fun e W' =>
      (e = .returned (.bool true) /\ J (k + 1) W' /\ KpB w00.heap.size Bs W W') ∨ (e = .returned (.bool false) /\ Jx (k + 1) W'))
    (W : World) (hl : Later w00 W) (hBs : W.cell? ⟨Bs, 0, none⟩ = some (.slice A n c)) (h0 : J 0 W) :
    CallsIn Fence.wide m Tryz.prog 53 #[.func (.yield l) #[] #[], .pointer (some ⟨Bs, 0, none⟩)] W fun e W' => (∃ v, e = .returned v) ∧
      (J (roundsN xs).length W' ∨ ∃ k, k <= (roundsN xs).length /\ Jx k W') := by
  have hlen : xs.length = n := by have := hrow.len; simpa using this
  refine callsIn_of_wp Tryz.func53 rfl trivial ?_ rfl
  simp only [Tryz.ntmps53, List.size_toArray, List.length_cons, List.length_nil, Nat.reduceAdd, Nat.reduceSub, Array.replicate_succ, Array.replicate_zero, List.push_toArray, List.append_toArray, List.nil_append, List.cons_append]
  gi_wp2
  gi_loopw [3] (fun s wr => ∃ r : Nat, r <= n /\ s = .int .i64 ((r : Int) - 1) /\ J (n - r) wr /\ Later w00 wr /\ wr.cell? ⟨Bs, 0, none⟩ = some (.slice A n c))
    (fun s _ => (intOf s + 1).toNat)
  case atStart => exact ⟨n, Nat.le_refl _, by go_num, by rw [Nat.sub_self]; exact h0, hl, hBs⟩
  case round =>
    obtain ⟨r, hr, rfl, hJs, hlw, hbs⟩ := hrel
    rcases Nat.eq_zero_or_pos r with h0 | h0
    · subst h0
      gi_wp2
      go_end0
      exact ⟨⟨_, rfl⟩, .inl (by rw [roundsN_length, hlen]; exact hJs)⟩
    · obtain ⟨j, rfl⟩ : ∃ j, r = j + 1 := ⟨r - 1, by omega⟩
      rw [show ((j + 1 : Nat) : Int) - 1 = (j : Int) by omega]
      obtain ⟨b, o, x, rfl, hz, g0, g1, g2, g3⟩ := (hrow.later hlw).getN (show j < n by omega)
      obtain ⟨fn, tmps, assign, body, hy, hR⟩ := hY (n - (j + 1)) (j, x) wr (roundsN_get hz (by omega)) hJs
      simp only [backVN, paV] at hy hR
      have HLW := Lib.hid hlw; have HBS := Lib.hid hbs; have HR := Lib.hid hR
      clear hlw hR hz
      gi_wp2
      refine HR.out.mono ?_
      rintro e W3 (⟨rfl, hJ3, hk3⟩ | ⟨rfl, hJx3⟩)
      · rw [show n - (j + 1) + 1 = n - j by omega] at hJ3
        gi_wp2
        go_roundw
        case rel => exact ⟨j, by omega, by go_num, hJ3, Below.trans HLW.out hk3.1, hk3.2 _ HBS.out⟩
        case measure => simp [intOf]
      · gi_wp2
        refine bodyPost_ret (results_none rfl _ _ _) rfl ?_
        exact ⟨⟨_, rfl⟩, .inr ⟨_, by rw [roundsN_length]; omega, hJx3⟩⟩

theorem backN_any (A : Option Addr) (n c : Nat) (w : World) :
    Calls Tryz.prog 35 #[.slice A n c] w fun e w' => e = .returned (.func (.func 53) #[] #[.pointer (some ⟨w.heap.size, 0, none⟩)]) /\ w' = w.alloc (.cells #[.slice A n c] 40) := by
  go_enter Tryz.func35, Tryz.ntmps35
  go_wp2
  go_ret
  exact ⟨rfl, rfl⟩

theorem backN_hands (m Bs : Nat) (hm : 1 <= m) (A : Option Addr) (n c : Nat) (xs : List PaC) (hn : n <= 524288) (w00 w : World) (hrow : RowK 4 w00 A n (xs.map paL)) (hl : Later w00 w) (hBs : w.cell? ⟨Bs, 0, none⟩ = some (.slice A n c)) :
    Hands m Tryz.prog 53 #[.pointer (some ⟨Bs, 0, none⟩)] backVN (KpB w00.heap.size Bs) (roundsN xs) w := fun l J Jx W hW hY h0 =>
  back1n_in m l Bs hm A n c xs hn w00 hrow J Jx hY W (hl.trans hW) (Later.cell hW hBs) h0

end Go.Proofs.YtlnjhimbgckdcaaGreat

/-
  The first statement of Past: in whatever order its operations come.
-/
namespace Go.Proofs.YtlnjhimbgckdcaaGreat
open Go.RowKit Go.Maps

structure PaAD where
  y : PaC
  u : Value
structure PaA (w V0 : World) (g g3 : Nat) (qc : PaC) (q : Pa) (n : Nat) (b : Bool) (s : Nat) (D : PaAD) (V : World) : Prop where
  later : Later w V
  size : V0.heap.size <= V.heap.size
  x4 : BoxAt V g (if 2 <= s then (paL D.y).toArray else #[.int .i64 0, .string ⟨#[]⟩, .slice none 0 0, .slice none 0 0]) 30
  x5 : BoxAt V (g + 1) #[if 3 <= s then D.u else .slice none 0 0] 40
  x6 : BoxAt V (g + 2) #[.bool false] 4
  first : 1 <= s -> PaOk V D.y /\ D.y.v = q /\ FreshN V0 D.y
  second : b = true -> OwnNs 30 w V D.u (List.replicate n zeroN) /\ ∀ k, D.u.ownBlock = some k -> V0.heap.size <= k
  x3 : BoxAt V g3 (paL qc).toArray 30
  apart : 1 <= s -> b = true -> ∀ k, D.u.ownBlock = some k -> AwayN k D.y
section
variable {w V0 V V' : World} {g g3 : Nat} {qc : PaC} {q : Pa} {n : Nat} {b : Bool} {s : Nat} {D : PaAD}
theorem PaA.clone (h : PaA w V0 g g3 qc q n b 0 D V) {y : PaC} (ho : PaOk V' y) (hv : y.v = q) (hf : FreshN V y) (hl : Later V V') : PaA w V0 g g3 qc q n b 1 { D with y := y } V' :=
  ⟨h.later.trans hl, Nat.le_trans h.size hl.le, h.x4.later hl, h.x5.later hl, h.x6.later hl, fun _ => ⟨ho, hv, hf.low h.size⟩, fun e => ⟨(h.second e).1.on hl, (h.second e).2⟩, h.x3.later hl, fun _ e k hk => hf.away ((h.second e).1.lt k hk)⟩
theorem PaA.make (h : PaA w V0 g g3 qc q n false s D V) (hs : s <= 2) {c : Nat} (ho : OwnNs 30 w V' (.slice (some ⟨V.heap.size, 0, none⟩) n c) (List.replicate n zeroN)) (hl : Later V V') : PaA w V0 g g3 qc q n true s { D with u := .slice (some ⟨V.heap.size, 0, none⟩) n c } V' := by
  have h5 := h.x5
  rw [if_neg (by omega)] at h5
  refine ⟨h.later.trans hl, Nat.le_trans h.size hl.le, h.x4.later hl, by rw [if_neg (by omega)]; exact h5.later hl, h.x6.later hl, fun e => ⟨(h.first e).1.later hl, (h.first e).2⟩, fun _ => ⟨ho, fun k hk => ?_⟩, h.x3.later hl, fun e _ k hk => ?_⟩
  · cases hk; exact h.size
  · cases hk; exact (h.first e).1.away (Nat.le_refl _)
theorem PaA.st4 (h : PaA w V0 g g3 qc q n b 1 D V) (h3 : g3 ≠ g) (hg : w.heap.size <= g) (hV0 : g + 2 < V0.heap.size) (hb : BoxAt V' g (paL D.y).toArray 30) (ht : Turned g V V') : PaA w V0 g g3 qc q n b 2 D V' := by
  have hl := h.later.turn ht hg
  refine ⟨hl, Nat.le_trans h.size ht.size, hb, h.x5.other ht (by omega), h.x6.other ht (by omega), fun _ => ⟨(h.first (Nat.le_refl _)).1.off ht ((h.first (Nat.le_refl _)).2.2.away (by omega)), (h.first (Nat.le_refl _)).2⟩, fun e => ⟨(h.second e).1.other ht (fun e' => by have := (h.second e).2 _ e'; omega) (fun y hy => by rw [List.eq_of_mem_replicate hy]; exact zeroN_away _) hl, (h.second e).2⟩, h.x3.other ht h3, fun _ e => h.apart (Nat.le_refl _) e⟩
theorem PaA.st5 (h : PaA w V0 g g3 qc q n true 2 D V) (h3 : g3 ≠ g + 1) (hg : w.heap.size <= g) (hV0 : g + 2 < V0.heap.size) (hb : BoxAt V' (g + 1) #[D.u] 40) (ht : Turned (g + 1) V V') : PaA w V0 g g3 qc q n true 3 D V' := by
  have hl := h.later.turn ht (by omega)
  refine ⟨hl, Nat.le_trans h.size ht.size, h.x4.other ht (by omega), hb, h.x6.other ht (by omega), fun _ => ⟨(h.first (by decide)).1.off ht ((h.first (by decide)).2.2.away (by omega)), (h.first (by decide)).2⟩, fun e => ⟨(h.second e).1.other ht (fun e' => by have := (h.second e).2 _ e'; omega) (fun y hy => by rw [List.eq_of_mem_replicate hy]; exact zeroN_away _) hl, (h.second e).2⟩, h.x3.other ht h3, fun _ e => h.apart (by decide) e⟩
end

set_option maxHeartbeats 1600000 in
theorem paa_region {ops : Array Oper} (hn : ops.size = 7) (hg : goesBack ops = true)
    (o0 : OpIs ops 0 (.load 30 (.tmp 3)) (some 9) [])
    (o1 : OpIs ops 1 (.call { callee := .value (.func 23), args := #[.tmp 9], argTypes := #[30] }) (some 10) [0])
    (o2 : OpIs ops 2 (.move (.tmp 0)) (some 11) [])
    (o3 : OpIs ops 3 (.call { callee := .builtin .len, args := #[.tmp 11], argTypes := #[40] }) (some 12) [2])
    (o4 : OpIs ops 4 (.makeSlice 40 (.tmp 12) (.tmp 12)) (some 13) [3])
    (o5 : OpIs ops 5 (.store 30 (.tmp 4) (.tmp 10)) none [0, 1])
    (o6 : OpIs ops 6 (.store 40 (.tmp 5) (.tmp 13)) none [4, 5])
    {a1 : Act} (hs : 33 <= a1.tmps.size) {wx : World} {wE : World} {A : Option Addr} {n c g g3 : Nat} {q : PaC} (e0 : a1.eval (.tmp 0) = .slice A n c) (e3 : a1.eval (.tmp 3) = .pointer (some ⟨g3, 0, none⟩)) (e4 : a1.eval (.tmp 4) = .pointer (some ⟨g, 0, none⟩)) (e5 : a1.eval (.tmp 5) = .pointer (some ⟨g + 1, 0, none⟩)) (hl0 : Later wE wx) (hg0 : wE.heap.size <= g) (hV : g + 2 < wx.heap.size) (hq : PaOk wE q) (hn0 : n <= 65536) (h34 : g3 ≠ g) (h35 : g3 ≠ g + 1) (hb3 : BoxAt wx g3 (paL q).toArray 30) (b4 : BoxAt wx g #[.int .i64 0, .string ⟨#[]⟩, .slice none 0 0, .slice none 0 0] 30) (b5 : BoxAt wx (g + 1) #[.slice none 0 0] 40) (b6 : BoxAt wx (g + 2) #[.bool false] 4)
    {Q : Exit -> Act -> World -> Prop} {id : Nat} (hend : ∀ (D : PaAD) (a : Act) (w : World), SameOut a1 a [9, 10, 11, 12, 13] -> PaA wE wx g g3 q q.v n true (3) D w -> Q .normal a w) :
    (Code.region id ops true).wp Tryz.prog Q a1 wx := by
  refine region_inv (by kernel_rfl) hg (fun l a w => ∃ D : PaAD, SameOut a1 a [9, 10, 11, 12, 13] /\ PaA wE wx g g3 q q.v n (l 4) (if l 6 = true then 3 else (if l 5 = true then 2 else (if l 1 = true then 1 else 0))) D w /\ (l 0 = true -> a.eval (.tmp 9) = paV q) /\ (l 1 = true -> a.eval (.tmp 10) = paV D.y) /\ (l 2 = true -> a.eval (.tmp 11) = .slice A n c) /\ (l 3 = true -> a.eval (.tmp 12) = .int .i64 n) /\ (l 4 = true -> a.eval (.tmp 13) = D.u) /\ (l 5 = true -> l 1 = true) /\ (l 6 = true -> l 5 = true) /\ (l 6 = true -> l 4 = true) /\ (l 1 = true -> l 0 = true)) ?_ ?_ ?_
  · intro l a w i o ho hl hwait ⟨D, so, st, f0, f1, f2, f3, f4, d5_1, d6_5, d6_4, d1_0⟩
    have hi : i < 7 := by rw [← hn]; exact (Array.getElem?_eq_some_iff.1 ho).1
    have hc : i = 0 ∨ i = 1 ∨ i = 2 ∨ i = 3 ∨ i = 4 ∨ i = 5 ∨ i = 6 := by omega
    rcases hc with rfl | rfl | rfl | rfl | rfl | rfl | rfl
    · have n1 : l 1 = false := by cases hx : l 1 with | false => rfl | true => have := d1_0 hx; rw [hl] at this; cases this
      have n5 : l 5 = false := by cases hx : l 5 with | false => rfl | true => have := d5_1 hx; rw [n1] at this; cases this
      have n6 : l 6 = false := by cases hx : l 6 with | false => rfl | true => have := d6_5 hx; rw [n5] at this; cases this
      have st0 := st
      have hb0 : BoxAt w g3 (paL q).toArray 30 := st.x3
      refine o0.loadA Tryz.underlying30 Tryz.patchSize ((show _ = a1.eval _ from by simp only [Act.eval, Array.getD_eq_getD_getElem?, so.out 3 (by decide)]).trans e3) hb0 ?_
      exact ⟨D, (so.put (by decide) _), st, (fun _ => eval_put_same' _ _ _ (by rw [so.size]; show (9 : Nat) < _; omega)), (fun e => by rw [show more l 0 1 = l 1 from rfl, n1] at e; cases e), (fun e => (eval_put_other' _ _ (by decide)).trans (f2 e)), (fun e => (eval_put_other' _ _ (by decide)).trans (f3 e)), (fun e => (eval_put_other' _ _ (by decide)).trans (f4 e)), d5_1, d6_5, d6_4, (fun _ => rfl)⟩
    · have ws := o1.waits ho hwait
      have w0 := ws 0 (by simp)
      have n5 : l 5 = false := by cases hx : l 5 with | false => rfl | true => have := d5_1 hx; rw [hl] at this; cases this
      have n6 : l 6 = false := by cases hx : l 6 with | false => rfl | true => have := d6_5 hx; rw [n5] at this; cases this
      have st0 : PaA wE wx g g3 q q.v n (l 4) 0 D w := by
        have hst := st
        simp only [hl, n5, n6, Bool.false_eq_true, if_false] at hst
        exact hst
      refine o1.call1 (enters_of Tryz.func23 (by kernel_rfl) rfl) (f0 w0) (clone7_any q w (hq.later st0.later)) ?_
      rintro e w' ⟨y, rfl, hv', ho', hf', hl'⟩
      have st1 := st0.clone ho' hv' hf' hl'
      have st2 : PaA wE wx g g3 q q.v n ((more l 1) 4) (if (more l 1) 6 = true then 3 else (if (more l 1) 5 = true then 2 else (if (more l 1) 1 = true then 1 else 0))) ({ D with y := y }) w' := by
        rw [if_neg (show ¬ (more l 1 6 = true) from by rw [show more l 1 6 = l 6 from rfl, n6]; simp), if_neg (show ¬ (more l 1 5 = true) from by rw [show more l 1 5 = l 5 from rfl, n5]; simp), if_pos (show more l 1 1 = true from rfl)]
        exact st1
      exact ⟨_, rfl, ⟨{ D with y := y }, (so.put (by decide) _), st2, (fun e => (eval_put_other' _ _ (by decide)).trans (f0 e)), (fun _ => eval_put_same' _ _ _ (by rw [so.size]; show (10 : Nat) < _; omega)), (fun e => (eval_put_other' _ _ (by decide)).trans (f2 e)), (fun e => (eval_put_other' _ _ (by decide)).trans (f3 e)), (fun e => (eval_put_other' _ _ (by decide)).trans (f4 e)), (fun _ => rfl), d6_5, d6_4, (fun _ => w0)⟩⟩
    · have st0 := st
      have ev : a.eval (.tmp 0) = .slice A n c := ((show _ = a1.eval _ from by simp only [Act.eval, Array.getD_eq_getD_getElem?, so.out 0 (by decide)]).trans e0)
      refine o2.move ?_
      rw [ev]
      exact ⟨D, (so.put (by decide) _), st, (fun e => (eval_put_other' _ _ (by decide)).trans (f0 e)), (fun e => (eval_put_other' _ _ (by decide)).trans (f1 e)), (fun _ => eval_put_same' _ _ _ (by rw [so.size]; show (11 : Nat) < _; omega)), (fun e => (eval_put_other' _ _ (by decide)).trans (f3 e)), (fun e => (eval_put_other' _ _ (by decide)).trans (f4 e)), d5_1, d6_5, d6_4, d1_0⟩
    · have ws := o3.waits ho hwait
      have w2 := ws 2 (by simp)
      have st0 := st
      refine o3.lenN (f2 w2) ?_
      exact ⟨D, (so.put (by decide) _), st, (fun e => (eval_put_other' _ _ (by decide)).trans (f0 e)), (fun e => (eval_put_other' _ _ (by decide)).trans (f1 e)), (fun e => (eval_put_other' _ _ (by decide)).trans (f2 e)), (fun _ => eval_put_same' _ _ _ (by rw [so.size]; show (12 : Nat) < _; omega)), (fun e => (eval_put_other' _ _ (by decide)).trans (f4 e)), d5_1, d6_5, d6_4, d1_0⟩
    · have ws := o4.waits ho hwait
      have w3 := ws 3 (by simp)
      have n6 : l 6 = false := by cases hx : l 6 with | false => rfl | true => have := d6_4 hx; rw [hl] at this; cases this
      have st0 := st
      refine o4.makeN (f3 w3) (f3 w3) (by omega) st0.later ?_
      intro w' ho' hl'
      have st1 := PaA.make (by rw [hl] at st0; exact st0) (by
        simp only [n6, Bool.false_eq_true, if_false]
        split
        · omega
        · split <;> omega) ho' hl'
      have st2 : PaA wE wx g g3 q q.v n ((more l 4) 4) (if (more l 4) 6 = true then 3 else (if (more l 4) 5 = true then 2 else (if (more l 4) 1 = true then 1 else 0))) ({ D with u := .slice (some ⟨w.heap.size, 0, none⟩) n n }) w' := st1
      exact ⟨{ D with u := .slice (some ⟨w.heap.size, 0, none⟩) n n }, (so.put (by decide) _), st2, (fun e => (eval_put_other' _ _ (by decide)).trans (f0 e)), (fun e => (eval_put_other' _ _ (by decide)).trans (f1 e)), (fun e => (eval_put_other' _ _ (by decide)).trans (f2 e)), (fun e => (eval_put_other' _ _ (by decide)).trans (f3 e)), (fun _ => eval_put_same' _ _ _ (by rw [so.size]; show (13 : Nat) < _; omega)), d5_1, d6_5, (fun _ => rfl), d1_0⟩
    · have ws := o5.waits ho hwait
      have w0 := ws 0 (by simp)
      have w1 := ws 1 (by simp)
      have n6 : l 6 = false := by cases hx : l 6 with | false => rfl | true => have := d6_5 hx; rw [hl] at this; cases this
      have st0 : PaA wE wx g g3 q q.v n (l 4) 1 D w := by
        have hst := st
        simp only [hl, n6, Bool.false_eq_true, if_false, if_true, w1] at hst
        exact hst
      refine o5.storeA Tryz.patchSize ((show _ = a1.eval _ from by simp only [Act.eval, Array.getD_eq_getD_getElem?, so.out 4 (by decide)]).trans e4) (f1 w1) st0.x4 rfl ?_
      intro w' hb' ht'
      have st1 := st0.st4 h34 hg0 hV hb' ht'
      have st2 : PaA wE wx g g3 q q.v n ((more l 5) 4) (if (more l 5) 6 = true then 3 else (if (more l 5) 5 = true then 2 else (if (more l 5) 1 = true then 1 else 0))) (D) w' := by
        rw [if_neg (show ¬ (more l 5 6 = true) from by rw [show more l 5 6 = l 6 from rfl, n6]; simp), if_pos (show more l 5 5 = true from rfl)]
        exact st1
      exact ⟨D, so, st2, f0, f1, f2, f3, f4, (fun _ => w1), (fun _ => rfl), d6_4, d1_0⟩
    · have ws := o6.waits ho hwait
      have w4 := ws 4 (by simp)
      have w5 := ws 5 (by simp)
      have w1 := d5_1 w5
      have w0 := d1_0 w1
      have st0 : PaA wE wx g g3 q q.v n true 2 D w := by
        have hst := st
        rw [w4] at hst
        simp only [hl, Bool.false_eq_true, if_false, if_true, w5] at hst
        exact hst
      obtain ⟨A2, c2, hv2, _, _⟩ := (st0.second rfl).1.row
      refine o6.storeV1 ((show _ = a1.eval _ from by simp only [Act.eval, Array.getD_eq_getD_getElem?, so.out 5 (by decide)]).trans e5) ((f4 w4).trans hv2) st0.x5 ?_
      intro w' hb' ht'
      rw [← hv2] at hb'
      have st1 := st0.st5 h35 hg0 hV hb' ht'
      have st2 : PaA wE wx g g3 q q.v n ((more l 6) 4) (if (more l 6) 6 = true then 3 else (if (more l 6) 5 = true then 2 else (if (more l 6) 1 = true then 1 else 0))) (D) w' := by
        rw [show more l 6 4 = true from w4, if_pos (show more l 6 6 = true from rfl)]
        exact st1
      exact ⟨D, so, st2, f0, f1, f2, f3, f4, d5_1, (fun _ => w5), (fun _ => w4), d1_0⟩
  · intro l a w hall ⟨D, so, st, f0, f1, f2, f3, f4, d5_1, d6_5, d6_4, d1_0⟩
    rw [hn] at hall
    have hst : PaA wE wx g g3 q q.v n true 3 D w := by
      have hst := st
      rw [hall 4 (by decide)] at hst
      simp only [hall 6 (by decide), if_true] at hst
      exact hst
    exact hend D a w so hst
  · have h0 : PaA wE wx g g3 q q.v n false 0 ⟨zeroN, .slice none 0 0⟩ { wx with drawn := wx.drawn + 1 } := ⟨hl0.drew, Nat.le_refl _, b4, b5, b6, (fun e => by omega), (fun e => by cases e), hb3, (fun e => by omega)⟩
    exact ⟨⟨zeroN, .slice none 0 0⟩, SameOut.refl _ _, h0, (fun e => by cases e), (fun e => by cases e), (fun e => by cases e), (fun e => by cases e), (fun e => by cases e), (fun e => by cases e), (fun e => by cases e), (fun e => by cases e), (fun e => by cases e)⟩

end Go.Proofs.YtlnjhimbgckdcaaGreat
