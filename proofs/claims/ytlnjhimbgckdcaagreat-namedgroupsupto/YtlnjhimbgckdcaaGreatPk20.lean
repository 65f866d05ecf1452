import Derived.Test.YtlnjhimbgckdcaaGreatPk18
import Derived.Test.YtlnjhimbgckdcaaGreatPk4
import Derived.Test.YtlnjhimbgckdcaaGreatPk3
import Derived.Test.YtlnjhimbgckdcaaGreatPk19

/-
  Operations of a region that are guarded by one that yields false.
-/
namespace Go.Proofs.YtlnjhimbgckdcaaGreat
open Go.RowKit Go.Maps

def OpN (ops : Array Oper) (i : Nat) (op : Op) (dst : Option Tmp) (js : List Nat) (g : Nat) (d : Tmp) : Prop := ∃ o, ops[i]? = some o ∧ o.op = op ∧ o.dst = dst ∧ o.guard = some (g, false) ∧ needs o js = true ∧ (ops[g]?).bind (·.dst) = some d
theorem OpN.waits {ops : Array Oper} {i g : Nat} {d : Tmp} {op : Op} {dst : Option Tmp} {js : List Nat} (h : OpN ops i op dst js g d) {o : Oper} (ho : ops[i]? = some o) {l : Nat → Bool} (hl : ∀ e ∈ o.after, Region.binds .any e = true → l e.on = true) : ∀ j ∈ js, l j = true := by
  obtain ⟨o', h1, -, -, -, h5, -⟩ := h
  rw [ho] at h1
  cases h1
  intro j hj
  have := List.all_eq_true.1 h5 j hj
  simp only [Array.any_eq_true, Bool.and_eq_true, decide_eq_true_eq] at this
  obtain ⟨k, hk, e1, e2⟩ := this
  rw [← e1]
  exact hl _ (Array.getElem_mem hk) e2
theorem OpN.un {ops : Array Oper} {i g : Nat} {d : Tmp} {op : Op} {dst : Option Tmp} {js : List Nat} (h : OpN ops i op dst js g d) : OpIs (unguard ops i) i op dst [] := by
  obtain ⟨o, h1, h2, h3, -, -, -⟩ := h
  exact ⟨{ o with guard := none }, by simp [unguard, Array.getElem?_modify, h1], h2, h3, rfl, rfl⟩
theorem OpN.via {P : Program} {ops : Array Oper} {Q : Exit → Act → World → Prop} {K : Act → World → Prop} {i g : Nat} {d : Tmp} {op : Op} {dst : Option Tmp} {js : List Nat} {a : Act} {w : World} (h : OpN ops i op dst js g d) (hv : a.eval (.tmp d) = .bool false) (hd : d < a.tmps.size)
    (hk : wpOp P (unguard ops i) Q i K a w) : wpOp P ops Q i K a w := by
  obtain ⟨o, h1, -, -, h4, -, h6⟩ := h
  unfold wpOp at hk ⊢
  rw [h1]
  have e1 : (unguard ops i)[i]? = some { o with guard := none } := by simp [unguard, Array.getElem?_modify, h1]
  rw [e1] at hk
  have e2 : Region.wanted o (yielded ops a.tmps) = true := by
    have ht : a.tmps[d]? = some (.bool false) := by
      rw [Array.getElem?_eq_getElem hd]
      have := hv
      simp only [Act.eval, Array.getD, hd, dif_pos] at this
      exact congrArg some this
    simp only [Region.wanted, h4, yielded]
    rw [h6]
    simp [ht]
  dsimp only at hk ⊢
  rw [if_pos e2]
  rw [if_pos (by rfl)] at hk
  exact hk

section
variable {ops : Array Oper} {Q : Exit → Act → World → Prop} {K : Act → World → Prop} {i : Nat} {dst : Option Tmp} {js : List Nat} {a : Act} {w w0 : World}
theorem OpIs.notB {k : Tmp} {b : Bool} (h : OpIs ops i (.unOp .not 4 (.tmp k)) dst js) (he : a.eval (.tmp k) = .bool b) (hk : K (a.put dst (.bool (!b))) w) : wpOp Tryz.prog ops Q i K a w :=
  h.go fun op h1 h2 => by
    have hr : (execOp a.eval op).run Tryz.prog w = .ok (.value (.bool (!b))) w := by
      unfold execOp
      rw [h1]
      dsimp only
      rw [he]
      go_simp
    unfold Oper.wp
    rw [hr]
    show K _ _
    rw [h2]
    exact hk
theorem OpIs.pickF {j k : Tmp} {v : Value} (h : OpIs ops i (.pick (.tmp j) (.const (.bool true)) (.tmp k)) dst js) (hj : a.eval (.tmp j) = .bool false) (hv : a.eval (.tmp k) = v) (hk : K (a.put dst v) w) : wpOp Tryz.prog ops Q i K a w :=
  h.go fun op h1 h2 => by
    have hr : (execOp a.eval op).run Tryz.prog w = .ok (.value v) w := by
      unfold execOp
      rw [h1]
      dsimp only
      rw [hj, hv]
      go_simp
    unfold Oper.wp
    rw [hr]
    show K _ _
    rw [h2]
    exact hk
end

end Go.Proofs.YtlnjhimbgckdcaaGreat

/-
  A region that draws its order, whose operations read, or make memory, and turn nothing that is there: one law for any number of operations.
-/
namespace Go.Proofs.YtlnjhimbgckdcaaGreat
open Go.RowKit Go.Maps

theorem getD_inj {l : List Nat} (h : l.Nodup) {i j : Nat} (hi : i < l.length) (hj : j < l.length) (hne : i ≠ j) : l.getD i 0 ≠ l.getD j 0 := by
  rw [List.getD, List.getD, List.getElem?_eq_getElem hi, List.getElem?_eq_getElem hj]
  intro e
  exact hne ((List.getElem_inj h).1 e)
theorem getD_mem {l : List Nat} {i : Nat} (hi : i < l.length) : l.getD i 0 ∈ l := by
  rw [List.getD, List.getElem?_eq_getElem hi]
  exact List.getElem_mem hi
def Known (wx : World) (ds : List Nat) (n : Nat) (R : Nat → Value → World → Prop) (l : Nat → Bool) (a : Act) (w : World) : Prop := ∀ k, l k = true → k < n → ∃ w0, Later wx w0 ∧ Later w0 w ∧ R k (a.eval (.tmp (ds.getD k 0))) w0
theorem region_reads {P : Program} {ops : Array Oper} {Q : Exit → Act → World → Prop} {id : Nat} {a1 : Act} {wx : World} {n : Nat} (hm : P.follows .mixedOrders = true) (hg : goesBack ops = true) (hn : ops.size = n) (ds : List Nat) (hnd : ds.Nodup) (hlen : ds.length = n) (hsz : ∀ d ∈ ds, d < a1.tmps.size) (R : Nat → Value → World → Prop)
    (hstep : ∀ (l : Nat → Bool) (a : Act) (w : World) (i : Nat) (o : Oper) (K : Act → World → Prop), ops[i]? = some o → i < n → (∀ e ∈ o.after, Region.binds .any e = true → l e.on = true) → SameOut a1 a ds → Later wx w → Known wx ds n R l a w → (∀ v w', Later w w' → R i v w' → K (a.put (some (ds.getD i 0)) v) w') → wpOp P ops Q i K a w)
    (hend : ∀ a w, SameOut a1 a ds → Later wx w → Known wx ds n R (fun _ => true) a w → Q .normal a w) : (Code.region id ops true).wp P Q a1 wx := by
  refine region_inv hm hg (fun l a w => SameOut a1 a ds ∧ Later wx w ∧ Known wx ds n R l a w) ?_ ?_ ?_
  · intro l a w i o ho hl hwait ⟨so, hl0, hf⟩
    have hi : i < n := by rw [← hn]; exact (Array.getElem?_eq_some_iff.1 ho).1
    refine hstep l a w i o _ ho hi hwait so hl0 hf fun v w' hl' hr => ?_
    refine ⟨so.put (getD_mem (by omega)) v, hl0.trans hl', fun k hk hkn => ?_⟩
    by_cases e : k = i
    · subst e
      refine ⟨w', hl0.trans hl', Later.refl w', ?_⟩
      rw [eval_put_same' _ _ _ (by rw [so.size]; exact hsz _ (getD_mem (by omega)))]
      exact hr
    · rw [more_other l e] at hk
      obtain ⟨w0, h1, h2, h3⟩ := hf k hk hkn
      refine ⟨w0, h1, h2.trans hl', ?_⟩
      rw [eval_put_other' _ _ (getD_inj hnd (by omega) (by omega) (fun e' => e e'.symm))]
      exact h3
  · intro l a w hall ⟨so, hl0, hf⟩
    refine hend a w so hl0 fun k _ hkn => hf k (hall k (by rw [hn]; exact hkn)) hkn
  · exact ⟨SameOut.refl _ _, (Later.refl wx).drew, fun k hk => by cases hk⟩

section
variable {P : Program} {ops : Array Oper} {Q : Exit → Act → World → Prop} {K : Act → World → Prop} {i g : Nat} {d e : Tmp} {op : Op} {js : List Nat} {a : Act} {w : World}
theorem OpG.skip (h : OpG ops i op (some e) js g d) (hv : a.eval (.tmp d) = .bool false) (hd : d < a.tmps.size) (hk : K (a.put (some e) undef) w) : wpOp P ops Q i K a w := by
  obtain ⟨o, h1, -, h3, h4, -, h6⟩ := h
  unfold wpOp
  rw [h1]
  have e2 : ¬ Region.wanted o (yielded ops a.tmps) = true := by
    have ht : a.tmps[d]? = some (.bool false) := by
      rw [Array.getElem?_eq_getElem hd]
      have := hv
      simp only [Act.eval, Array.getD, hd, dif_pos] at this
      exact congrArg some this
    simp only [Region.wanted, h4, yielded]
    rw [h6]
    simp [ht]
  dsimp only
  rw [if_neg e2, h3]
  exact hk
theorem OpN.skip (h : OpN ops i op (some e) js g d) (hv : a.eval (.tmp d) = .bool true) (hd : d < a.tmps.size) (hk : K (a.put (some e) undef) w) : wpOp P ops Q i K a w := by
  obtain ⟨o, h1, -, h3, h4, -, h6⟩ := h
  unfold wpOp
  rw [h1]
  have e2 : ¬ Region.wanted o (yielded ops a.tmps) = true := by
    have ht : a.tmps[d]? = some (.bool true) := by
      rw [Array.getElem?_eq_getElem hd]
      have := hv
      simp only [Act.eval, Array.getD, hd, dif_pos] at this
      exact congrArg some this
    simp only [Region.wanted, h4, yielded]
    rw [h6]
    simp [ht]
  dsimp only
  rw [if_neg e2, h3]
  exact hk
end

end Go.Proofs.YtlnjhimbgckdcaaGreat

/-
  More operations of a region that draws its order: fields, numbers, picks.
-/
namespace Go.Proofs.YtlnjhimbgckdcaaGreat
open Go.RowKit Go.Maps

section
variable {ops : Array Oper} {Q : Exit → Act → World → Prop} {K : Act → World → Prop} {i : Nat} {dst : Option Tmp} {js : List Nat} {a : Act} {w w0 : World}
theorem OpIs.fieldN {k : Tmp} {f g o : Nat} (h : OpIs ops i (.fieldAddr 30 (.tmp k) f) dst js) (hf : f < 4) (he : a.eval (.tmp k) = .pointer (some ⟨g, o, none⟩)) (hk : K (a.put dst (.pointer (some ⟨g, o + f, none⟩))) w) : wpOp Tryz.prog ops Q i K a w :=
  h.go fun op h1 h2 => by
    have hr : (execOp a.eval op).run Tryz.prog w = .ok (.value (.pointer (some ⟨g, o + f, none⟩))) w := by
      clear hk
      unfold execOp
      rw [h1]
      dsimp only
      rw [he]
      have h4 : f = 0 ∨ f = 1 ∨ f = 2 ∨ f = 3 := by omega
      rcases h4 with rfl | rfl | rfl | rfl <;> go_simp
    unfold Oper.wp
    rw [hr]
    show K _ _
    rw [h2]
    exact hk
theorem OpIs.fieldRN {k : Tmp} {f g o : Nat} (h : OpIs ops i (.fieldAddr 25 (.tmp k) f) dst js) (hf : f < 4) (he : a.eval (.tmp k) = .pointer (some ⟨g, o, none⟩)) (hk : K (a.put dst (.pointer (some ⟨g, o + f, none⟩))) w) : wpOp Tryz.prog ops Q i K a w :=
  h.go fun op h1 h2 => by
    have hr : (execOp a.eval op).run Tryz.prog w = .ok (.value (.pointer (some ⟨g, o + f, none⟩))) w := by
      clear hk
      unfold execOp
      rw [h1]
      dsimp only
      rw [he]
      have h4 : f = 0 ∨ f = 1 ∨ f = 2 ∨ f = 3 := by omega
      rcases h4 with rfl | rfl | rfl | rfl <;> go_simp
    unfold Oper.wp
    rw [hr]
    show K _ _
    rw [h2]
    exact hk
theorem OpIs.eqlC {k : Tmp} {z : Int} (h : OpIs ops i (.binOp .eql 3 (.tmp k) (.const (.int .i64 z)) 3) dst js) (he : a.eval (.tmp k) = .int .i64 z) (hk : K (a.put dst (.bool true)) w) : wpOp Tryz.prog ops Q i K a w :=
  h.go fun op h1 h2 => by
    have hr : (execOp a.eval op).run Tryz.prog w = .ok (.value (.bool true)) w := by
      clear hk
      unfold execOp
      rw [h1]
      dsimp only
      rw [he]
      go_simp
    unfold Oper.wp
    rw [hr]
    show K _ _
    rw [h2]
    exact hk
theorem OpIs.pickNo {j k : Tmp} (h : OpIs ops i (.pick (.tmp j) (.tmp k) (.const (.bool false))) dst js) (he : a.eval (.tmp j) = .bool false) (hk : K (a.put dst (.bool false)) w) : wpOp Tryz.prog ops Q i K a w :=
  h.go fun op h1 h2 => by
    have hr : (execOp a.eval op).run Tryz.prog w = .ok (.value (.bool false)) w := by
      clear hk
      unfold execOp
      rw [h1]
      dsimp only
      rw [he]
      go_simp
    unfold Oper.wp
    rw [hr]
    show K _ _
    rw [h2]
    exact hk
theorem OpIs.pickYes {j k : Tmp} (h : OpIs ops i (.pick (.tmp j) (.const (.bool true)) (.tmp k)) dst js) (he : a.eval (.tmp j) = .bool true) (hk : K (a.put dst (.bool true)) w) : wpOp Tryz.prog ops Q i K a w :=
  h.go fun op h1 h2 => by
    have hr : (execOp a.eval op).run Tryz.prog w = .ok (.value (.bool true)) w := by
      clear hk
      unfold execOp
      rw [h1]
      dsimp only
      rw [he]
      go_simp
    unfold Oper.wp
    rw [hr]
    show K _ _
    rw [h2]
    exact hk
theorem OpIs.loadI7 {k : Tmp} {g o : Nat} {x : Int} (h : OpIs ops i (.load 3 (.tmp k)) dst js) (he : a.eval (.tmp k) = .pointer (some ⟨g, o, none⟩)) (hc : w.cell? ⟨g, o, none⟩ = some (.int .i64 x)) (hk : K (a.put dst (.int .i64 x)) w) : wpOp Tryz.prog ops Q i K a w :=
  h.go fun op h1 h2 => by
    have hr : (execOp a.eval op).run Tryz.prog w = .ok (.value (.int .i64 x)) w := by
      clear hk
      unfold execOp
      rw [h1]
      dsimp only
      rw [he]
      go_simp
    unfold Oper.wp
    rw [hr]
    show K _ _
    rw [h2]
    exact hk
theorem OpIs.loadS7 {k : Tmp} {g o : Nat} {x : ByteArray} (h : OpIs ops i (.load 9 (.tmp k)) dst js) (he : a.eval (.tmp k) = .pointer (some ⟨g, o, none⟩)) (hc : w.cell? ⟨g, o, none⟩ = some (.string x)) (hk : K (a.put dst (.string x)) w) : wpOp Tryz.prog ops Q i K a w :=
  h.go fun op h1 h2 => by
    have hr : (execOp a.eval op).run Tryz.prog w = .ok (.value (.string x)) w := by
      clear hk
      unfold execOp
      rw [h1]
      dsimp only
      rw [he]
      go_simp
    unfold Oper.wp
    rw [hr]
    show K _ _
    rw [h2]
    exact hk
theorem OpIs.loadD7 {k : Tmp} {g o n c : Nat} {A : Option Addr} (h : OpIs ops i (.load 22 (.tmp k)) dst js) (he : a.eval (.tmp k) = .pointer (some ⟨g, o, none⟩)) (hc : w.cell? ⟨g, o, none⟩ = some (.slice A n c)) (hk : K (a.put dst (.slice A n c)) w) : wpOp Tryz.prog ops Q i K a w :=
  h.go fun op h1 h2 => by
    have hr : (execOp a.eval op).run Tryz.prog w = .ok (.value (.slice A n c)) w := by
      clear hk
      unfold execOp
      rw [h1]
      dsimp only
      rw [he]
      go_simp
    unfold Oper.wp
    rw [hr]
    show K _ _
    rw [h2]
    exact hk
theorem OpIs.loadP7 {k : Tmp} {g o n c : Nat} {A : Option Addr} (h : OpIs ops i (.load 28 (.tmp k)) dst js) (he : a.eval (.tmp k) = .pointer (some ⟨g, o, none⟩)) (hc : w.cell? ⟨g, o, none⟩ = some (.slice A n c)) (hk : K (a.put dst (.slice A n c)) w) : wpOp Tryz.prog ops Q i K a w :=
  h.go fun op h1 h2 => by
    have hr : (execOp a.eval op).run Tryz.prog w = .ok (.value (.slice A n c)) w := by
      clear hk
      unfold execOp
      rw [h1]
      dsimp only
      rw [he]
      go_simp
    unfold Oper.wp
    rw [hr]
    show K _ _
    rw [h2]
    exact hk
theorem OpIs.loadR7 {k : Tmp} {g o n c : Nat} {A : Option Addr} (h : OpIs ops i (.load 23 (.tmp k)) dst js) (he : a.eval (.tmp k) = .pointer (some ⟨g, o, none⟩)) (hc : w.cell? ⟨g, o, none⟩ = some (.slice A n c)) (hk : K (a.put dst (.slice A n c)) w) : wpOp Tryz.prog ops Q i K a w :=
  h.go fun op h1 h2 => by
    have hr : (execOp a.eval op).run Tryz.prog w = .ok (.value (.slice A n c)) w := by
      clear hk
      unfold execOp
      rw [h1]
      dsimp only
      rw [he]
      go_simp
    unfold Oper.wp
    rw [hr]
    show K _ _
    rw [h2]
    exact hk
theorem OpIs.buildZ  (h : OpIs ops i (.build 30 #[]) dst js)  (hk : K (a.put dst (paV zeroN)) w) : wpOp Tryz.prog ops Q i K a w :=
  h.go fun op h1 h2 => by
    have hr : (execOp a.eval op).run Tryz.prog w = .ok (.value (paV zeroN)) w := by
      clear hk
      unfold execOp
      rw [h1]
      dsimp only
      go_simp
      rfl
    unfold Oper.wp
    rw [hr]
    show K _ _
    rw [h2]
    exact hk
theorem OpIs.lenI7 {k : Tmp} {A : Option Addr} {n c : Nat} (h : OpIs ops i (.call { callee := .builtin .len, args := #[.tmp k], argTypes := #[22] }) dst js) (he : a.eval (.tmp k) = .slice A n c) (hk : K (a.put dst (.int .i64 n)) w) : wpOp Tryz.prog ops Q i K a w :=
  h.go fun o h1 h2 => by
    have hr : (execOp a.eval o).run Tryz.prog w = .ok (.value (.int .i64 n)) w := by
      unfold execOp
      rw [h1]
      simp only [resolve, invoke, builtin, Sem.run_bind, List.map_toArray, List.map_cons, List.map_nil, he]
      go_simp
    unfold Oper.wp
    rw [hr]
    show K _ _
    rw [h2]
    exact hk
end

end Go.Proofs.YtlnjhimbgckdcaaGreat
