import Derived.Test.YtbhnbkcokhfopaaGreatPk20
import Derived.Test.YtbhnbkcokhfopaaGreatPk16
import Derived.Test.YtbhnbkcokhfopaaGreatPk14

/-
  Operations of a region that draws its order, over the document's trees: a file's name and lines; a call with three arguments; a prim of a name alone; append, and where the row lies then.
-/
namespace Go.Proofs.YtbhnbkcokhfopaaGreat
open Go.RowKit Go.Maps

section
variable {ops : Array Oper} {Q : Exit → Act → World → Prop} {K : Act → World → Prop} {i : Nat} {dst : Option Tmp} {js : List Nat} {a : Act} {w w0 : World}
theorem OpIs.indexT {j k : Tmp} {g o n c m : Nat} (h : OpIs ops i (.indexAddr 27 (.tmp j) (.tmp k)) dst js) (hj : a.eval (.tmp j) = .slice (some ⟨g, o, none⟩) n c) (hk' : a.eval (.tmp k) = .int .i64 (m : Nat)) (hm : m < n) (hk : K (a.put dst (.pointer (some ⟨g, o + m * 2, none⟩))) w) : wpOp Tryz.prog ops Q i K a w :=
  h.go fun op h1 h2 => by
    have hr : (execOp a.eval op).run Tryz.prog w = .ok (.value (.pointer (some ⟨g, o + m * 2, none⟩))) w := by
      unfold execOp
      rw [h1]
      simp only [hj, hk']
      go_simp
    unfold Oper.wp
    rw [hr]
    show K _ _
    rw [h2]
    exact hk
theorem OpIs.fieldT {k : Tmp} {f g o : Nat} (h : OpIs ops i (.fieldAddr 62 (.tmp k) f) dst js) (hf : f < 2) (he : a.eval (.tmp k) = .pointer (some ⟨g, o, none⟩)) (hk : K (a.put dst (.pointer (some ⟨g, o + f, none⟩))) w) : wpOp Tryz.prog ops Q i K a w :=
  h.go fun op h1 h2 => by
    have hr : (execOp a.eval op).run Tryz.prog w = .ok (.value (.pointer (some ⟨g, o + f, none⟩))) w := by
      unfold execOp
      rw [h1]
      simp only [he]
      rcases (by omega : f = 0 ∨ f = 1) with rfl | rfl <;> go_simp
    unfold Oper.wp
    rw [hr]
    show K _ _
    rw [h2]
    exact hk
theorem OpIs.loadN {k : Tmp} {g o : Nat} {s : ByteArray} (h : OpIs ops i (.load 9 (.tmp k)) dst js) (he : a.eval (.tmp k) = .pointer (some ⟨g, o, none⟩)) (hc : w.cell? ⟨g, o, none⟩ = some (.string s)) (hk : K (a.put dst (.string s)) w) : wpOp Tryz.prog ops Q i K a w :=
  h.go fun op h1 h2 => by
    have hr : (execOp a.eval op).run Tryz.prog w = .ok (.value (.string s)) w := by
      unfold execOp
      rw [h1]
      simp only [he]
      go_simp
    unfold Oper.wp
    rw [hr]
    show K _ _
    rw [h2]
    exact hk
theorem OpIs.loadL {k : Tmp} {g o : Nat} {A : Option Addr} {n c : Nat} (h : OpIs ops i (.load 45 (.tmp k)) dst js) (he : a.eval (.tmp k) = .pointer (some ⟨g, o, none⟩)) (hc : w.cell? ⟨g, o, none⟩ = some (.slice A n c)) (hk : K (a.put dst (.slice A n c)) w) : wpOp Tryz.prog ops Q i K a w :=
  h.go fun op h1 h2 => by
    have hr : (execOp a.eval op).run Tryz.prog w = .ok (.value (.slice A n c)) w := by
      unfold execOp
      rw [h1]
      simp only [he]
      go_simp
    unfold Oper.wp
    rw [hr]
    show K _ _
    rw [h2]
    exact hk
theorem OpIs.call3 {f : FuncId} {x y z : Operand} {t s r : TypeId} {v u q : Value} {Post : Ending → World → Prop} (h : OpIs ops i (.call { callee := .value (.func f), args := #[x, y, z], argTypes := #[t, s, r] }) dst js) (hf : ∀ args w, (callFunc f args).run Tryz.prog w = .ok (.enter f args) w)
    (he : a.eval x = v) (he2 : a.eval y = u) (he3 : a.eval z = q) (hc : Calls Tryz.prog f #[v, u, q] w Post) (hk : ∀ e w', Post e w' → ∃ r, e = .returned r ∧ K (a.put dst r) w') : wpOp Tryz.prog ops Q i K a w :=
  h.go fun o h1 h2 => by
    have hr : (execOp a.eval o).run Tryz.prog w = .ok (.enter f #[v, u, q]) w := by
      unfold execOp
      rw [h1]
      simp only [resolve, invoke, Sem.run_bind, List.map_toArray, List.map_cons, List.map_nil, he, he2, he3]
      go_simp
    unfold Oper.wp
    rw [hr]
    show Calls _ _ _ _ _
    refine hc.mono ?_
    intro e w' hp
    obtain ⟨r, rfl, hku⟩ := hk e w' hp
    dsimp only
    rw [h2]
    exact hku
theorem OpIs.buildB {j : Tmp} {nm : ByteArray} {z : Int} (h : OpIs ops i (.build 70 #[(0, .const (.int .i64 z)), (1, .tmp j)]) dst js) (hj : a.eval (.tmp j) = .string nm) (hk : K (a.put dst (prV (bareC z nm))) w) : wpOp Tryz.prog ops Q i K a w :=
  h.go fun op h1 h2 => by
    have hr : (execOp a.eval op).run Tryz.prog w = .ok (.value (prV (bareC z nm))) w := by
      unfold execOp
      rw [h1]
      simp only [hj, List.map_toArray, List.map_cons, List.map_nil]
      go_simp
      rfl
    unfold Oper.wp
    rw [hr]
    show K _ _
    rw [h2]
    exact hk
theorem OpIs.appendR5 {j k : Tmp} {v : Value} {xs ys : List PrC} {A : Option Addr} {m c : Nat} (h : OpIs ops i (.call { callee := .builtin .append, args := #[.tmp j, .tmp k], argTypes := #[34, 34] }) dst js) (hj : a.eval (.tmp j) = v) (hv : a.eval (.tmp k) = .slice A m c)
    (hown : OwnPs 70 w0 w v xs) (hr : RowK 6 w A m (ys.map prL)) (hok : ∀ y ∈ ys, PrOk w y) (haw : ∀ y ∈ ys, ∀ g, v.ownBlock = some g → Away g y) (hb : xs.length + m ≤ 1000000)
    (hk : ∀ v' w', OwnPs 70 w0 w' v' (xs ++ ys) → w.grownBy w' v.ownBlock → (v'.ownBlock = v.ownBlock ∨ v'.ownBlock = some w.heap.size) → K (a.put dst v') w') : wpOp Tryz.prog ops Q i K a w :=
  h.go fun o h1 h2 => by
    obtain ⟨i0, hi, hz0, hz1, hz2⟩ := info_parts Tryz.rprimInfo6
    obtain ⟨v', w', hrun, ho, hg, h5⟩ := run_append_ps5 (P := Tryz.prog) 34 o.type i0 _ 96 Tryz.underlying34 hi hz0 hz1 hz2 rfl hown A m c ys hr hok haw hb (by omega)
    unfold Oper.wp execOp
    simp only [h1, resolve, invoke, builtin, Sem.run_bind, Sem.run_pure, Result.andThen_ok, List.map_toArray, List.map_cons, List.map_nil, hj, hv, hrun]
    show K _ _
    rw [h2]
    exact hk v' w' ho hg h5
end

/-- Three rows of the call's own, of prims whose lines stood at wb; the first one may grow. -/
structure Tri (wb V : World) (v u c : Value) (ys zs cs : List PrC) : Prop where
  o1 : OwnPs 70 wb V v ys
  o2 : OwnPs 70 wb V u zs
  o3 : OwnPs 70 wb V c cs
  k1 : ∀ y ∈ ys, PrOk wb y
  k2 : ∀ y ∈ zs, PrOk wb y
  k3 : ∀ y ∈ cs, PrOk wb y
  n12 : ∀ g, v.ownBlock = some g → u.ownBlock ≠ some g
  n13 : ∀ g, v.ownBlock = some g → c.ownBlock ≠ some g
  n23 : ∀ g, u.ownBlock = some g → c.ownBlock ≠ some g
section
variable {wb V V' : World} {v v' u c : Value} {ys zs cs news : List PrC}
theorem Tri.later (h : Tri wb V v u c ys zs cs) : Later wb V := h.o1.later
theorem Tri.on (h : Tri wb V v u c ys zs cs) (hl : Later V V') : Tri wb V' v u c ys zs cs := ⟨h.o1.on hl, h.o2.on hl, h.o3.on hl, h.k1, h.k2, h.k3, h.n12, h.n13, h.n23⟩
theorem Tri.swap12 (h : Tri wb V v u c ys zs cs) : Tri wb V u v c zs ys cs := ⟨h.o2, h.o1, h.o3, h.k2, h.k1, h.k3, fun g h1 h2 => h.n12 g h2 h1, h.n23, h.n13⟩
theorem Tri.swap13 (h : Tri wb V v u c ys zs cs) : Tri wb V c u v cs zs ys := ⟨h.o3, h.o2, h.o1, h.k3, h.k2, h.k1, fun g h1 h2 => h.n23 g h2 h1, fun g h1 h2 => h.n13 g h2 h1, fun g h1 h2 => h.n12 g h2 h1⟩
theorem Tri.aways (h : Tri wb V v u c ys zs cs) (hk : ∀ y ∈ news, PrOk wb y) : ∀ y ∈ news, ∀ g, v.ownBlock = some g → Away g y := fun y hy g hg => (hk y hy).away (h.o1.block g hg)
theorem own_grew {e : TypeId} {w : Value} {ws : List PrC} (ho : OwnPs e wb V w ws) (hk : ∀ y ∈ ws, PrOk wb y) (hg : V.grownBy V' v.ownBlock) (hne : ∀ g, v.ownBlock = some g → w.ownBlock ≠ some g) (hb : ∀ b, v.ownBlock = some b → wb.heap.size ≤ b) : OwnPs e wb V' w ws := by
  have hl : Later wb V' := Below.grown ho.later hg ho.later.size hb
  cases hv : v.ownBlock with
  | none => rw [hv] at hg; exact ho.on ⟨hg.os, hg.tape, hg.output, hg.size, fun i hi => hg.block i hi (by simp)⟩
  | some g => rw [hv] at hg; exact ho.other (g := g) hg (hne g hv) (fun z hz => (hk z hz).away (hb g hv)) hl
theorem Tri.grow (h : Tri wb V v u c ys zs cs) (ho : OwnPs 70 wb V' v' (ys ++ news)) (hg : V.grownBy V' v.ownBlock) (h5 : v'.ownBlock = v.ownBlock ∨ v'.ownBlock = some V.heap.size) (hk : ∀ y ∈ news, PrOk wb y) : Tri wb V' v' u c (ys ++ news) zs cs := by
  refine ⟨ho, own_grew h.o2 h.k2 hg h.n12 h.o1.block, own_grew h.o3 h.k3 hg h.n13 h.o1.block, fun y hy => ?_, h.k2, h.k3, fun g hb => ?_, fun g hb => ?_, h.n23⟩
  · rcases List.mem_append.1 hy with h1 | h1
    · exact h.k1 y h1
    · exact hk y h1
  · rcases h5 with e | e
    · rw [e] at hb; exact h.n12 g hb
    · rw [e] at hb; cases hb; intro e2; have := h.o2.lt _ e2; omega
  · rcases h5 with e | e
    · rw [e] at hb; exact h.n13 g hb
    · rw [e] at hb; cases hb; intro e2; have := h.o3.lt _ e2; omega
end

end Go.Proofs.YtbhnbkcokhfopaaGreat
