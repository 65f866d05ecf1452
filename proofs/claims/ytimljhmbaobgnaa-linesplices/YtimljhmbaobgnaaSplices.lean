/-
  Proved: for every row of lines, every place and every two rows of lines (what stands there, what is to stand there) the law LineSplices returns true (Splice of the program is what the document says, and changes no row that was handed in), and all read afterwards as they read before.
  Conditions: none beyond the form's own.
-/
import Derived.Test.YtimljhmbaobgnaaWalk18
import Derived.Test.YtimljhmbaobgnaaOpen
import Derived.Lib.SmallJoins
namespace Go.Proofs.Ytimljhmbaobgnaa
open Go.ChangeShapes Go.WideShapes Go.ChangeAt Go.RowKit
open Go.Joins

theorem Try.cells34 : Try.prog.cellsOf 34 = 2 := by kernel_rfl

set_option maxRecDepth 100000 in
theorem splices_lifted (os : Os) (started : os.Started) (H : Type) (enc : TypeId × Value → H) :
    ReturnsInHanded {} Try.checked os 6 .any (Rows.lineSplicesSpec.pre6 enc Try.prog Try.f6 Rows.lineSplicesRow.domain false) (Rows.lineSplicesSpec.post enc Try.prog Try.f6 false true false false) := by
  refine returnsInHanded_of_change_sized (C := Try.checked) Try.own started (by kernel_rfl) Try.func6
    (ChangeSpec.witness6 (enc := enc) (C := Try.checked) false ⟨#[], #[.slice none 0 0, .int .i64 0, .agg #[.slice none 0 0, .slice none 0 0]], []⟩ 8 (by kernel_rfl) (by kernel_rfl) (by kernel_rfl) (by kernel_rfl)) ?_
  intro W base args ds gs before hval0 hW hcnd0 hsz0 hholds
  have hsz : (DataW.weightsEach Try.prog (Try.f6.params.toList ++ Rows.lineSplicesSpec.plain.varTypes Try.prog) (ds ++ gs)).all (· ≤ reachBytes) = true := hsz0
  have hval : ∀ (j : Nat) t v, Try.f6.params[j]? = some t → args[j]? = some v → Value.okWide Try.prog W .any base t v := hval0
  have hW' := hW
  obtain ⟨p, q, hA0, hV, rfl, hfz, hnd⟩ := hW
  have hA : DataW.TrodAll enc Try.prog W 0 (fun _ => true) true Try.f6.params.toList args.toList ds p := hA0
  rw [Try.params6] at hA hval hsz
  obtain ⟨v0, v1, v2, d0, d1, d2, p0, p1, p2, rfl, rfl, rfl, h0, h1, h2⟩ := trodAll_three hA
  obtain ⟨rfl, rfl⟩ := trodVars_none hV
  obtain ⟨a0, n0, c0, rfl⟩ := okWide_slice Try.underlying22 (hval 0 22 v0 rfl rfl)
  have k0 := h0
  have lt0 : ∀ x ∈ p0, x.block < W.heap.size := by obtain ⟨m, hm⟩ := k0; exact DataW.trod_lt m _ _ _ hm
  obtain ⟨xs, cxs⟩ : ∃ ss, Came W a0 n0 c0 ss := by obtain ⟨fuel, hf⟩ := h0; exact came_of hf (reach_at hsz (j := 0) rfl rfl)
  obtain ⟨k, rfl, rfl, rfl, wk⟩ := open_int Try.underlying3 (hval 1 3 v1 rfl rfl) h1
  have rk := bounds_i64 wk
  have k2 := h2
  have lt2 : ∀ x ∈ p2, x.block < W.heap.size := by obtain ⟨m, hm⟩ := k2; exact DataW.trod_lt m _ _ _ hm
  have hz2 := reach_at hsz (j := 2) (t := 34) (d := d2) rfl rfl
  obtain ⟨u0, u1, y0, y1, m, rfl, hd2, hp2, hy0, hy1⟩ := open_agg2 Try.underlying34 (by kernel_rfl) Try.cells34 (hval 2 34 v2 rfl rfl) h2
  rw [hd2] at hz2
  have hz2' : ∀ j ∈ DataW.weightsEach Try.prog [22, 22] [y0.1, y1.1], j ≤ reachBytes := by
    simp only [DataW.weights, Try.underlying34] at hz2
    exact hz2
  simp only [DataW.weightsEach, List.append_nil, List.mem_append] at hz2'
  obtain ⟨a2, n2, c2, e0⟩ := slice_form Try.underlying22 hy0
  obtain ⟨a3, n3, c3, e1⟩ := slice_form Try.underlying22 hy1
  simp at e0 e1
  subst e0
  subst e1
  obtain ⟨ys, cys⟩ : ∃ ss, Came W a2 n2 c2 ss := came_of hy0 (fun j hj => hz2' j (.inl hj))
  obtain ⟨zs, czs⟩ : ∃ ss, Came W a3 n3 c3 ss := came_of hy1 (fun j hj => hz2' j (.inr hj))
  clear hA0 hval0 hcnd0 hsz0
  refine (lawSplices a0 a2 a3 n0 c0 n2 c2 n3 c3 xs ys zs k W cxs cys czs rk.1 rk.2).mono fun e W' ⟨he, bel⟩ => ?_
  subst he
  exact ⟨_, rfl, _, _, _, [], p0 ++ ([] ++ p2), [], hW', trodAll_mk1 (shut_bool Try.underlying4 _), trodAll_mk3 (Below.trod Try.laidOut (by kernel_rfl) (of_decide_eq_true (by kernel_rfl)) k0 bel lt0) (shut_int Try.underlying3 wk) (Below.trod Try.laidOut (by kernel_rfl) (of_decide_eq_true (by kernel_rfl)) k2 bel lt2), rfl, Below.frame bel _, fun h => by cases h⟩

theorem splices_holds : Rows.LineSplicesSaid :=
  OpenClaim.holds_of_wide 6 Try.f6 rfl rfl rfl rfl rfl rfl rfl ⟨rfl, rfl, rfl, rfl, rfl⟩ rfl rfl rfl rfl rfl (by kernel_rfl) Try.func6 (by kernel_rfl)
    (of_decide_eq_true (by kernel_rfl)) (by unfold Func.isWrapper; first | (rw [if_pos (by decide +kernel)]; kernel_rfl) | (rw [if_neg (by decide +kernel)]; exact ⟨rfl, rfl⟩))
    (fun os started H enc _ => splices_lifted os started H enc)
#print axioms splices_holds
end Go.Proofs.Ytimljhmbaobgnaa
