/-
  Proved: the law CodeSpoils returns true whatever the input (an In that was spoiled tells zero things for ever, and goes on no more), and each argument reads afterwards as it read before.
  Conditions: none on the input; the listed variables are tied to the program's text.
-/
import Derived.Test.YtfcdhpkikhkmiaaGreatDoorCards
import Derived.Test.YtfcdhpkikhkmiaaGreatDoorTie
import Derived.Test.YtfcdhpkikhkmiaaGreatDoorPk5
import Derived.Test.YtfcdhpkikhkmiaaGreatDoorPk11
namespace Go.Proofs.YtfcdhpkikhkmiaaGreatDoor
open Go.ChangeShapes Go.WideShapes Go.ChangeAt Go.RowKit Go.Deep

theorem spoils9_laid (os : Os) : laidMet Tryz.prog Rows.codeSpoilsRow.laid ((laidWorld9 os).forCall (fun _ _ => 0) ⟨#[], #[.slice none 0 0, .slice none 0 0], []⟩).memory :=
  laidMet_of_run' 8 (by kernel_rfl) (by kernel_rfl)

set_option maxRecDepth 100000 in
theorem spoils9_lifted (os : Os) (started : os.Started) (H : Type) (enc : TypeId × Value → H) (F : Stop.Interp) :
    ReturnsInHanded {} Tryz.checked os 7 .any ((OpenSpec.ofChange Rows.codeSpoilsSpec).preRow enc Tryz.prog Tryz.f7 Rows.codeSpoilsRow.domain false Rows.codeSpoilsRow.laid) (((OpenSpec.ofChange Rows.codeSpoilsSpec).at F).post enc Tryz.prog Tryz.f7 false true false false) := by
  refine returnsInHanded_of_row (C := Tryz.checked) (s := OpenSpec.ofChange Rows.codeSpoilsSpec) Tryz.own9 started (by kernel_rfl) Tryz.func7
    (witness_row_atRef (enc := enc) (C := Tryz.checked) false (laidWorld9 os) #[.slice none 0 0, .slice none 0 0] rfl (by kernel_rfl) (by kernel_rfl) (by kernel_rfl)
      (OpenSpec.preRow_of_B rfl 8 (by kernel_rfl) (by kernel_rfl) (spoils9_laid os))) ?_
  intro W base args ds gs before hval0 hW _ hcond _ hL _ _
  have hval : ∀ (j : Nat) t v, Tryz.f7.params[j]? = some t → args[j]? = some v → Value.okWide Tryz.prog W .any base t v := hval0
  have hW' := hW
  obtain ⟨p, q, hA0, hV, rfl, hfz, hnd⟩ := hW
  have hA : DataW.TrodAll enc Tryz.prog W 0 (fun _ => true) true Tryz.f7.params.toList args.toList ds p := hA0
  rw [Tryz.params7] at hA hval
  obtain ⟨v0, v1, d0, d1, p0, p1, rfl, rfl, rfl, h0, h1⟩ := trodAll_two hA
  obtain ⟨rfl, rfl⟩ := trodVars_none hV
  have k0 := h0
  have lt0 : ∀ x ∈ p0, x.block < W.heap.size := by obtain ⟨m, hm⟩ := k0; exact DataW.trod_lt m _ _ _ hm
  obtain ⟨A0, n0, c0, bs, hv0, hnc, hnA, hbs⟩ : ∃ (A : Option Addr) (n c : Nat) (bs : Bs), v0 = .slice A n c ∧ n ≤ c ∧ (A = none → c = 0) ∧ BsAt W A n bs := by
    obtain ⟨fuel, hf⟩ := h0
    have hf' : DataW.trod enc Tryz.prog W 0 (fun _ => true) true fuel 25 v0.cells.toList = some (d0, p0) := hf
    obtain ⟨a9, n9, c9, rfl⟩ := okWide_slice Tryz.underlying25 (hval 0 25 v0 rfl rfl)
    exact came_bytes hf'
  have k1 := h1
  have lt1 : ∀ x ∈ p1, x.block < W.heap.size := by obtain ⟨m, hm⟩ := k1; exact DataW.trod_lt m _ _ _ hm
  obtain ⟨A1, n1, c1, hv1⟩ : ∃ A n c, v1 = .slice A n c := by
    obtain ⟨a9, n9, c9, rfl⟩ := okWide_slice Tryz.underlying40 (hval 1 40 v1 rfl rfl)
    exact ⟨a9, n9, c9, rfl⟩
  subst hv0
  subst hv1
  clear hA0 hval0
  refine (codeSpoils_law A0 A1 n0 c0 n1 c1 bs W (base9 hL) hbs hnA hnc).mono fun e W' ⟨he, bel⟩ => ?_
  subst he
  exact ⟨_, rfl, _, _, _, [], p0 ++ p1, [], hW', trodAll_mk1 (shut_bool Tryz.underlying4 _), trodAll_mk2 (Below.trod Tryz.laidOut9 (by kernel_rfl) (of_decide_eq_true (by kernel_rfl)) k0 bel lt0) (Below.trod Tryz.laidOut9 (by kernel_rfl) (of_decide_eq_true (by kernel_rfl)) k1 bel lt1), rfl, Below.frame bel _, fun h => by cases h⟩

theorem codeSpoils_said : Rows.CodeSpoilsSaid :=
  OpenClaim.holds_of_cond 7 Tryz.f7 rfl rfl rfl rfl rfl rfl rfl ⟨rfl, rfl, rfl, rfl, rfl⟩ rfl rfl rfl rfl rfl (by kernel_rfl) Tryz.func7 (by kernel_rfl)
    (of_decide_eq_true (by kernel_rfl)) (by unfold Func.isWrapper; first | (rw [if_pos (by decide +kernel)]; kernel_rfl) | (rw [if_neg (by decide +kernel)]; exact ⟨rfl, rfl⟩))
    (fun os started H enc _ F => by rw [OpenClaim.pre_eq_preRow]; exact spoils9_lifted os started H enc F)

theorem codeSpoils_plain (f : FuncId) (fn : Func) (hf : Tryz.pinned.checked.prog.funcNamed "quiltwork/quiltworklaw09.CodeSpoils" = some f) (hfn : Tryz.pinned.checked.prog.funcs[f]? = some fn) :
    true = Tryz.pinned.checked.prog.looks [] ∧ ∀ (j : Nat) t, fn.params[j]? = some t → Tryz.pinned.checked.prog.wantsStandIn t = false := by
  obtain rfl : f = 7 := Option.some.inj ((show Tryz.prog.funcNamed "quiltwork/quiltworklaw09.CodeSpoils" = some 7 by kernel_rfl).symm.trans hf) |>.symm
  obtain rfl : fn = Tryz.f7 := (Option.some.inj (Tryz.func7.symm.trans hfn)).symm
  refine ⟨by kernel_rfl, fun j t ht => ?_⟩
  rw [Tryz.params7] at ht
  have hm := Array.mem_of_getElem? ht
  have key : ∀ t ∈ #[25, 40], Tryz.prog.wantsStandIn t = false := by
    intro t ht
    simp only [List.mem_toArray, List.mem_cons, List.not_mem_nil, or_false] at ht
    rcases ht with rfl | rfl <;> kernel_rfl
  exact key t hm

theorem codeSpoils_holds : Rows.CodeSpoilsCardSaid :=
  Claim7.holds_tied_plain_at .later [] _ _ _ _ codeSpoils_said (fun _ h => by cases h) (by kernel_rfl) (fun _ h => by cases h) codeSpoils_row_tie rfl ⟨rfl, rfl⟩ (by kernel_rfl) rfl codeSpoils_plain (by kernel_rfl)
#print axioms codeSpoils_holds
end Go.Proofs.YtfcdhpkikhkmiaaGreatDoor
