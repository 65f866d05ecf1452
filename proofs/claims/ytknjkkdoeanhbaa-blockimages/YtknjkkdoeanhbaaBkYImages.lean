/-
  Proved: the law BlockImages returns true whatever the bytes (a device of an image has its bytes, and zeros behind; one of its own image is the same), and the bytes read afterwards as they read before.
  Conditions: none beyond the form's own.
-/
import Derived.Test.YtknjkkdoeanhbaaBtCame
import Derived.Test.YtknjkkdoeanhbaaBkLawImages
namespace Go.Proofs.Ytknjkkdoeanhbaa
open Go.ChangeShapes Go.WideShapes Go.ChangeAt Go.RowKit

theorem Try.own10 : ownKnob Try.prog.godebug = none := by kernel_rfl
theorem Try.laidOut10 : laidOutB Try.prog = true := by kernel_rfl
set_option maxRecDepth 100000 in
theorem blockImages_lifted (os : Os) (started : os.Started) (H : Type) (enc : TypeId × Value → H) :
    ReturnsInHanded {} Try.checked os 4 .any (Rows.blockImagesSpec.pre6 enc Try.prog Try.f4 Rows.blockImagesRow.domain false) (Rows.blockImagesSpec.post enc Try.prog Try.f4 false true false false) := by
  refine returnsInHanded_of_change_sized (C := Try.checked) Try.own10 started (by kernel_rfl) Try.func4
    (ChangeSpec.witness6 (enc := enc) (C := Try.checked) false ⟨#[], #[.slice none 0 0], []⟩ 8 (by kernel_rfl) (by kernel_rfl) (by kernel_rfl) (by kernel_rfl)) ?_
  intro W base args ds gs before hval0 hW hcnd0 hsz0 hholds
  have hval : ∀ (j : Nat) t v, Try.f4.params[j]? = some t → args[j]? = some v → Value.okWide Try.prog W .any base t v := hval0
  have hW' := hW
  obtain ⟨p, q, hA0, hV, rfl, hfz, hnd⟩ := hW
  have hA : DataW.TrodAll enc Try.prog W 0 (fun _ => true) true Try.f4.params.toList args.toList ds p := hA0
  rw [Try.params4] at hA hval
  obtain ⟨v0, d0, rfl, rfl, h0⟩ := trodAll_one hA
  obtain ⟨rfl, rfl⟩ := trodVars_none hV
  have k0 := h0
  have lt0 : ∀ x ∈ p, x.block < W.heap.size := by obtain ⟨m, hm⟩ := k0; exact DataW.trod_lt m _ _ _ hm
  obtain ⟨A0, n0, c0, bs, hv0, hnc, hnA, hbs⟩ : ∃ (A : Option Addr) (n c : Nat) (bs : List UInt8), v0 = .slice A n c ∧ n ≤ c ∧ (A = none → c = 0) ∧ BsAt W A n bs := by
    obtain ⟨fuel, hf⟩ := h0
    have hf' : DataW.trod enc Try.prog W 0 (fun _ => true) true fuel 33 v0.cells.toList = some (d0, p) := hf
    obtain ⟨a9, n9, c9, rfl⟩ := okWide_slice Try.underlying33 (hval 0 33 v0 rfl rfl)
    exact came_bytes hf'
  subst hv0
  clear hA0 hval0 hcnd0 hsz0
  refine (blockImages_walk A0 n0 c0 bs W hbs hnA hnc).mono fun e W' ⟨he, bel⟩ => ?_
  subst he
  exact ⟨_, rfl, _, _, _, [], p, [], hW', trodAll_mk1 (shut_bool Try.underlying4 _), trodAll_mk1 (Below.trod Try.laidOut10 (by kernel_rfl) (of_decide_eq_true (by kernel_rfl)) k0 bel lt0), rfl, Below.frame bel _, fun h => by cases h⟩

theorem blockImages_holds : Rows.BlockImagesSaid :=
  OpenClaim.holds_of_wide 4 Try.f4 rfl rfl rfl rfl rfl rfl rfl ⟨rfl, rfl, rfl, rfl, rfl⟩ rfl rfl rfl rfl rfl (by kernel_rfl) Try.func4 (by kernel_rfl)
    (of_decide_eq_true (by kernel_rfl)) (by unfold Func.isWrapper; first | (rw [if_pos (by decide +kernel)]; kernel_rfl) | (rw [if_neg (by decide +kernel)]; exact ⟨rfl, rfl⟩))
    (fun os started H enc _ => blockImages_lifted os started H enc)
#print axioms blockImages_holds
end Go.Proofs.Ytknjkkdoeanhbaa
