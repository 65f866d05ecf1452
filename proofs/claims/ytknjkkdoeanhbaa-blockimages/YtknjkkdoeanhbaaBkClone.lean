/-
  slices.Clone at a row of blocks and at a row of writes, as calls.
-/
import Derived.Test.YtknjkkdoeanhbaaBkLaws
import Derived.Deep.LoopGhost
import Derived.Deep.QuietTactic
import Derived.BigQuiet
import Derived.Lib.Hide
import Derived.Lib.SliceRun
namespace Go.Proofs.Ytknjkkdoeanhbaa
open Go.RowKit

theorem Try.cellInfo2 : (Try.prog.info? 73).map (fun i => (i.zero, i.size, i.bytes)) = some (some (.agg (Lib.byteCells (zeros 64)).toArray), 64, 64) := by kernel_rfl
theorem OwnK.empty0 {e : TypeId} {k : Nat} {w0 w : World} (hl : Later w0 w) : OwnK e k w0 (w.alloc (.cells #[] e)) (.slice (some ⟨w.heap.size, 0, none⟩) 0 0) [] :=
  ⟨World.ownsRow_made w #[] 0 hl.size (Nat.zero_le _) (by simp), (fun cs hcs => by cases hcs), hl.alloc _⟩
set_option maxRecDepth 100000 in
set_option maxHeartbeats 400000 in
theorem cloneC_any (a : Addr) (n c : Nat) (css : List (List Value)) (w : World) (hx : RowK 64 w (some a) n css) (hone : ∀ cs ∈ css, ∀ u ∈ cs, u.oneCell' = true) (hn : n ≤ 1000000) :
    Calls Try.prog 44 #[.slice (some a) n c] w fun e w' => ∃ v, e = .returned v ∧ OwnK 73 64 w w' v css := by
  have q29 : ∀ (w : World) (a : Option Addr) (n c n' c' : Nat), (binOp .eql 64 (.slice a n c) (.slice none n' c')).run Try.prog w = .ok (.bool a.isNone) w := fun w a n c n' c' => Lib.run_eql_slice_nil w _ _ a n c n' c' Try.underlying64
  obtain ⟨i0, hi, hz0, hz1, hz2⟩ := info_parts Try.cellInfo2
  have HX := Lib.hid hx; have HO := Lib.hid hone
  have HE : Hid (OwnK 73 64 w (w.alloc (.cells #[] 73)) (.slice (some ⟨w.heap.size, 0, none⟩) 0 0) []) := OwnK.empty0 (Later.refl w)
  have HL : Hid (Later w (w.alloc (.cells #[] 73))) := (Later.refl w).alloc _
  have HZ : Hid ((Value.agg (Lib.byteCells (zeros 64)).toArray).cells.size = 64) := by show (Lib.byteCells (zeros 64)).toArray.size = 64; rw [List.size_toArray, bc_len, zeros_length]
  clear hx hone
  go_enter Try.func44, Try.ntmps44
  go_wp2_with (at_builtin; refine wpList_append_rowK rfl _ _ 64 rfl i0 _ 64 Try.underlying64 hi hz0 hz1 hz2 HZ.out (by decide) HE.out rfl _ _ _ css rfl (HX.out.later HL.out) HO.out (by simp; omega) (by omega) ?_; intro v2 w2 hown2 hg2; have HO2 := Lib.hid hown2; clear hown2 hg2)
  go_ret
  exact ⟨_, rfl, by simpa using HO2.out⟩
set_option maxRecDepth 100000 in
set_option maxHeartbeats 400000 in
theorem cloneW_any (A : Option Addr) (n c : Nat) (css : List (List Value)) (w : World) (hx : RowK 129 w A n css) (hone : ∀ cs ∈ css, ∀ u ∈ cs, u.oneCell' = true) (hn : n ≤ 1000000) :
    Calls Try.prog 45 #[.slice A n c] w fun e w' => ∃ v, e = .returned v ∧ OwnK 75 129 w w' v css := by
  have q29 : ∀ (w : World) (a : Option Addr) (n c n' c' : Nat), (binOp .eql 65 (.slice a n c) (.slice none n' c')).run Try.prog w = .ok (.bool a.isNone) w := fun w a n c n' c' => Lib.run_eql_slice_nil w _ _ a n c n' c' Try.underlying65
  cases A with
  | none =>
    have e : css = [] := by
      rcases Nat.eq_zero_or_pos n with h | h
      · exact List.eq_nil_of_length_eq_zero (by have := hx.len; omega)
      · obtain ⟨_, _, h, _⟩ := hx.2.2 h
        cases h
    subst e
    clear hx hone
    go_enter Try.func45, Try.ntmps45
    go_wp2
    go_ret
    exact ⟨_, rfl, OwnK.nil (Later.refl w)⟩
  | some a =>
    obtain ⟨i0, hi, hz0, hz1, hz2⟩ := info_parts Try.writeInfo
    have HX := Lib.hid hx; have HO := Lib.hid hone
    have HE : Hid (OwnK 75 129 w (w.alloc (.cells #[] 75)) (.slice (some ⟨w.heap.size, 0, none⟩) 0 0) []) := OwnK.empty0 (Later.refl w)
    have HL : Hid (Later w (w.alloc (.cells #[] 75))) := (Later.refl w).alloc _
    have HZ : Hid ((Value.agg (wrL ⟨0, zeros 64, zeros 64⟩).toArray).cells.size = 129) := by show (wrL ⟨0, zeros 64, zeros 64⟩).toArray.size = 129; rw [List.size_toArray, wrL_len ⟨zeros_length 64, zeros_length 64⟩]
    clear hx hone
    go_enter Try.func45, Try.ntmps45
    go_wp2_with (at_builtin; refine wpList_append_rowK rfl _ _ 65 rfl i0 _ 136 Try.underlying65 hi hz0 hz1 hz2 HZ.out (by decide) HE.out rfl _ _ _ css rfl (HX.out.later HL.out) HO.out (by simp; omega) (by omega) ?_; intro v2 w2 hown2 hg2; have HO2 := Lib.hid hown2; clear hown2 hg2)
    go_ret
    exact ⟨_, rfl, by simpa using HO2.out⟩

end Go.Proofs.Ytknjkkdoeanhbaa
