/-
  The bytes of all blocks, as a call.
-/
import Derived.Test.YtknjkkdoeanhbaaBkRead
namespace Go.Proofs.Ytknjkkdoeanhbaa
open Go.RowKit

theorem bc_app (a b : Bs) : Lib.byteCells (a ++ b) = Lib.byteCells a ++ Lib.byteCells b := by simp [Lib.byteCells]
section
variable {W w : World} {S : Nat → Prop} {g : Nat} {d : DvP}
theorem flat64 {bl : List Bs} (h : ∀ b ∈ bl, b.length = 64) : bl.flatten.length = bl.length * 64 := flat_length h
theorem take_flat {bl : List Bs} {k : Nat} (hk : k < bl.length) : (bl.take (k + 1)).flatten = (bl.take k).flatten ++ bl.getD k [] := by
  rw [List.take_succ_eq_append_getElem hk, List.flatten_append]
  simp only [List.flatten_cons, List.flatten_nil, List.append_nil, List.getD, List.getElem?_eq_getElem hk, Option.getD_some]
set_option maxRecDepth 100000 in
set_option maxHeartbeats 400000 in
theorem imageDev_any (h : DevAt W w S g d) :
    Calls Try.prog 20 #[.pointer (some ⟨g, 0, none⟩)] w fun e w' => ∃ v, e = .returned v ∧ w'.ownsRow w.heap.size 5 1 v (imageP d).length (Lib.byteCells (imageP d)) ∧ Later w w' := by
  obtain ⟨b, c, B, m, c2, hb, h1, hc, h2, hm, hc2, hr2, sb, bg, s2⟩ := h.parts
  have q0 := hb.cell (i := 0) rfl
  simp only [List.getElem_toArray, List.getElem_cons_zero] at q0
  have hmost := h.ok.most; have hone := h.ok.one
  have HOK := Lib.hid h.ok
  have H1 := Lib.hid h1
  obtain ⟨n, hn⟩ : ∃ n, n = d.bl.length := ⟨_, rfl⟩
  rw [← hn] at q0 hmost hone
  have HN := Lib.hid hn
  have HQ := Lib.hid q0
  clear h hb h1 h2 s2 hr2 hm hc2 hn
  obtain ⟨i0, hi, hz0, hz1, hz2⟩ := info_parts Try.byteInfo
  have HSZ : ∀ k, k ≤ n → Hid ((d.bl.take k).flatten.length = k * 64) := fun k hk => by
    show _ = _
    have := flat64 (bl := d.bl.take k) (fun b hb => HOK.out.size b (List.mem_of_mem_take hb))
    rw [List.length_take, ← HN.out, Nat.min_eq_left hk] at this
    exact this
  obtain ⟨w1, hrun, hown, hgr⟩ := run_make_own (P := Try.prog) w w.heap.size 33 5 i0 _ 1 Try.underlying33 hi hz0 hz1 .i64 .i64 (n * 64) (by rw [hz2]; omega) (by simp only [maxLen]; omega) (Nat.le_refl _)
  have hrun1 : (Instr.makeSlice 33 (.int .i64 0) (.int .i64 ((n : Int) * 64))).run Try.prog w = .ok (.slice (some ⟨w.heap.size, 0, none⟩) 0 (n * 64)) w1 := by
    rw [show ((n : Int) * 64) = ((n * 64 : Nat) : Int) by omega]
    exact hrun
  have hl1 : Later w w1 := ⟨hgr.os, hgr.tape, hgr.output, hgr.size, fun i hi => hgr.block i hi (by simp)⟩
  have p0 := hl1.cell q0
  have HL1 := Lib.hid hl1; have HO1 := Lib.hid hown
  clear hrun hgr hl1 hown hi hz0 hz1 hz2
  go_enter Try.func20, Try.ntmps20
  go_wp2
  clear hrun1 p0 q0
  go_loopg [3, 17] (n + 1) (fun g0 s3 s17 wr => ∃ (k : Nat) (v : Value), k ≤ n ∧ n - k ≤ g0 ∧ s17 = .int .i64 (k : Nat) ∧ s3 = v ∧ Hid (wr.ownsRow w.heap.size 5 1 v (k * 64) (Lib.byteCells (d.bl.take k).flatten)) ∧ Hid (Later w wr))
  case atStart => exact ⟨0, _, Nat.zero_le _, by omega, rfl, rfl, HO1, HL1⟩
  case round =>
    obtain ⟨k, v, hk, hg, rfl, hv, hown, hlw⟩ := hrel
    obtain rfl := hv.symm
    clear hv
    by_cases hlt : k < n
    · have q0 := hlw.out.cell HQ.out
      have HB := Lib.hid ((bs_block H1.out HOK.out (j := k) (by rw [← HN.out]; exact hlt)).later hlw.out)
      have HT := Lib.hid (take_flat (bl := d.bl) (k := k) (by rw [← HN.out]; exact hlt))
      have HLE : Hid (w.heap.size ≤ wr.heap.size) := hlw.out.le
      go_wp2_with (at_builtin; refine wpList_append_bs rfl _ _ rfl hown.out rfl rfl HB.out (fun e => by cases e) (by decide) (by omega) HLE.out ?_; intro v4 w4 hown4 hg4; have HO4 := Lib.hid hown4; have HG4 := Lib.hid hg4; clear hown4 hg4)
      go_roundg (n - (k + 1))
      case measure => omega
      case rel =>
        refine ⟨k + 1, v4, by omega, by omega, by go_num, rfl, ?_, Below.grown hlw.out HG4.out hlw.out.size (fun q hq => (hown.out.lt q hq).1)⟩
        show World.ownsRow _ _ _ _ _ _ _
        rw [show (k + 1) * 64 = k * 64 + 64 by omega, HT.out, bc_app]
        exact HO4.out
    · obtain rfl : k = n := by omega
      have e1 : d.bl.take k = d.bl := List.take_of_length_le (by rw [HN.out]; exact Nat.le_refl _)
      have e2 : (imageP d).length = k * 64 := by unfold imageP; rw [flat64 HOK.out.size, HN.out]
      rw [e1] at hown
      have E2 := Lib.hid e2
      clear e1 e2
      go_wp2
      go_ret
      exact ⟨v, rfl, by rw [E2.out]; exact hown.out, hlw.out⟩
end

end Go.Proofs.Ytknjkkdoeanhbaa
