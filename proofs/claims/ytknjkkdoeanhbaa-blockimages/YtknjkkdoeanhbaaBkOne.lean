/-
  The device's small calls: op, has, Arm, Down, Ops, Pending, Count.
-/
import Derived.Test.YtknjkkdoeanhbaaBkMem
import Derived.Deep.LoopGhost
import Derived.Deep.QuietTactic
import Derived.BigQuiet
namespace Go.Proofs.Ytknjkkdoeanhbaa
open Go.RowKit

section
variable {W w : World} {S : Nat → Prop} {g : Nat} {d : DvP}
set_option maxRecDepth 100000 in
set_option maxHeartbeats 400000 in
theorem op_any (h : DevAt W w S g d) (ho : d.ops ≤ 1000000000) :
    Calls Try.prog 43 #[.pointer (some ⟨g, 0, none⟩)] w fun e w' => e = .returned (.int .i64 (opE d)) ∧ DevAt W w' S g (opP d) ∧ Chg (fun k => k = g) w w' := by
  obtain ⟨b, c, B, m, c2, hb, h1, hc, h2, hm, hc2, hr2, sb, bg, s2⟩ := h.parts
  have hok := h.ok
  have hlo := hok.lo; have hhi := hok.hi; have harm := hok.arm
  have q2 := hb.cell (i := 2) rfl; have q3 := hb.cell (i := 3) rfl; have q4 := hb.cell (i := 4) rfl; have q5 := hb.cell (i := 5) rfl
  simp only [List.getElem_toArray, List.getElem_cons_zero, List.getElem_cons_succ] at q2 q3 q4 q5
  have z2 := hb.frozen 2; have z4 := hb.frozen 4; have z5 := hb.frozen 5
  have HH := Lib.hid h
  have HB := Lib.hid hb
  have H1 := Lib.hid h1; have H2 := Lib.hid h2; have HS := Lib.hid s2
  have HOK := Lib.hid hok
  clear h hb h1 h2 s2 hr2 hm hc2 hok
  by_cases ha : d.armed = true
  · by_cases hl : d.left = 0
    · have e1 : opE d = 100 := by unfold opE; rw [if_pos ⟨ha, hl⟩]
      have e2 : opP d = { d with ops := d.ops + 1, down := true } := by unfold opP; rw [if_pos ha, if_pos hl]
      have E1 := Lib.hid e1; have E2 := Lib.hid e2
      clear e1 e2
      go_enter Try.func43, Try.ntmps43
      go_wp2
      go_ret
      rw [E1.out]
      have HC : Chg (fun k => k = g) w ((w.setCell ⟨g, 2, none⟩ (.int .i64 ((d.ops : Nat) + 1 : Int))).setCell ⟨g, 5, none⟩ (.bool true)) := (Chg.trans (chg_set w g 2 (.int .i64 ((d.ops : Nat) + 1 : Int))) (chg_set (w.setCell ⟨g, 2, none⟩ (.int .i64 ((d.ops : Nat) + 1 : Int))) g 5 (.bool true)) (fun _ e => .inl e))
      have hok2 := opP_ok HOK.out
      rw [E2.out] at hok2 ⊢
      refine ⟨rfl, ?_, HC⟩
      exact HH.out.box HC ((HB.out.set1 2 (.int .i64 ((d.ops : Nat) + 1 : Int))).set1 5 (.bool true)) H1.out H2.out (fun q hq => by cases hq; exact ⟨sb, bg⟩) (fun q hq => ⟨(HS.out q hq).1, (HS.out q hq).2.1⟩) hok2
    · have h0 : (d.left == 0) = false := by simpa using hl
      have e1 : opE d = 0 := by unfold opE; rw [if_neg (fun e => hl e.2)]
      have e2 : opP d = { d with ops := d.ops + 1, left := d.left - 1 } := by unfold opP; rw [if_pos ha, if_neg hl]
      have hge := harm ha
      have E1 := Lib.hid e1; have E2 := Lib.hid e2
      clear e1 e2
      go_enter Try.func43, Try.ntmps43
      go_wp2
      go_ret
      rw [E1.out]
      have HC : Chg (fun k => k = g) w ((w.setCell ⟨g, 2, none⟩ (.int .i64 ((d.ops : Nat) + 1 : Int))).setCell ⟨g, 4, none⟩ (.int .i64 (d.left - 1))) := (Chg.trans (chg_set w g 2 (.int .i64 ((d.ops : Nat) + 1 : Int))) (chg_set (w.setCell ⟨g, 2, none⟩ (.int .i64 ((d.ops : Nat) + 1 : Int))) g 4 (.int .i64 (d.left - 1))) (fun _ e => .inl e))
      have hok2 := opP_ok HOK.out
      rw [E2.out] at hok2 ⊢
      refine ⟨rfl, ?_, HC⟩
      exact HH.out.box HC ((HB.out.set1 2 (.int .i64 ((d.ops : Nat) + 1 : Int))).set1 4 (.int .i64 (d.left - 1))) H1.out H2.out (fun q hq => by cases hq; exact ⟨sb, bg⟩) (fun q hq => ⟨(HS.out q hq).1, (HS.out q hq).2.1⟩) hok2
  · have ha0 : d.armed = false := by simpa using ha
    have e1 : opE d = 0 := by unfold opE; rw [if_neg (fun e => ha e.1)]
    have e2 : opP d = { d with ops := d.ops + 1 } := by unfold opP; rw [if_neg ha]
    have E1 := Lib.hid e1; have E2 := Lib.hid e2
    clear e1 e2
    go_enter Try.func43, Try.ntmps43
    go_wp2
    go_ret
    rw [E1.out]
    have HC : Chg (fun k => k = g) w (w.setCell ⟨g, 2, none⟩ (.int .i64 ((d.ops : Nat) + 1 : Int))) := (chg_set w g 2 (.int .i64 ((d.ops : Nat) + 1 : Int)))
    have hok2 := opP_ok HOK.out
    rw [E2.out] at hok2 ⊢
    refine ⟨rfl, ?_, HC⟩
    exact HH.out.box HC (HB.out.set1 2 (.int .i64 ((d.ops : Nat) + 1 : Int))) H1.out H2.out (fun q hq => by cases hq; exact ⟨sb, bg⟩) (fun q hq => ⟨(HS.out q hq).1, (HS.out q hq).2.1⟩) hok2

set_option maxRecDepth 100000 in
set_option maxHeartbeats 400000 in
theorem has_any (h : DevAt W w S g d) (k : Int) :
    Calls Try.prog 41 #[.pointer (some ⟨g, 0, none⟩), .int .i64 k] w fun e w' => e = .returned (.bool (decide (0 ≤ k ∧ k < (d.bl.length : Int)))) ∧ w' = w := by
  obtain ⟨b, c, B, m, c2, hb, h1, hc, h2, hm, hc2, hr2, sb, bg, s2⟩ := h.parts
  have q0 := hb.cell (i := 0) rfl
  simp only [List.getElem_toArray, List.getElem_cons_zero] at q0
  have hmost := h.ok.most
  clear h hb h1 h2 s2 hr2 hm hc2
  by_cases hk : 0 ≤ k
  · have hd : decide (0 ≤ k) = true := by simpa using hk
    go_enter Try.func41, Try.ntmps41
    go_wp2
    go_ret
    refine ⟨?_, rfl⟩
    congr 2
    simp [hk]
  · have hd : decide (0 ≤ k) = false := by simpa using hk
    go_enter Try.func41, Try.ntmps41
    go_wp2
    go_ret
    refine ⟨?_, rfl⟩
    simp

set_option maxRecDepth 100000 in
set_option maxHeartbeats 400000 in
theorem countDev_any (h : DevAt W w S g d) :
    Calls Try.prog 22 #[.pointer (some ⟨g, 0, none⟩)] w fun e w' => e = .returned (.int .i64 (d.bl.length : Nat)) ∧ w' = w := by
  obtain ⟨b, c, B, m, c2, hb, h1, hc, h2, hm, hc2, hr2, sb, bg, s2⟩ := h.parts
  have q0 := hb.cell (i := 0) rfl
  simp only [List.getElem_toArray, List.getElem_cons_zero] at q0
  clear h hb h1 h2 s2 hr2 hc2
  go_enter Try.func22, Try.ntmps22
  go_wp2
  go_ret
  exact ⟨rfl, rfl⟩

set_option maxRecDepth 100000 in
set_option maxHeartbeats 400000 in
theorem pendingDev_any (h : DevAt W w S g d) :
    Calls Try.prog 28 #[.pointer (some ⟨g, 0, none⟩)] w fun e w' => e = .returned (.int .i64 (d.row.length : Nat)) ∧ w' = w := by
  obtain ⟨b, c, B, m, c2, hb, h1, hc, h2, hm, hc2, hr2, sb, bg, s2⟩ := h.parts
  have q1 := hb.cell (i := 1) rfl
  simp only [List.getElem_toArray, List.getElem_cons_zero, List.getElem_cons_succ] at q1
  subst hm
  clear h hb h1 h2 s2 hr2 hc2
  go_enter Try.func28, Try.ntmps28
  go_wp2
  go_ret
  exact ⟨rfl, rfl⟩

set_option maxRecDepth 100000 in
set_option maxHeartbeats 400000 in
theorem opsDev_any (h : DevAt W w S g d) :
    Calls Try.prog 27 #[.pointer (some ⟨g, 0, none⟩)] w fun e w' => e = .returned (.int .i64 (d.ops : Nat)) ∧ w' = w := by
  obtain ⟨b, c, B, m, c2, hb, h1, hc, h2, hm, hc2, hr2, sb, bg, s2⟩ := h.parts
  have q2 := hb.cell (i := 2) rfl
  simp only [List.getElem_toArray, List.getElem_cons_zero, List.getElem_cons_succ] at q2
  clear h hb h1 h2 s2 hr2 hc2
  go_enter Try.func27, Try.ntmps27
  go_wp2
  go_ret
  exact ⟨rfl, rfl⟩

set_option maxRecDepth 100000 in
set_option maxHeartbeats 400000 in
theorem downDev_any (h : DevAt W w S g d) :
    Calls Try.prog 26 #[.pointer (some ⟨g, 0, none⟩)] w fun e w' => e = .returned (.bool d.down) ∧ w' = w := by
  obtain ⟨b, c, B, m, c2, hb, h1, hc, h2, hm, hc2, hr2, sb, bg, s2⟩ := h.parts
  have q5 := hb.cell (i := 5) rfl
  simp only [List.getElem_toArray, List.getElem_cons_zero, List.getElem_cons_succ] at q5
  clear h hb h1 h2 s2 hr2 hc2
  go_enter Try.func26, Try.ntmps26
  go_wp2
  go_ret
  exact ⟨rfl, rfl⟩

set_option maxRecDepth 100000 in
set_option maxHeartbeats 400000 in
theorem armDev_any (h : DevAt W w S g d) (n : Int) (h0 : -9223372036854775808 ≤ n) (h1' : n ≤ 9223372036854775807) :
    Calls Try.prog 25 #[.pointer (some ⟨g, 0, none⟩), .int .i64 n] w fun e w' => e = .returned (.tuple #[]) ∧ DevAt W w' S g (armP d n) ∧ Chg (fun k => k = g) w w' := by
  obtain ⟨b, c, B, m, c2, hb, h1, hc, h2, hm, hc2, hr2, sb, bg, s2⟩ := h.parts
  have hok := armP_ok h.ok h0 h1'
  have z3 := hb.frozen 3; have z4 := hb.frozen 4
  have q3 := hb.cell (i := 3) rfl; have q4 := hb.cell (i := 4) rfl
  simp only [List.getElem_toArray, List.getElem_cons_zero, List.getElem_cons_succ] at q3 q4
  have HH := Lib.hid h
  have HB := Lib.hid hb
  have H1 := Lib.hid h1; have H2 := Lib.hid h2; have HS := Lib.hid s2
  have HOK := Lib.hid hok
  clear h hb h1 h2 s2 hr2 hm hc2 hok
  go_enter Try.func25, Try.ntmps25
  go_wp2
  go_end0
  have HC : Chg (fun k => k = g) w ((w.setCell ⟨g, 3, none⟩ (.bool (decide (0 ≤ n)))).setCell ⟨g, 4, none⟩ (.int .i64 n)) := Chg.trans (chg_set w g 3 _) (chg_set _ g 4 _) (fun _ e => .inl e)
  exact ⟨rfl, HH.out.box HC ((HB.out.set1 3 (.bool (decide (0 ≤ n)))).set1 4 (.int .i64 n)) H1.out H2.out (fun q hq => by cases hq; exact ⟨sb, bg⟩) (fun q hq => ⟨(HS.out q hq).1, (HS.out q hq).2.1⟩) HOK.out, HC⟩
end

end Go.Proofs.Ytknjkkdoeanhbaa
