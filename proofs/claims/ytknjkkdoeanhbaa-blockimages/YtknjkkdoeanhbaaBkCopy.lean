/-
  A device of its own that is just so: Copy, as a call.
-/
import Derived.Test.YtknjkkdoeanhbaaBkCopyR
import Derived.Deep.LoopGhost
import Derived.Deep.QuietTactic
import Derived.BigQuiet
namespace Go.Proofs.Ytknjkkdoeanhbaa
open Go.RowKit

section
variable {W w : World} {S : Nat → Prop} {g : Nat} {d : DvP}
set_option maxRecDepth 100000 in
set_option maxHeartbeats 800000 in
theorem copyDev_any (h : DevAt W w S g d) (hro : d.row.length ≤ 900000) :
    Calls Try.prog 31 #[.pointer (some ⟨g, 0, none⟩)] w fun e w' => ∃ gc S', e = .returned (.pointer (some ⟨gc, 0, none⟩)) ∧ DevAt W w' S' gc d ∧ Later w w' ∧ ∀ k, S' k → w.heap.size ≤ k := by
  obtain ⟨b, cc, B, m, c2, hb, h1, hc, h2, hm, hc2, hr2, sb, bg, s2⟩ := h.parts
  have x0 := hb.cell (i := 0) rfl; have x1 := hb.cell (i := 1) rfl; have x2 := hb.cell (i := 2) rfl; have x3 := hb.cell (i := 3) rfl; have x4 := hb.cell (i := 4) rfl; have x5 := hb.cell (i := 5) rfl
  simp only [List.getElem_toArray, List.getElem_cons_zero, List.getElem_cons_succ] at x0 x1 x2 x3 x4 x5
  have hrb : RowK 64 w (some ⟨b, 0, none⟩) d.bl.length (blL d) := by
    obtain ⟨A1, c1, hv, _, hr⟩ := h1.row
    injection hv with e1 e2 e3
    rw [← e1, ← e2] at hr
    exact hr
  have HRB := Lib.hid hrb; have HRW := Lib.hid hr2; have HH := Lib.hid h; have HB := Lib.hid hb; have HM := Lib.hid hm
  have HO1 : Hid (∀ cs ∈ blL d, ∀ u ∈ cs, u.oneCell' = true) := fun cs hcs => by
    obtain ⟨y, _, rfl⟩ := List.mem_map.1 hcs
    exact bc_one y
  have HO2 : Hid (∀ cs ∈ rowL d, ∀ u ∈ cs, u.oneCell' = true) := fun cs hcs => by
    obtain ⟨y, _, rfl⟩ := List.mem_map.1 hcs
    exact wrL_one y
  have hmost := h.ok.most
  have hmm : m ≤ 1000000 := by rw [hm]; omega
  clear h hb h1 h2 s2 hr2 hrb hm
  go_enter Try.func31, Try.ntmps31
  go_wp2_with fail
  have hlx : Later w (w.alloc (.cells #[.slice (some ⟨b, 0, none⟩) d.bl.length cc, .slice B m c2, .int .i64 (d.ops : Nat), .bool d.armed, .int .i64 d.left, .bool d.down] 67)) := (Later.refl w).alloc _
  have hbc := CellsAt.made w #[.slice (some ⟨b, 0, none⟩) d.bl.length cc, .slice B m c2, .int .i64 (d.ops : Nat), .bool d.armed, .int .i64 d.left, .bool d.down] 67
  have HLX := Lib.hid hlx
  refine bkCopy2 rfl (by kernel_rfl) ⟨_, rfl, rfl, rfl, rfl, by kernel_rfl⟩ ⟨_, rfl, rfl, rfl, rfl, by kernel_rfl⟩ ⟨_, rfl, rfl, rfl, rfl, by kernel_rfl⟩ ⟨_, rfl, rfl, rfl, rfl, by kernel_rfl⟩ ⟨_, rfl, rfl, rfl, rfl, by kernel_rfl⟩ ⟨_, rfl, rfl, rfl, rfl, by kernel_rfl⟩ ⟨_, rfl, rfl, rfl, rfl, by kernel_rfl⟩ ⟨_, rfl, rfl, rfl, rfl, by kernel_rfl⟩ ⟨_, rfl, rfl, rfl, rfl, by kernel_rfl⟩ ⟨_, rfl, rfl, rfl, rfl, by kernel_rfl⟩ ⟨_, rfl, rfl, rfl, rfl, by kernel_rfl⟩ ⟨_, rfl, rfl, rfl, rfl, by kernel_rfl⟩ ⟨_, rfl, rfl, rfl, rfl, by kernel_rfl⟩ ⟨_, rfl, rfl, rfl, rfl, by kernel_rfl⟩ (of_decide_eq_true rfl) (wb := W) (g := g) (gc := w.heap.size) (b := b) (N := d.bl.length) (cN := cc) (M := m) (cM := c2) (B := B) (s1 := .slice (some ⟨b, 0, none⟩) d.bl.length cc) (s2 := .slice B m c2) (bs := blL d) (wss := rowL d) rfl rfl ((HB.out.later hlx).cell rfl) ((HB.out.later hlx).cell rfl) (HH.out.base.trans hlx) (HRB.out.later hlx) (bl_ne HH.out.ok) HO1.out (by omega) (HRW.out.later hlx) HO2.out hmm hbc HH.out.base.le (fun a w6 w7 v6 v7 so l6 hx => ?_)
  obtain ⟨p, c1, Q, c3, ho1, hp, ho2, hq, hbx, hch⟩ := hx
  have hsz : w.heap.size ≤ (w.alloc (.cells #[.slice (some ⟨b, 0, none⟩) d.bl.length cc, .slice B m c2, .int .i64 (d.ops : Nat), .bool d.armed, .int .i64 d.left, .bool d.down] 67)).heap.size := hlx.le
  have hlat : Later w w7 := hch.low (HLX.out.trans l6) fun q hq => by rw [hq]; exact Nat.le_refl _
  have hdev : DevAt W w7 (fun q => w.heap.size ≤ q ∧ q < w7.heap.size) w.heap.size d :=
    ⟨⟨_, _, hbx, ho1, ho2, (fun q hq' => by cases hq'; exact ⟨Nat.le_trans hsz hp, (ho1.lt p rfl).2⟩), fun q hq' => ⟨by have := hq q hq'; omega, (ho2.lt q hq').2⟩⟩, HH.out.ok, ⟨Nat.le_refl _, hbx.lt⟩, fun k hk => ⟨Nat.le_trans HH.out.base.le hk.1, hk.2⟩, ho1.2.2⟩
  have HD := Lib.hid hdev; have HLT := Lib.hid hlat
  have ha := so.is
  simp only [List.foldl_cons, List.foldl_nil] at ha
  generalize a.eval (.tmp 7) = y7 at ha
  generalize a.eval (.tmp 8) = y8 at ha
  generalize a.eval (.tmp 9) = y9 at ha
  generalize a.eval (.tmp 10) = y10 at ha
  generalize a.eval (.tmp 11) = y11 at ha
  generalize a.eval (.tmp 12) = y12 at ha
  generalize a.eval (.tmp 13) = y13 at ha
  generalize a.eval (.tmp 14) = y14 at ha
  generalize a.eval (.tmp 15) = y15 at ha
  generalize a.eval (.tmp 16) = y16 at ha
  generalize a.eval (.tmp 17) = y17 at ha
  generalize a.eval (.tmp 18) = y18 at ha
  subst ha
  simp only [Act.put, List.setIfInBounds_toArray, List.set_cons_zero, List.set_cons_succ]
  clear hdev hlat so ho1 ho2 hbx hch hlx hbc l6 hsz hp hq x0 x1 x2 x3 x4 x5
  go_wp2
  go_ret
  exact ⟨_, _, rfl, HD.out, HLT.out, fun k hk => hk.1⟩
end

end Go.Proofs.Ytknjkkdoeanhbaa
