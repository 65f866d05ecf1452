/-
  What the statements' own example comes to: it is true.
-/
import Derived.Test.YtimljhmbaobgnaaWalk12
namespace Go.Proofs.Ytimljhmbaobgnaa
open Go.RowKit

def exL : List ByteArray := [⟨#[97]⟩, ⟨#[]⟩, ⟨#[98]⟩]
def exS : List ByteArray := [⟨#[97]⟩, ⟨#[120]⟩, ⟨#[121]⟩, ⟨#[98]⟩]
theorem ex_lines : lines ⟨#[97, 10, 10, 98]⟩ = exL := by decide +kernel
theorem ex_stands : standsB exL (1 : Nat) [⟨#[]⟩] = true := by decide +kernel
theorem ex_spliced : spliced exL 1 1 [⟨#[120]⟩, ⟨#[121]⟩] = exS := by decide +kernel
theorem ex_text : txt (textL exL) = ⟨#[97, 10, 10, 98, 10]⟩ := by decide +kernel
theorem ex_room : (textL exL).length ≤ 1000000 := by decide +kernel
theorem ex_same : sameB exS [⟨#[97]⟩, ⟨#[120]⟩, ⟨#[121]⟩, ⟨#[98]⟩] = true := by decide +kernel
theorem ex_find : findZ exS [⟨#[121]⟩, ⟨#[98]⟩] 0 = 2 := by decide +kernel
theorem ex_head : headN exL exS = 1 := by decide +kernel
theorem ex_tail : tailN exL exS = 1 := by decide +kernel
theorem ex_right : rightB ⟨#[97]⟩ = true := by decide +kernel
theorem ex_wrong : rightB ⟨#[10]⟩ = false := by decide +kernel
theorem ex_all : allB exL = true := by decide +kernel

set_option maxHeartbeats 400000 in
theorem alive_any (w : World) : Calls Try.prog 12 #[] w fun e w' => e = .returned (.bool true) ∧ Later w w' := by
  have c1 := cut_any ⟨#[97, 10, 10, 98]⟩ w (by decide)
  rw [ex_lines] at c1
  have C1 := Lib.hid c1; clear c1
  go_enter Try.func12, Try.ntmps12
  go_wp2_with fail
  refine C1.out.mono ?_
  rintro e w1 ⟨A1, k1, rfl, hk1, hr1, hl1⟩
  have e1 : exL.length = 3 := rfl
  rw [e1] at hk1 hr1 ⊢
  clear e1
  have HR1 := Lib.hid hr1; clear hr1
  go_wp2_with fail
  have r2 := (Row.lit w1 [⟨#[]⟩] 9).later ((Later.refl _).alloc (.cells #[.string ⟨#[120]⟩, .string ⟨#[121]⟩] 9))
  have r3 : Row ((w1.alloc (.cells #[.string ⟨#[]⟩] 9)).alloc (.cells #[.string ⟨#[120]⟩, .string ⟨#[121]⟩] 9)) (some ⟨w1.heap.size + 1, 0, none⟩) 2 [⟨#[120]⟩, ⟨#[121]⟩] := by
    have := Row.lit (w1.alloc (.cells #[.string ⟨#[]⟩] 9)) [⟨#[120]⟩, ⟨#[121]⟩] 9
    simpa using this
  have c2 := splice_yes A1 (some ⟨w1.heap.size, 0, none⟩) (some ⟨w1.heap.size + 1, 0, none⟩) 3 k1 1 1 2 2 exL [⟨#[]⟩] [⟨#[120]⟩, ⟨#[121]⟩] 1 _ (HR1.out.later (((Later.refl w1).alloc _).alloc _)) r2 r3 hk1 (by decide) (by decide) (by decide) ex_stands
  rw [ex_spliced] at c2
  have C2 := Lib.hid c2; clear c2 r2 r3
  refine C2.out.mono ?_
  rintro e w2 ⟨A2, k2, rfl, hk2, hr2, hl2⟩
  have e2 : exS.length = 4 := rfl
  rw [e2] at hk2 hr2 ⊢
  have hl12 : Later w1 w2 := (((Later.refl w1).alloc _).alloc _).trans hl2
  have hl02 : Later w w2 := hl1.trans hl12
  obtain ⟨b1, o1, rfl, g1⟩ := (HR1.out.later hl12).get (show 2 < 3 by decide)
  have eg : exL.getD 2 ByteArray.empty = ⟨#[98]⟩ := rfl
  rw [eg] at g1
  have HRL := Lib.hid (HR1.out.later hl12)
  have HRS := Lib.hid hr2
  clear e2 eg hl12 hl1 hl2 hr2 C1 C2 HR1
  go_wp2_with fail
  refine (text_any _ 3 k1 exL w2 HRL.out (by decide) ex_room).mono ?_
  rw [ex_text]
  rintro e w3 ⟨rfl, hl3⟩
  have HL3 := Lib.hid hl3; clear hl3
  clear g1
  go_wp2_with fail
  have C4 := Lib.hid (same_any A2 (some ⟨w3.heap.size, 0, none⟩) 4 k2 4 4 exS [⟨#[97]⟩, ⟨#[120]⟩, ⟨#[121]⟩, ⟨#[98]⟩] (w3.alloc (.cells #[.string ⟨#[97]⟩, .string ⟨#[120]⟩, .string ⟨#[121]⟩, .string ⟨#[98]⟩] 9))
    (HRS.out.later (HL3.out.alloc _)) (Row.lit w3 _ 9) (by decide) (by decide))
  rw [ex_same] at C4
  refine C4.out.mono ?_
  clear C4
  rintro e w4 ⟨rfl, hq4⟩
  have HL4 := Lib.hid ((HL3.out.alloc _).trans (later_of_drew hq4)); clear hq4 HL3
  go_wp2_with fail
  have C5 := Lib.hid (find_any A2 (some ⟨w4.heap.size, 0, none⟩) 4 k2 2 2 exS [⟨#[121]⟩, ⟨#[98]⟩] 0 (w4.alloc (.cells #[.string ⟨#[121]⟩, .string ⟨#[98]⟩] 9))
    (HRS.out.later (HL4.out.alloc _)) (Row.lit w4 _ 9) hk2 (by decide) (by decide) (by decide) (by decide))
  rw [ex_find] at C5
  refine C5.out.mono ?_
  clear C5
  rintro e w5 ⟨rfl, hq5⟩
  have HL5 := Lib.hid ((HL4.out.alloc _).trans (later_of_drew hq5)); clear hq5 HL4
  go_wp2_with fail
  have C6 := Lib.hid (head_any _ A2 3 k1 4 k2 exL exS w5 (HRL.out.later HL5.out) (HRS.out.later HL5.out) (by decide))
  rw [ex_head] at C6
  refine C6.out.mono ?_
  clear C6
  rintro e w6 ⟨rfl, hq6⟩
  have HL6 := Lib.hid (HL5.out.trans (later_of_drew hq6)); clear hq6 HL5
  go_wp2_with fail
  have C7 := Lib.hid (tail_any _ A2 3 k1 4 k2 exL exS w6 (HRL.out.later HL6.out) (HRS.out.later HL6.out) (by decide) (by decide))
  rw [ex_tail] at C7
  refine C7.out.mono ?_
  clear C7
  rintro e w7 ⟨rfl, hq7⟩
  have HL7 := Lib.hid (HL6.out.trans (later_of_drew hq7)); clear hq7 HL6
  go_wp2_with fail
  have C8 := Lib.hid (right_any ⟨#[97]⟩ w7 (by decide +kernel))
  rw [ex_right] at C8
  refine C8.out.mono ?_
  clear C8
  rintro e w8 ⟨rfl, rfl⟩
  go_wp2_with fail
  have C9 := Lib.hid (right_any ⟨#[10]⟩ w7 (by decide +kernel))
  rw [ex_wrong] at C9
  refine C9.out.mono ?_
  clear C9
  rintro e w9 ⟨rfl, rfl⟩
  go_wp2_with fail
  have C10 := Lib.hid (all_any _ 3 k1 exL w7 (HRL.out.later HL7.out) (by decide) (by decide +kernel))
  rw [ex_all] at C10
  refine C10.out.mono ?_
  clear C10
  rintro e w10 ⟨rfl, rfl⟩
  go_wp2
  go_ret
  exact ⟨rfl, hl02.trans HL7.out⟩

end Go.Proofs.Ytimljhmbaobgnaa
