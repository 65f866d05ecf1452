/-
  The statements' own example: a file of two lines.
-/
import Derived.Test.YtbjbimahmbapdaaDoorLwOld
import Derived.Test.YtbjbimahmbapdaaDoorTrText
import Derived.Test.YtbjbimahmbapdaaDoorTrSame
import Derived.Test.YtbjbimahmbapdaaDoorTrMany
namespace Go.Proofs.YtbjbimahmbapdaaDoor
open Go.RowKit Go.Maps

def nA : ByteArray := ⟨#[97]⟩
def nB : ByteArray := ⟨#[98]⟩
def nX : ByteArray := ⟨#[120]⟩
def nY : ByteArray := ⟨#[121]⟩
def nUp : ByteArray := ⟨#[65]⟩
def tA0 : Tr := [(nA, [])]
def tA : Tr := [(nA, [nX, nY])]
def tB : Tr := [(nB, [nX, nY])]

theorem ex1 : addT [] nA = (tA0, 0) := by kernel_rfl
theorem ex2 : putT tA0 nA [nX, nY] = (tA, 0) := by kernel_rfl
theorem ex3 : moveT tA nA nB = (tB, 0) := by kernel_rfl
theorem ex4 : addT tB nUp = (tB, 20) := by kernel_rfl
theorem ex5 : removeT tB nB = (tB, 22) := by kernel_rfl
theorem ex6 : namedB ⟨#[97, 47, 98, 46, 99]⟩ = true := by kernel_rfl
theorem ex7 : textT tA = [97, 32, 50, 10, 120, 10, 121, 10] := by kernel_rfl
theorem ex8 : textT tB = [98, 32, 50, 10, 120, 10, 121, 10] := by kernel_rfl
theorem ex9 : sameT tB tA = false := by kernel_rfl
theorem small_len {s : ByteArray} (h : s.size ≤ 100) : s.size ≤ maxLen := by simp only [maxLen]; omega
theorem smallA : Small tA := ⟨by simp [tA], fun f hf => by simp [tA] at hf; subst hf; exact small_len (by decide), fun f hf => by simp [tA] at hf; subst hf; simp⟩
theorem smallB : Small tB := ⟨by simp [tB], fun f hf => by simp [tB] at hf; subst hf; exact small_len (by decide), fun f hf => by simp [tB] at hf; subst hf; simp⟩

set_option maxRecDepth 100000 in
set_option maxHeartbeats 1000000 in
theorem alive_any (w : World) (htab : Tab w) : Calls Tryd.prog 10 #[] w (Says true w) := by
  have HTB := Lib.hid htab; clear htab
  go_enter Tryd.func10, Tryd.ntmps10
  go_wp2_with fail
  refine (new_any w).mono ?_
  rintro e w1 ⟨p, B, rfl, ht1, hp, hB, hl1⟩
  have HT1 := Lib.hid ht1; have HL1 := Lib.hid hl1; clear ht1 hl1
  go_wp2_with fail
  refine (add_any p B nA [] w1 HT1.out (small_len (by decide)) (by simp)).mono ?_
  rw [ex1]
  rintro e w2 ⟨rfl, ht2, hg2⟩
  have HT2 := Lib.hid ht2; have HL2 := Lib.hid (HL1.out.turn hg2 hB); clear ht2 hg2
  go_wp2_with fail
  refine (put_any p B nA (some ⟨w2.heap.size, 0, none⟩) 2 2 [nX, nY] tA0 _ (HT2.out.later ((Later.refl w2).alloc _)) (Row.lit w2 [nX, nY] 9) (small_len (by decide)) (by simp [tA0]) (by omega) (fun s hs => by simp at hs; rcases hs with rfl | rfl <;> exact small_len (by decide))).mono ?_
  rw [ex2]
  rintro e w3 ⟨rfl, ht3, hg3⟩
  have HT3 := Lib.hid ht3; have HL3 := Lib.hid ((HL2.out.alloc _).turn hg3 hB); clear ht3 hg3
  go_wp2_with fail
  refine (copy_any p B tA w3 HT3.out (by simp [tA]) smallA.lines).mono ?_
  rintro e w4 ⟨p4, B4, rfl, ht4, hp4, hB4, hl4⟩
  have HT4 := Lib.hid ht4; have HL4 := Lib.hid hl4
  have hBlt := HT3.out.files.lt
  have hne : B4 ≠ B := by omega
  clear ht4 hl4
  go_wp2_with fail
  refine (move_any p B nA nB tA w4 (HT3.out.later HL4.out) (small_len (by decide)) (small_len (by decide)) (by simp [tA])).mono ?_
  rw [ex3]
  rintro e w5 ⟨rfl, ht5, hg5⟩
  have HT5 := Lib.hid ht5; have HL5 := Lib.hid ((HL3.out.trans HL4.out).turn hg5 hB)
  have HC5 : Hid (TreeAt w5 p4 B4 tA) := by
    obtain ⟨es, c, hm⟩ := (HT3.out.later HL4.out).files.map
    exact HT4.out.other hg5 hne hm
  clear ht5 hg5
  go_wp2_with fail
  refine (many_any p B tB w5 HT5.out (by simp [tB]) (by simp [tB, linesT])).mono ?_
  rintro e w6 ⟨rfl, hl6⟩
  have HL6 := Lib.hid hl6; clear hl6
  have hl2 : ((linesT tB : Nat) : Int) = 2 := rfl
  have hl1' : ((List.length tB : Nat) : Int) = 1 := rfl
  rw [hl2, hl1']
  clear hl2 hl1'
  go_wp2_with fail
  refine (treeText_any p4 B4 tA w6 (HC5.out.later HL6.out) (HTB.out.later (HL5.out.trans HL6.out)) (by simp [tA]) (by rw [ex7]; simp) (fun f hf => ⟨smallA.names f hf, smallA.lines f hf⟩)).mono ?_
  rintro e w7 ⟨rfl, hl7⟩
  have HL7 := Lib.hid (HL6.out.trans hl7); clear hl7
  have e7 : txt (textT tA) = ⟨#[97, 32, 50, 10, 120, 10, 121, 10]⟩ := by rw [ex7]; rfl
  rw [e7]
  clear e7
  go_wp2_with fail
  refine (treeText_any p B tB w7 (HT5.out.later HL7.out) (HTB.out.later (HL5.out.trans HL7.out)) (by simp [tB]) (by rw [ex8]; simp) (fun f hf => ⟨smallB.names f hf, smallB.lines f hf⟩)).mono ?_
  rintro e w8 ⟨rfl, hl8⟩
  have HL8 := Lib.hid (HL7.out.trans hl8); clear hl8
  have e8 : txt (textT tB) = ⟨#[98, 32, 50, 10, 120, 10, 121, 10]⟩ := by rw [ex8]; rfl
  rw [e8]
  clear e8
  go_wp2_with fail
  refine (sameTree_any p B p4 B4 tB tA w8 (HT5.out.later HL8.out) (HC5.out.later HL8.out) smallB.lines smallA.lines).mono ?_
  rw [ex9]
  rintro e w9 ⟨rfl, hl9⟩
  have HL9 := Lib.hid (HL8.out.trans hl9); clear hl9
  go_wp2_with fail
  refine (copy_any p B tB w9 (HT5.out.later HL9.out) (by simp [tB]) smallB.lines).mono ?_
  rintro e w10 ⟨p5, B5, rfl, ht10, hp10, hB10, hl10⟩
  have HT10 := Lib.hid ht10; have HL10 := Lib.hid (HL9.out.trans hl10); clear ht10 hl10
  go_wp2_with fail
  refine (sameTree_any p B p5 B5 tB tB w10 (HT5.out.later HL10.out) HT10.out smallB.lines smallB.lines).mono ?_
  rw [sameT_self]
  rintro e w11 ⟨rfl, hl11⟩
  have HL11 := Lib.hid (HL10.out.trans hl11); clear hl11
  go_wp2_with fail
  refine (add_any p B nUp tB w11 (HT5.out.later HL11.out) (small_len (by decide)) (by simp [tB])).mono ?_
  rw [ex4]
  rintro e w12 ⟨rfl, ht12, hg12⟩
  have HT12 := Lib.hid ht12; have HL12 := Lib.hid ((HL5.out.trans HL11.out).turn hg12 hB); clear ht12 hg12
  go_wp2_with fail
  refine (remove_any p B nB tB w12 HT12.out (small_len (by decide)) smallB.lines).mono ?_
  rw [ex5]
  rintro e w13 ⟨rfl, ht13, hg13⟩
  have HL13 := Lib.hid (HL12.out.turn hg13 hB); clear ht13 hg13
  go_wp2_with fail
  refine (named_any _ w13 (small_len (by decide))).mono ?_
  rw [ex6]
  rintro e w14 ⟨rfl, rfl⟩
  go_wp2
  go_ret
  exact ⟨rfl, HL13.out⟩

end Go.Proofs.YtbjbimahmbapdaaDoor
