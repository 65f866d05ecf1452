/-
  The test for few lines at one, two and three rows; and the law on Head, Tail and Same as a call.
-/
import Derived.Test.YtimljhmbaobgnaaWalk13
namespace Go.Proofs.Ytimljhmbaobgnaa
open Go.RowKit

/-- A bool; if it is true, p holds; the world is as it was. -/
def Tells (p : Prop) (w : World) (e : Ending) (w' : World) : Prop := ∃ b : Bool, e = .returned (.bool b) ∧ (b = true → p) ∧ w = w'

/-- What is asked of a row that comes in: it reads as these lines, and it is no greater than a machine's memory. -/
structure Came (w : World) (A : Option Addr) (n c : Nat) (ss : List ByteArray) : Prop where
  row : Row w A n ss
  room : n ≤ c
  most : n ≤ 140737488355328
  size : ∀ s ∈ ss, s.size ≤ 140737488355328

theorem Came.later {w w' : World} {A : Option Addr} {n c : Nat} {ss : List ByteArray} (h : Came w A n c ss) (hl : Later w w') : Came w' A n c ss := ⟨h.row.later hl, h.room, h.most, h.size⟩

theorem few1 (A : Option Addr) (n c : Nat) (xs : List ByteArray) (w : World) (hx : Came w A n c xs) :
    Calls Try.prog 11 #[.slice (some ⟨w.heap.size, 0, none⟩) 1 1] (w.alloc (.cells #[.slice A n c] 22)) (Tells (n ≤ 300 ∧ bulk xs ≤ 6000) (w.alloc (.cells #[.slice A n c] 22))) := by
  refine (few_any w.heap.size 1 (fun _ => A) (fun _ => n) (fun _ => c) (fun _ => xs) _ (by omega) (fun i hi => ?_) (fun i hi => hx.row.later ((Later.refl w).alloc _)) (fun i hi => hx.most) (fun i hi => hx.size)).mono ?_
  · obtain rfl : i = 0 := (by omega)
    simp
  · rintro e w' ⟨b, rfl, hb, rfl⟩
    refine ⟨b, rfl, fun h => ?_, rfl⟩
    have := hb h
    simp only [cnt, blk, hx.row.len] at this
    exact ⟨by omega, by omega⟩

theorem few2 (A B : Option Addr) (n c m d : Nat) (xs ys : List ByteArray) (w : World) (hx : Came w A n c xs) (hy : Came w B m d ys) :
    Calls Try.prog 11 #[.slice (some ⟨w.heap.size, 0, none⟩) 2 2] (w.alloc (.cells #[.slice A n c, .slice B m d] 22)) (Tells (n ≤ 300 ∧ m ≤ 300 ∧ bulk xs ≤ 6000 ∧ bulk ys ≤ 6000) (w.alloc (.cells #[.slice A n c, .slice B m d] 22))) := by
  refine (few_any w.heap.size 2 (fun i => if i = 0 then A else B) (fun i => if i = 0 then n else m) (fun i => if i = 0 then c else d) (fun i => if i = 0 then xs else ys) _ (by omega) (fun i hi => ?_) (fun i hi => ?_) (fun i hi => ?_) (fun i hi => ?_)).mono ?_
  · rcases (by omega : i = 0 ∨ i = 1) with rfl | rfl <;> simp
  · rcases (by omega : i = 0 ∨ i = 1) with rfl | rfl
    · exact hx.row.later ((Later.refl w).alloc _)
    · exact hy.row.later ((Later.refl w).alloc _)
  · have := hx.most; have := hy.most
    show (if i = 0 then n else m) ≤ _
    split <;> omega
  · rcases (by omega : i = 0 ∨ i = 1) with rfl | rfl
    · exact hx.size
    · exact hy.size
  · rintro e w' ⟨b, rfl, hb, rfl⟩
    refine ⟨b, rfl, fun h => ?_, rfl⟩
    have := hb h
    simp [cnt, blk, hx.row.len, hy.row.len] at this
    exact ⟨by omega, by omega, by omega, by omega⟩

theorem few3 (A B C : Option Addr) (n c m d p q : Nat) (xs ys zs : List ByteArray) (w : World) (hx : Came w A n c xs) (hy : Came w B m d ys) (hz : Came w C p q zs) :
    Calls Try.prog 11 #[.slice (some ⟨w.heap.size, 0, none⟩) 3 3] (w.alloc (.cells #[.slice A n c, .slice B m d, .slice C p q] 22)) (Tells (n ≤ 300 ∧ m ≤ 300 ∧ p ≤ 300) (w.alloc (.cells #[.slice A n c, .slice B m d, .slice C p q] 22))) := by
  refine (few_any w.heap.size 3 (fun i => if i = 0 then A else if i = 1 then B else C) (fun i => if i = 0 then n else if i = 1 then m else p) (fun i => if i = 0 then c else if i = 1 then d else q) (fun i => if i = 0 then xs else if i = 1 then ys else zs) _ (by omega) (fun i hi => ?_) (fun i hi => ?_) (fun i hi => ?_) (fun i hi => ?_)).mono ?_
  · rcases (by omega : i = 0 ∨ i = 1 ∨ i = 2) with rfl | rfl | rfl <;> simp
  · rcases (by omega : i = 0 ∨ i = 1 ∨ i = 2) with rfl | rfl | rfl
    · exact hx.row.later ((Later.refl w).alloc _)
    · exact hy.row.later ((Later.refl w).alloc _)
    · exact hz.row.later ((Later.refl w).alloc _)
  · have := hx.most; have := hy.most; have := hz.most
    show (if i = 0 then n else if i = 1 then m else p) ≤ _
    split
    · omega
    · split <;> omega
  · rcases (by omega : i = 0 ∨ i = 1 ∨ i = 2) with rfl | rfl | rfl
    · exact hx.size
    · exact hy.size
    · exact hz.size
  · rintro e w' ⟨b, rfl, hb, rfl⟩
    refine ⟨b, rfl, fun h => ?_, rfl⟩
    have := hb h
    simp [cnt, hx.row.len, hy.row.len, hz.row.len] at this
    exact ⟨by omega, by omega, by omega⟩

set_option maxHeartbeats 400000 in
theorem lawEnds (A B : Option Addr) (n c m d : Nat) (xs ys : List ByteArray) (w : World) (hx : Came w A n c xs) (hy : Came w B m d ys) :
    Calls Try.prog 9 #[.slice A n c, .slice B m d] w fun e w' => e = .returned (.bool true) ∧ Later w w' := by
  have hrc := hx.room
  have hrd := hy.room
  have F := Lib.hid (few2 A B n c m d xs ys w hx hy)
  have HX := Lib.hid hx; clear hx
  have HY := Lib.hid hy; clear hy
  go_enter Try.func9, Try.ntmps9
  go_wp2_with fail
  refine F.out.mono ?_
  rintro e w1 ⟨b, rfl, hb, rfl⟩
  have HL1 := Lib.hid ((Later.refl w).alloc (.cells #[.slice A n c, .slice B m d] 22))
  clear F
  cases b
  · clear hb
    go_wp2_with fail
    refine (alive_any _).mono ?_
    rintro e w2 ⟨rfl, hl2⟩
    go_wp2
    go_ret
    exact ⟨rfl, HL1.out.trans hl2⟩
  · have hb' := hb rfl
    clear hb
    go_wp2_with fail
    refine (alive_any _).mono ?_
    rintro e w2 ⟨rfl, hl2⟩
    have HL2 := Lib.hid (HL1.out.trans hl2); clear HL1 hl2
    go_wp2_with fail
    refine (head_any A B n c m d xs ys w2 (HX.out.row.later HL2.out) (HY.out.row.later HL2.out) (by omega)).mono ?_
    rintro e w3 ⟨rfl, hq3⟩
    have HL3 := Lib.hid (HL2.out.trans (later_of_drew hq3)); clear HL2 hq3
    go_wp2_with fail
    refine (refHead_any A B n c m d xs ys w3 (HX.out.row.later HL3.out) (HY.out.row.later HL3.out) hrc hrd (by omega) (by omega)).mono ?_
    rintro e w4 ⟨rfl, hq4⟩
    have HL4 := Lib.hid (HL3.out.trans (later_of_drew hq4)); clear HL3 hq4
    go_wp2_with fail
    refine (tail_any A B n c m d xs ys w4 (HX.out.row.later HL4.out) (HY.out.row.later HL4.out) (by omega) (by omega)).mono ?_
    rintro e w5 ⟨rfl, hq5⟩
    have HL5 := Lib.hid (HL4.out.trans (later_of_drew hq5)); clear HL4 hq5
    go_wp2_with fail
    refine (refTail_any A B n c m d xs ys w5 (HX.out.row.later HL5.out) (HY.out.row.later HL5.out) hrc hrd (by omega) (by omega)).mono ?_
    rintro e w6 ⟨rfl, hq6⟩
    have HL6 := Lib.hid (HL5.out.trans (later_of_drew hq6)); clear HL5 hq6
    go_wp2_with fail
    refine (same_any A B n c m d xs ys w6 (HX.out.row.later HL6.out) (HY.out.row.later HL6.out) (by omega) (by omega)).mono ?_
    rintro e w7 ⟨rfl, hq7⟩
    have HL7 := Lib.hid (HL6.out.trans (later_of_drew hq7)); clear HL6 hq7
    go_wp2_with fail
    refine (refSame_any A B n c m d xs ys w7 (HX.out.row.later HL7.out) (HY.out.row.later HL7.out) (by omega) (by omega)).mono ?_
    rintro e w8 ⟨rfl, hq8⟩
    have HL8 := Lib.hid (HL7.out.trans (later_of_drew hq8)); clear HL7 hq8
    go_wp2
    go_ret
    exact ⟨ret_bool (by simp), HL8.out⟩

end Go.Proofs.Ytimljhmbaobgnaa
