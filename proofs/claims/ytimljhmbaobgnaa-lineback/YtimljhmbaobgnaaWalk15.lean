/-
  The laws on Find, on Right and All, and on Cut and Text, as calls.
-/
import Derived.Test.YtimljhmbaobgnaaWalk14
namespace Go.Proofs.Ytimljhmbaobgnaa
open Go.RowKit

set_option maxHeartbeats 400000 in
theorem lawFinds (A B : Option Addr) (n c m d : Nat) (xs ys : List ByteArray) (f : Int) (w : World) (hx : Came w A n c xs) (hy : Came w B m d ys) (hf0 : -9223372036854775808 ≤ f) (hf1 : f ≤ 9223372036854775807) :
    Calls Try.prog 8 #[.slice A n c, .slice B m d, .int .i64 f] w fun e w' => e = .returned (.bool true) ∧ Later w w' := by
  have hrc := hx.room
  have F := Lib.hid (few2 A B n c m d xs ys w hx hy)
  have HX := Lib.hid hx; clear hx
  have HY := Lib.hid hy; clear hy
  go_enter Try.func8, Try.ntmps8
  go_wp2_with fail
  refine F.out.mono ?_
  rintro e w1 ⟨b, rfl, hb, rfl⟩
  have HL1 := Lib.hid ((Later.refl w).alloc (.cells #[.slice A n c, .slice B m d] 22))
  clear F
  cases b
  · clear hb
    go_wp2_with fail
    refine (alive_any _).mono ?_
    rintro e w2 ⟨rfl, hl2⟩
    go_wp2
    go_ret
    exact ⟨rfl, HL1.out.trans hl2⟩
  · have hb' := hb rfl
    clear hb
    go_wp2_with fail
    refine (alive_any _).mono ?_
    rintro e w2 ⟨rfl, hl2⟩
    have HL2 := Lib.hid (HL1.out.trans hl2); clear HL1 hl2
    go_wp2_with fail
    refine (find_any A B n c m d xs ys f w2 (HX.out.row.later HL2.out) (HY.out.row.later HL2.out) hrc (by omega) (by omega) hf0 hf1).mono ?_
    rintro e w3 ⟨rfl, hq3⟩
    have HL3 := Lib.hid (HL2.out.trans (later_of_drew hq3)); clear HL2 hq3
    go_wp2_with fail
    refine (refFind_any A B n c m d xs ys f w3 (HX.out.row.later HL3.out) (HY.out.row.later HL3.out) hrc (by omega) (by omega)).mono ?_
    rintro e w4 ⟨rfl, hl4⟩
    have HL4 := Lib.hid (HL3.out.trans hl4); clear HL3 hl4
    go_wp2
    go_ret
    exact ⟨ret_bool (by simp), HL4.out⟩

set_option maxHeartbeats 400000 in
theorem lawRight (s : ByteArray) (A : Option Addr) (n c : Nat) (xs : List ByteArray) (w : World) (hs : s.size ≤ 140737488355328) (hx : Came w A n c xs) :
    Calls Try.prog 5 #[.string s, .slice A n c] w fun e w' => e = .returned (.bool true) ∧ Later w w' := by
  have F := Lib.hid (few1 A n c xs w hx)
  have HX := Lib.hid hx; clear hx
  by_cases hbig : 3000 < s.size
  · have hd : decide ((3000 : Int) < s.size) = true := by simp; omega
    go_enter Try.func5, Try.ntmps5
    go_wp2_with fail
    refine (alive_any _).mono ?_
    rintro e w2 ⟨rfl, hl2⟩
    go_wp2
    go_ret
    exact ⟨rfl, hl2⟩
  · have hd : decide ((3000 : Int) < s.size) = false := by simp; omega
    go_enter Try.func5, Try.ntmps5
    go_wp2_with fail
    refine F.out.mono ?_
    rintro e w1 ⟨b, rfl, hb, rfl⟩
    have HL1 := Lib.hid ((Later.refl w).alloc (.cells #[.slice A n c] 22))
    clear F
    cases b
    · clear hb
      go_wp2_with fail
      refine (alive_any _).mono ?_
      rintro e w2 ⟨rfl, hl2⟩
      go_wp2
      go_ret
      exact ⟨rfl, HL1.out.trans hl2⟩
    · have hb' := hb rfl
      clear hb
      go_wp2_with fail
      refine (alive_any _).mono ?_
      rintro e w2 ⟨rfl, hl2⟩
      have HL2 := Lib.hid (HL1.out.trans hl2); clear HL1 hl2
      have hml : s.size ≤ maxLen := by simp only [maxLen]; omega
      have hmx : ∀ x ∈ xs, x.size ≤ maxLen := fun x hx => by have := HX.out.size x hx; simp only [maxLen]; omega
      have HMX := Lib.hid hmx; clear hmx
      go_wp2_with fail
      refine (right_any s w2 hml).mono ?_
      rintro e w3 ⟨rfl, rfl⟩
      go_wp2_with fail
      refine (refRight_any s w2 hml).mono ?_
      rintro e w4 ⟨rfl, rfl⟩
      go_wp2_with fail
      refine (all_any A n c xs w2 (HX.out.row.later HL2.out) (by omega) HMX.out).mono ?_
      rintro e w5 ⟨rfl, rfl⟩
      go_wp2_with fail
      refine (refAll_any A n c xs w2 (HX.out.row.later HL2.out) (by omega) HMX.out).mono ?_
      rintro e w6 ⟨rfl, rfl⟩
      go_wp2
      go_ret
      exact ⟨ret_bool (by simp), HL2.out⟩

end Go.Proofs.Ytimljhmbaobgnaa
