/-
  What Right, All of the program and of the document's own answers come to; and the document's Same.
-/
import Derived.Test.YtimljhmbaobgnaaWalk2
import Derived.Test.YtimljhmbaobgnaaShelf
import Derived.Lib.IndexLaws
namespace Go.Proofs.Ytimljhmbaobgnaa
open Go.RowKit

/-- Has the text a byte 10? -/
def hasEnd (s : ByteArray) : Bool := decide (0 ≤ Lib.indexByte s.data.toList 10)
/-- A line that may be. -/
def rightB (s : ByteArray) : Bool := decide (s.size ≤ 60) && !hasEnd s
def allB (l : List ByteArray) : Bool := l.all rightB

theorem hasEnd_no {s : ByteArray} (h : ∀ k : Nat, s.data.toList[k]? ≠ some 10) : hasEnd s = false := by
  unfold hasEnd
  rw [decide_eq_false_iff_not]
  intro h0
  obtain ⟨o, ho⟩ := Int.eq_ofNat_of_zero_le h0
  exact h o (Lib.indexByte_some ho).1
theorem hasEnd_yes {s : ByteArray} {k : Nat} (h : s.data.toList[k]? = some 10) : hasEnd s = true := by
  unfold hasEnd
  rw [decide_eq_true_eq]
  have := Lib.indexByte_ge s.data.toList 10
  by_cases hlt : Lib.indexByte s.data.toList 10 < 0
  · exact absurd h (Lib.indexByte_none (by omega) k)
  · omega

set_option maxHeartbeats 400000 in
theorem right_any (s : ByteArray) (w : World) (hs : s.size ≤ maxLen) :
    Calls Try.prog 20 #[.string s] w fun e w' => e = .returned (.bool (rightB s)) ∧ w = w' := by
  unfold maxLen at hs
  have hr : rightB s = (decide (s.size ≤ 60) && !hasEnd s) := rfl
  by_cases h : s.size ≤ 60
  · rw [decide_eq_true h, Bool.true_and] at hr
    have HR := Lib.hid hr; clear hr
    have hd : decide ((s.size : Int) ≤ 60) = true := by simp; omega
    have H := Lib.hid (Try.strings_Contains_one s 10 w)
    go_enter Try.func20, Try.ntmps20
    go_wp2_with (go_at_call 18; refine H.out.mono ?_; rintro e w' ⟨rfl, rfl⟩)
    go_ret
    exact ⟨by rw [HR.out]; rfl, rfl⟩
  · rw [decide_eq_false h, Bool.false_and] at hr
    have HR := Lib.hid hr; clear hr
    have hd : decide ((s.size : Int) ≤ 60) = false := by simp; omega
    go_enter Try.func20, Try.ntmps20
    go_wp2
    go_ret
    exact ⟨by rw [HR.out]; rfl, rfl⟩

set_option maxHeartbeats 400000 in
theorem refRight_any (s : ByteArray) (w : World) (hs : s.size ≤ maxLen) :
    Calls Try.prog 21 #[.string s] w fun e w' => e = .returned (.bool (rightB s)) ∧ w = w' := by
  unfold maxLen at hs
  go_enter Try.func21, Try.ntmps21
  go_wp2
  go_loop [3] (fun i => ∃ k : Nat, k ≤ s.size ∧ i = .int .i64 k ∧ Hid (∀ j : Nat, j < k → s.data.toList[j]? ≠ some 10)) (fun i => s.size - (intOf i).toNat)
  case atStart => exact ⟨0, Nat.zero_le _, rfl, fun j hj => absurd hj (Nat.not_lt_zero _)⟩
  case round =>
    obtain ⟨k, hk, rfl, hno⟩ := hrel
    by_cases hlt : k < s.size
    · go_wp2
      · have h10 := byte_is (c := s[k]) ‹_›
        have e : rightB s = false := by
          unfold rightB
          rw [hasEnd_yes (k := k) (by rw [byte_at hlt, h10])]; simp
        have E := Lib.hid e
        go_ret
        exact ⟨ret_bool E.out.symm, rfl⟩
      · have h10 := byte_isnt (c := s[k]) ‹_›
        refine ⟨⟨k + 1, by omega, by go_num, fun j hj => ?_⟩, by simp [intOf]; omega⟩
        by_cases e : j = k
        · subst e; rw [byte_at hlt]; simpa using h10
        · exact hno.out j (by omega)
    · have e : rightB s = decide (s.size ≤ 60) := by
        unfold rightB
        rw [hasEnd_no (fun j => ?_)]; simp
        by_cases hj : j < k
        · exact hno.out j hj
        · rw [List.getElem?_eq_none (by simp; omega)]; simp
      have E := Lib.hid e; clear e hno
      go_wp2
      go_ret
      exact ⟨ret_bool (by rw [E.out]; simp; omega), rfl⟩

theorem allB_get {l : List ByteArray} {k : Nat} (hk : k < l.length) (h : rightB (l.getD k ByteArray.empty) = false) : allB l = false := by
  unfold allB
  rw [List.all_eq_false]
  refine ⟨l[k], List.getElem_mem hk, ?_⟩
  simp only [List.getD, List.getElem?_eq_getElem hk, Option.getD_some] at h
  simp [h]
theorem allB_all {l : List ByteArray} (h : ∀ k : Nat, k < l.length → rightB (l.getD k ByteArray.empty) = true) : allB l = true := by
  unfold allB
  rw [List.all_eq_true]
  intro x hx
  obtain ⟨k, hk, rfl⟩ := List.getElem_of_mem hx
  have := h k hk
  simpa [List.getD, List.getElem?_eq_getElem hk] using this

set_option maxHeartbeats 400000 in
theorem all_any (A : Option Addr) (n c : Nat) (l : List ByteArray) (w : World) (hx : Row w A n l) (hn : n ≤ 65536) (hs : ∀ x ∈ l, x.size ≤ maxLen) :
    Calls Try.prog 22 #[.slice A n c] w fun e w' => e = .returned (.bool (allB l)) ∧ w = w' := by
  have HX := Lib.hid hx; clear hx
  have HS := Lib.hid hs; clear hs
  go_enter Try.func22, Try.ntmps22
  go_wp2
  go_loop [7] (fun i => ∃ k : Nat, k ≤ n ∧ i = .int .i64 k ∧ Hid (∀ j : Nat, j < k → rightB (l.getD j ByteArray.empty) = true)) (fun i => n - (intOf i).toNat)
  case atStart => exact ⟨0, Nat.zero_le _, rfl, fun j hj => absurd hj (Nat.not_lt_zero _)⟩
  case round =>
    obtain ⟨k, hk, rfl, hall⟩ := hrel
    by_cases hlt : k < n
    · obtain ⟨b1, o1, rfl, g1⟩ := HX.out.get hlt
      have hkl : k < l.length := by rw [HX.out.len]; exact hlt
      have hsz : (l.getD k ByteArray.empty).size ≤ maxLen := by
        simp only [List.getD, List.getElem?_eq_getElem hkl, Option.getD_some]
        exact HS.out _ (List.getElem_mem hkl)
      have hr := right_any (l.getD k ByteArray.empty) w hsz
      cases hb : rightB (l.getD k ByteArray.empty)
      · rw [hb] at hr
        have e := allB_get hkl hb
        have E := Lib.hid e
        have HR := Lib.hid hr; clear hr hb hsz e hkl hall
        generalize l.getD k ByteArray.empty = x at g1 HR
        go_wp2_with (go_at_call 20; refine HR.out.mono ?_; rintro e w' ⟨rfl, rfl⟩)
        go_ret
        exact ⟨ret_bool E.out.symm, rfl⟩
      · rw [hb] at hr
        have HA : Hid (∀ j : Nat, j < k + 1 → rightB (l.getD j ByteArray.empty) = true) := fun j hj => by
          by_cases e : j = k
          · rw [e]; exact hb
          · exact hall.out j (by omega)
        have HR := Lib.hid hr; clear hr hb hsz hkl hall
        generalize l.getD k ByteArray.empty = x at g1 HR
        go_wp2_with (go_at_call 20; refine HR.out.mono ?_; rintro e w' ⟨rfl, rfl⟩)
        exact ⟨⟨k + 1, by omega, by go_num, HA⟩, by simp [intOf]; omega⟩
    · have e : allB l = true := allB_all fun j hj => hall.out j (by rw [HX.out.len] at hj; omega)
      have E := Lib.hid e; clear e hall
      go_wp2
      go_ret
      exact ⟨ret_bool E.out.symm, rfl⟩

set_option maxHeartbeats 400000 in
theorem refAll_any (A : Option Addr) (n c : Nat) (l : List ByteArray) (w : World) (hx : Row w A n l) (hn : n ≤ 65536) (hs : ∀ x ∈ l, x.size ≤ maxLen) :
    Calls Try.prog 23 #[.slice A n c] w fun e w' => e = .returned (.bool (allB l)) ∧ w = w' := by
  have HX := Lib.hid hx; clear hx
  have HS := Lib.hid hs; clear hs
  go_enter Try.func23, Try.ntmps23
  go_wp2
  go_loop [3] (fun i => ∃ k : Nat, k ≤ n ∧ i = .int .i64 k ∧ Hid (∀ j : Nat, j < k → rightB (l.getD j ByteArray.empty) = true)) (fun i => n - (intOf i).toNat)
  case atStart => exact ⟨0, Nat.zero_le _, rfl, fun j hj => absurd hj (Nat.not_lt_zero _)⟩
  case round =>
    obtain ⟨k, hk, rfl, hall⟩ := hrel
    by_cases hlt : k < n
    · obtain ⟨b1, o1, rfl, g1⟩ := HX.out.get hlt
      have hkl : k < l.length := by rw [HX.out.len]; exact hlt
      have hsz : (l.getD k ByteArray.empty).size ≤ maxLen := by
        simp only [List.getD, List.getElem?_eq_getElem hkl, Option.getD_some]
        exact HS.out _ (List.getElem_mem hkl)
      have hr := refRight_any (l.getD k ByteArray.empty) w hsz
      cases hb : rightB (l.getD k ByteArray.empty)
      · rw [hb] at hr
        have e := allB_get hkl hb
        have E := Lib.hid e
        have HR := Lib.hid hr; clear hr hb hsz e hkl hall
        generalize l.getD k ByteArray.empty = x at g1 HR
        go_wp2_with (go_at_call 21; refine HR.out.mono ?_; rintro e w' ⟨rfl, rfl⟩)
        go_ret
        exact ⟨ret_bool E.out.symm, rfl⟩
      · rw [hb] at hr
        have HA : Hid (∀ j : Nat, j < k + 1 → rightB (l.getD j ByteArray.empty) = true) := fun j hj => by
          by_cases e : j = k
          · rw [e]; exact hb
          · exact hall.out j (by omega)
        have HR := Lib.hid hr; clear hr hb hsz hkl hall
        generalize l.getD k ByteArray.empty = x at g1 HR
        go_wp2_with (go_at_call 21; refine HR.out.mono ?_; rintro e w' ⟨rfl, rfl⟩)
        exact ⟨⟨k + 1, by omega, by go_num, HA⟩, by simp [intOf]; omega⟩
    · have e : allB l = true := allB_all fun j hj => hall.out j (by rw [HX.out.len] at hj; omega)
      have E := Lib.hid e; clear e hall
      go_wp2
      go_ret
      exact ⟨ret_bool E.out.symm, rfl⟩

end Go.Proofs.Ytimljhmbaobgnaa
