/-
  What Cut of the document's own answers comes to.
-/
import Derived.Test.YtimljhmbaobgnaaWalk8
namespace Go.Proofs.Ytimljhmbaobgnaa
open Go.RowKit

/-- The lines so far, and what is left: f where the line at hand begins, k how far it is read. -/
def restL (s : ByteArray) (f k : Nat) : List ByteArray := (cutGo (((bytes s).drop f).take (k - f)) ((bytes s).drop k)).map txt

theorem restL_start (s : ByteArray) : restL s 0 0 = lines s := by simp [restL, lines]
theorem restL_end {s : ByteArray} {f k : Nat} (hk : k < s.size) (h : (bytes s)[k]? = some 10) : restL s f k = s.extract f k :: restL s (k + 1) (k + 1) := by
  unfold restL
  rw [List.drop_eq_getElem_cons (i := k) (by rw [bytes_length]; exact hk), extract_txt]
  rw [List.getElem?_eq_getElem (by rw [bytes_length]; exact hk)] at h
  injection h with h
  simp [cutGo, h]
theorem restL_on {s : ByteArray} {f k : Nat} (hk : k < s.size) (hf : f ≤ k) (h : (bytes s)[k]? ≠ some 10) : restL s f k = restL s f (k + 1) := by
  unfold restL
  rw [List.drop_eq_getElem_cons (i := k) (by rw [bytes_length]; exact hk)]
  rw [List.getElem?_eq_getElem (by rw [bytes_length]; exact hk)] at h
  have h' : (bytes s)[k]'(by rw [bytes_length]; exact hk) ≠ 10 := fun e => h (by rw [e])
  simp only [cutGo, if_neg h']
  congr 2
  rw [show k + 1 - f = (k - f) + 1 from by omega, List.take_succ_eq_append_getElem (by rw [List.length_drop, bytes_length]; omega), List.getElem_drop]
  congr 3
  omega
theorem restL_stop {s : ByteArray} {f : Nat} (hf : f < s.size) : restL s f s.size = [s.extract f s.size] := by
  unfold restL
  rw [List.drop_of_length_le (l := bytes s) (i := s.size) (by rw [bytes_length]; omega), extract_txt]
  have : ((bytes s).drop f).take (s.size - f) ≠ [] := by
    intro e
    have := congrArg List.length e
    rw [List.length_take, List.length_drop, bytes_length] at this
    simp at this; omega
  simp only [cutGo, if_neg this, List.map_cons, List.map_nil]
theorem restL_none {s : ByteArray} : restL s s.size s.size = [] := by
  unfold restL
  rw [List.drop_of_length_le (l := bytes s) (i := s.size) (by rw [bytes_length]; omega)]
  simp [cutGo]

set_option maxHeartbeats 400000 in
theorem refCut_any (s : ByteArray) (w : World) (hs : s.size ≤ 65536) : Calls Try.prog 15 #[.string s] w (GivesRow (lines s) w) := by
  obtain ⟨i0, hi, hz0, hz1, hz2⟩ := info_parts Try.textInfo
  go_enter Try.func15, Try.ntmps15
  go_wp2
  go_loopg [3, 4, 5] (s.size + 1) (fun g s3 s4 s5 wr => ∃ (f k : Nat) (out : List ByteArray), f ≤ k ∧ k ≤ s.size ∧ s.size - k ≤ g ∧ s4 = .int .i64 f ∧ s5 = .int .i64 k ∧ out.length ≤ k ∧ Own 9 w wr s3 out ∧ Hid (out ++ restL s f k = lines s))
  case atStart => exact ⟨0, 0, [], Nat.le_refl _, Nat.zero_le _, by omega, rfl, rfl, Nat.le_refl _, Own.nil (Later.refl w), by simp [Hid, restL_start]⟩
  case round =>
    obtain ⟨f, k, out, hfk, hk, hg, rfl, rfl, ho, hown, heq⟩ := hrel
    have HO := Lib.hid hown; clear hown
    by_cases hlt : k < s.size
    · have p1 : (f : Int) ≤ (k : Int) := by omega
      have p2 : (k : Int) ≤ s.size := by omega
      go_wp2_with (at_builtin; refine wpList_append_row rfl _ _ 22 rfl i0 Try.underlying22 hi hz0 hz1 hz2 (HO.out.alloc _) rfl _ _ _ _ rfl (Row.one _ _ _) (by omega) ?_; intro v2 w2 hown2 hg2; have HO2 := Lib.hid hown2; clear hown2 hg2)
      · have h10 := byte_is (c := s[k]) ‹_›
        have hre := restL_end (f := f) hlt (by unfold bytes; rw [byte_at hlt, h10])
        go_roundg (s.size - (k + 1))
        case measure => omega
        case rel =>
          refine ⟨k + 1, k + 1, out ++ [s.extract f k], Nat.le_refl _, by omega, Nat.le_refl _, by go_num, by go_num, by simp; omega, HO2.out, ?_⟩
          show _ = _
          rw [← heq.out, hre]; simp
      · have h10 := byte_isnt (c := s[k]) ‹_›
        have hre := restL_on hlt hfk (by unfold bytes; rw [byte_at hlt]; simpa using h10)
        go_roundg (s.size - (k + 1))
        case measure => omega
        case rel =>
          refine ⟨f, k + 1, out, by omega, by omega, Nat.le_refl _, rfl, by go_num, by omega, HO.out, ?_⟩
          show _ = _
          rw [← heq.out, hre]
    · have hkn : k = s.size := by omega
      by_cases hfs : f < s.size
      · have e : lines s = out ++ [s.extract f s.size] := by rw [← heq.out, hkn, restL_stop hfs]
        have E := Lib.hid e; clear e heq hkn
        have p1 : (f : Int) ≤ s.size := by omega
        go_wp2_with (at_builtin; refine wpList_append_row rfl _ _ 22 rfl i0 Try.underlying22 hi hz0 hz1 hz2 (HO.out.alloc _) rfl _ _ _ _ rfl (Row.one _ _ _) (by omega) ?_; intro v2 w2 hown2 hg2; have HO2 := Lib.hid hown2; clear hown2 hg2)
        go_ret
        rw [E.out]
        obtain ⟨A6, c6, hv, hcc, hr6⟩ := HO2.out.row
        exact ⟨A6, c6, by rw [← hv]; rfl, hcc, hr6, HO2.out.later⟩
      · have hfn : f = s.size := by omega
        have e : lines s = out := by rw [← heq.out, hkn, hfn, restL_none, List.append_nil]
        have E := Lib.hid e; clear e heq hkn hfn
        go_wp2
        go_ret
        rw [E.out]
        obtain ⟨A6, c6, hv, hcc, hr6⟩ := HO.out.row
        exact ⟨A6, c6, by rw [← hv]; rfl, hcc, hr6, HO.out.later⟩

end Go.Proofs.Ytimljhmbaobgnaa
