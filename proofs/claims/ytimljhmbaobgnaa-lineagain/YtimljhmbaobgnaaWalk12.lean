/-
  What the statements' own test for few lines and bytes comes to: where it says yes, there are at most 300 lines and 6000 bytes.
-/
import Derived.Test.YtimljhmbaobgnaaWalk11
namespace Go.Proofs.Ytimljhmbaobgnaa
open Go.RowKit

/-- How many lines the first i rows have, and how many bytes. -/
def cnt (ss : Nat → List ByteArray) : Nat → Nat
  | 0 => 0
  | i + 1 => cnt ss i + (ss i).length
def blk (ss : Nat → List ByteArray) : Nat → Nat
  | 0 => 0
  | i + 1 => blk ss i + bulk (ss i)

theorem cnt_le {ss : Nat → List ByteArray} {n : Nat → Nat} {k : Nat} (hl : ∀ i, i < k → (ss i).length = n i) (hn : ∀ i, i < k → n i ≤ 140737488355328) (i : Nat) (hi : i ≤ k) : cnt ss i ≤ i * 140737488355328 := by
  induction i with
  | zero => simp [cnt]
  | succ i ih =>
    have h1 := ih (by omega)
    have h2 := hl i (by omega)
    have h3 := hn i (by omega)
    simp only [cnt]; omega
theorem bulk_take_succ {l : List ByteArray} {j : Nat} (h : j < l.length) : bulk (l.take (j + 1)) = bulk (l.take j) + (l.getD j ByteArray.empty).size := by
  rw [List.take_succ_eq_append_getElem h]
  simp only [bulk, List.map_append, List.sum_append, List.map_cons, List.map_nil, List.sum_cons, List.sum_nil, List.getD, List.getElem?_eq_getElem h, Option.getD_some, Nat.add_zero]
theorem bulk_take_le {l : List ByteArray} (h : ∀ s ∈ l, s.size ≤ 140737488355328) (j : Nat) (hj : j ≤ l.length) : bulk (l.take j) ≤ j * 140737488355328 := by
  induction j with
  | zero => simp [bulk]
  | succ j ih =>
    have hlt : j < l.length := by omega
    have h1 := ih (by omega)
    have h2 := h l[j] (List.getElem_mem hlt)
    rw [bulk_take_succ hlt]
    simp only [List.getD, List.getElem?_eq_getElem hlt, Option.getD_some]
    omega
theorem blk_le {ss : Nat → List ByteArray} {k : Nat} (h : ∀ i, i < k → ∀ s ∈ ss i, s.size ≤ 140737488355328) (i : Nat) (hi : i ≤ k) : blk ss i ≤ cnt ss i * 140737488355328 := by
  induction i with
  | zero => simp [blk]
  | succ i ih =>
    have h1 := ih (by omega)
    have h2 := bulk_take_le (h i (by omega)) (ss i).length (Nat.le_refl _)
    rw [List.take_length] at h2
    simp only [blk, cnt]
    omega

theorem wrap64_small {x : Int} (h0 : -9223372036854775808 ≤ x) (h1 : x ≤ 9223372036854775807) : wrap64 x = x := by
  unfold wrap64; omega

/-- A bool; if it is true, there are few. -/
def FewEnd (ss : Nat → List ByteArray) (k : Nat) (w : World) (e : Ending) (w' : World) : Prop :=
  ∃ b : Bool, e = .returned (.bool b) ∧ (b = true → cnt ss k ≤ 300 ∧ blk ss k ≤ 6000) ∧ w = w'

set_option maxHeartbeats 400000 in
theorem few_any (g k : Nat) (A : Nat → Option Addr) (n c : Nat → Nat) (ss : Nat → List ByteArray) (w : World) (hk : k ≤ 3)
    (hcell : ∀ i, i < k → w.cell? ⟨g, i, none⟩ = some (.slice (A i) (n i) (c i))) (hrow : ∀ i, i < k → Row w (A i) (n i) (ss i)) (hn : ∀ i, i < k → n i ≤ 140737488355328)
    (hs : ∀ i, i < k → ∀ s ∈ ss i, s.size ≤ 140737488355328) :
    Calls Try.prog 11 #[.slice (some ⟨g, 0, none⟩) k k] w (FewEnd ss k w) := by
  have hcnt := fun i (hi : i ≤ k) => cnt_le (ss := ss) (fun i hi => (hrow i hi).len) hn i hi
  have hblk := fun i (hi : i ≤ k) => blk_le hs i hi
  have HC := Lib.hid hcell; clear hcell
  have HR := Lib.hid hrow; clear hrow
  have HN := Lib.hid hn; clear hn
  have HS := Lib.hid hs; clear hs
  have HT := Lib.hid hcnt; clear hcnt
  have HB := Lib.hid hblk; clear hblk
  go_enter Try.func11, Try.ntmps11
  go_wp2
  go_loop [3, 4, 11] (fun s3 s4 s11 => ∃ (i : Nat) (x : Int), i ≤ k ∧ s11 = .int .i64 i ∧ s4 = .int .i64 (cnt ss i : Nat) ∧ s3 = .int .i64 x ∧ Hid (cnt ss i ≤ 300 → x = blk ss i)) (fun _ _ s11 => k - (intOf s11).toNat)
  case atStart => exact ⟨0, 0, Nat.zero_le _, rfl, rfl, rfl, fun _ => rfl⟩
  case round =>
    obtain ⟨i, x, hik, rfl, rfl, rfl, hx⟩ := hrel
    by_cases hlt : i < k
    · have g1 := HC.out i hlt
      have hni := HN.out i hlt
      have hti := HT.out i (by omega)
      have hrow := HR.out i hlt
      have hlen := hrow.len
      have hc1 : cnt ss (i + 1) = cnt ss i + n i := by simp only [cnt]; rw [hlen]
      have C1 := Lib.hid hc1; clear hc1 hlen
      have hcm : cnt ss i ≤ 422212465065984 := by omega
      generalize hC : cnt ss i = ci at hx hcm hti ⊢
      have HCI := Lib.hid hC; clear hC
      generalize hni' : n i = ni at g1 hni hrow C1
      generalize A i = Ai at g1 hrow
      generalize c i = ki at g1
      have HRW := Lib.hid hrow; clear hrow hni' hti
      go_wp2
      go_loop [3, 21] (fun s3 s21 => ∃ (j : Nat) (y : Int), j ≤ ni ∧ s21 = .int .i64 j ∧ s3 = .int .i64 y ∧ Hid (ci + ni ≤ 300 → y = blk ss i + bulk ((ss i).take j))) (fun _ s21 => ni - (intOf s21).toNat)
      case atStart => exact ⟨0, x, Nat.zero_le _, rfl, rfl, fun h => by have := hx.out (by omega); simpa [bulk] using this⟩
      case round =>
        obtain ⟨j, y, hj, rfl, rfl, hy⟩ := hrel
        by_cases hjl : j < ni
        · obtain ⟨b1, o1, rfl, g2⟩ := HRW.out.get hjl
          have hlt2 : j < (ss i).length := by rw [HRW.out.len]; exact hjl
          have hsum := bulk_take_succ hlt2
          have hsz := HS.out i hlt _ (List.getElem_mem hlt2)
          have hg : (ss i)[j] = (ss i).getD j ByteArray.empty := by simp [List.getD, List.getElem?_eq_getElem hlt2]
          rw [hg] at hsz
          have hb1 := bulk_take_le (HS.out i hlt) j (by omega)
          have hb2 := HB.out i (by omega)
          rw [HCI.out] at hb2
          generalize (ss i).getD j ByteArray.empty = s at g2 hsum hsz
          have HSUM := Lib.hid hsum
          clear hg hsum hlt2
          have BB := Lib.hid (And.intro hb1 hb2); clear hb1 hb2
          go_wp2
          refine ⟨⟨j + 1, _, by omega, by go_num, rfl, fun h => ?_⟩, by simp [intOf]; omega⟩
          have h1 := hy.out h
          have h2 := BB.out.1
          have h3 := BB.out.2
          rw [HSUM.out, h1]
          generalize blk ss i = p1 at h3 ⊢
          generalize bulk ((ss i).take j) = p2 at h2 ⊢
          rw [wrap64_small (by omega) (by omega)]
          omega
        · have hfin : Hid (ci + ni ≤ 300 → y = blk ss (i + 1)) := fun h => by
            rw [hy.out h, List.take_of_length_le (by rw [HRW.out.len]; omega)]
            simp [blk]
          clear hy hx
          go_wp2
          exact ⟨⟨i + 1, y, by omega, by go_num, by rw [C1.out, HCI.out]; go_num, rfl, fun h => hfin.out (by rw [C1.out, HCI.out] at h; exact h)⟩, by simp [intOf]; omega⟩
    · have hik' : i = k := by omega
      subst hik'
      have hti := HT.out i (Nat.le_refl _)
      obtain ⟨ci, hci⟩ : ∃ ci, cnt ss i = ci := ⟨_, rfl⟩
      have F : Hid (∀ b : Bool, (b = true → x ≤ 6000 ∧ ci ≤ 300) → b = true → cnt ss i ≤ 300 ∧ blk ss i ≤ 6000) := fun b hb h => by
        have h1 := hb h
        have h2 := hx.out (by omega)
        exact ⟨by omega, by omega⟩
      clear hx
      rw [hci] at hti ⊢
      clear hci
      go_wp2
      all_goals
        go_ret
        refine ⟨_, rfl, F.out _ ?_, rfl⟩
        simp
        try omega

end Go.Proofs.Ytimljhmbaobgnaa
