/-
  What the law BlockImages comes to, as a call.
-/
import Derived.Test.YtknjkkdoeanhbaaBkRefOf
import Derived.Test.YtknjkkdoeanhbaaBkStands
import Derived.Test.YtknjkkdoeanhbaaBkPlain3
namespace Go.Proofs.Ytknjkkdoeanhbaa
open Go.RowKit

theorem pieces_flat (bs : Bs) : ∀ k, (∀ i, i < k → i * 64 ≤ bs.length) → ((List.range k).map (pieceB bs)).flatten = bs.take (k * 64) ++ zeros (k * 64 - bs.length)
  | 0, _ => by simp [zeros]
  | k + 1, h => by
    have hk := h k (Nat.lt_succ_self k)
    rw [List.range_succ, List.map_append, List.flatten_append, pieces_flat bs k fun i hi => h i (Nat.lt_succ_of_lt hi)]
    rw [show k * 64 - bs.length = 0 by omega]
    show bs.take (k * 64) ++ [] ++ [pieceB bs k].flatten = _
    rw [List.append_nil, List.flatten_cons, List.flatten_nil, List.append_nil]
    unfold pieceB fillB
    rw [← List.append_assoc, show (k + 1) * 64 = k * 64 + 64 by omega, List.take_add, List.length_take, List.length_drop]
    congr 2
    omega
theorem countI_lt {n i : Nat} (h : i < countI n) : i * 64 ≤ n := by
  have hm : countI n = (max 1 (min (((n + 63) / 64 : Nat) : Int) 4096)).toNat := rfl
  omega
theorem image_of (bs : Bs) : imageP (ofP bs) = bs.take (countI bs.length * 64) ++ zeros (countI bs.length * 64 - bs.length) := by
  rw [← pieces_flat bs _ fun i hi => countI_lt hi]
  show ((List.range _).map fun i => if i < countI bs.length then pieceB bs i else zeros 64).flatten = _
  congr 1
  refine List.map_congr_left fun i hi => ?_
  rw [if_pos (List.mem_range.1 hi)]
theorem image_of_len {bs : Bs} : (imageP (ofP bs)).length = countI bs.length * 64 := by
  show (ofTo bs (countI bs.length) (countI bs.length)).bl.flatten.length = _
  rw [flat64 (ofTo_size bs _ _), ofTo_len]
theorem image_has {bs : Bs} (h : bs.length ≤ 3000) : hasP (imageP (ofP bs)) bs = true := by
  have hm : countI bs.length = (max 1 (min (((bs.length + 63) / 64 : Nat) : Int) 4096)).toNat := rfl
  have hle : bs.length ≤ countI bs.length * 64 := by omega
  unfold hasP
  rw [image_of_len, decide_eq_true hle, Bool.true_and, decide_eq_true_eq, image_of, List.take_of_length_le hle, List.take_left]
theorem count_image (bs : Bs) : countI (imageP (ofP bs)).length = countI bs.length := by
  rw [image_of_len]
  have h1 : 1 ≤ countI bs.length := countN_lo _
  have h2 : countI bs.length ≤ 4096 := countN_hi _
  have hm : countI (countI bs.length * 64) = (max 1 (min (((countI bs.length * 64 + 63) / 64 : Nat) : Int) 4096)).toNat := rfl
  omega
theorem of_image (bs : Bs) : ofP (imageP (ofP bs)) = ofP bs := by
  have hc := count_image bs
  have hp : ∀ i, i < countI bs.length → pieceB (imageP (ofP bs)) i = pieceB bs i := fun i hi => by
    have hl : i < (ofP bs).bl.length := by
      show i < (ofTo bs _ _).bl.length
      rw [ofTo_len]
      exact hi
    have e := flat_get (f := (ofP bs).bl) (ofTo_size bs _ _) hl
    have e1 : (ofP bs).bl.getD i [] = pieceB bs i := by
      rw [List.getD_eq_getElem?_getD]
      show (((List.range _).map fun i => if i < countI bs.length then pieceB bs i else zeros 64)[i]?).getD [] = _
      rw [List.getElem?_map, List.getElem?_range hi]
      simp [hi]
    have h64 : (pieceB bs i).length = 64 := fillB_length (by rw [List.length_take]; omega)
    show fillB (((ofP bs).bl.flatten.drop (i * 64)).take 64) = _
    rw [e, e1]
    unfold fillB
    rw [h64]
    show pieceB bs i ++ [] = _
    rw [List.append_nil]
  have e : (ofP (imageP (ofP bs))).bl = (ofP bs).bl := by
    show ((List.range _).map fun i => if i < countI (imageP (ofP bs)).length then pieceB (imageP (ofP bs)) i else zeros 64) = ((List.range _).map fun i => if i < countI bs.length then pieceB bs i else zeros 64)
    rw [hc]
    refine List.map_congr_left fun i hi => ?_
    have hi' := List.mem_range.1 hi
    rw [if_pos hi', if_pos hi', hp i hi']
  show { newP _ with bl := (ofP (imageP (ofP bs))).bl } = { newP _ with bl := (ofP bs).bl }
  rw [e]
  rfl

set_option maxRecDepth 100000 in
set_option maxHeartbeats 1600000 in
theorem blockImages_walk (A : Option Addr) (n c : Nat) (bs : Bs) (w : World) (hx : BsAt w A n bs) (hA : A = none → c = 0) (hnc : n ≤ c) :
    Calls Try.prog 4 #[.slice A n c] w fun e w' => e = .returned (.bool true) ∧ Later w w' := by
  have HX := Lib.hid hx; have HAA := Lib.hid hA; have HNC := Lib.hid hnc
  have hlen := hx.len
  have HLN := Lib.hid hlen
  have HA := Lib.hid (alive10_any w)
  clear hx hA hlen
  generalize hRR : (fun (e : Ending) (w' : World) => e = .returned (.bool true) ∧ Later w w') = RR
  have HRR : Hid (∀ e w', (e = .returned (.bool true) ∧ Later w w') → RR e w') := fun e w' h => by rw [← hRR]; exact h
  clear hRR
  go_enter Try.func4, Try.ntmps4
  by_cases h1 : 3000 < n
  · have h1' : (3000 : Int) < ((n : Nat) : Int) := by omega
    go_wp2_with fail
    refine HA.out.mono ?_
    rintro e w2 ⟨rfl, hl2⟩
    go_wp2
    exact HRR.out _ _ ⟨rfl, hl2⟩
  · have h1' : ¬ ((3000 : Int) < ((n : Nat) : Int)) := by omega
    have hn3 : n ≤ 3000 := by omega
    have HN3 := Lib.hid hn3
    clear HA h1 hn3
    have HC := Lib.hid (ofDev_any (W := w) A n c HX.out HAA.out HNC.out (by have := HN3.out; omega) (Later.refl w))
    go_wp2_with fail
    refine HC.out.mono ?_
    rintro e w1 ⟨g, S, rfl, hd, hl1, -⟩
    have HD1 := Lib.hid hd
    have HC := Lib.hid (ofRef_any A n c bs w1 (HX.out.later hl1) (by have := HN3.out; omega))
    clear hd hl1
    go_wp2_with fail
    refine HC.out.mono ?_
    rintro e w2 ⟨V, cv, rfl, hst, hl2⟩
    have HD2 := Lib.hid (HD1.out.later hl2); have HST2 := Lib.hid hst
    have HSM : Hid (Same (ofP bs) (ofR bs) (countI n) 0) := by
      have := of_same bs
      rw [HLN.out] at this
      exact this
    have hcn : countI n ≤ 4096 := countN_hi _
    have HCN := Lib.hid hcn
    clear hst hl2 HC HD1 hcn
    go_wp2_with fail
    refine (stands_any (HD2.out.later ((Later.refl w2).alloc _)) (HST2.out.later ((Later.refl w2).alloc _)) HSM.out (Nat.zero_le _) (by have := HCN.out; omega) cv 0).mono ?_
    rintro e w3 ⟨rfl, hl3⟩
    have HCB := Lib.hid ((CellsAt.made w2 #[.slice V (countI n) cv, .slice none 0 0, .int .i64 0, .int .i64 (-1), .bool false] 30).later hl3)
    have hl23 : Later w2 w3 := ((Later.refl w2).alloc _).trans hl3
    have HD3 := Lib.hid (HD2.out.later hl23); have HST3 := Lib.hid (HST2.out.later hl23)
    clear hl3 hl23 HD2 HST2
    -- Image
    have HC := Lib.hid (imageDev_any HD3.out)
    go_wp2_with fail
    refine HC.out.mono ?_
    rintro e w4 ⟨v, rfl, hv, hl4⟩
    obtain ⟨b4, c4, rfl, hc4, _, hb4⟩ := own_bs_at hv (image_pos HD3.out)
    have HD4 := Lib.hid (HD3.out.later hl4); have HST4 := Lib.hid (HST3.out.later hl4); have HCB4 := Lib.hid (HCB.out.later hl4)
    have HC := Lib.hid (hasPrefix_any (c := c4) (e := c) hb4 (HX.out.later HD4.out.base) hc4)
    rw [image_has (by rw [HLN.out]; exact HN3.out)] at HC
    clear hv hl4 HD3 HST3 HCB hb4
    go_wp2_with fail
    refine HC.out.mono ?_
    rintro e w99 ⟨rfl, e9⟩
    obtain rfl := e9.symm
    clear e9 HC
    -- Image
    have HC := Lib.hid (imageDev_any HD4.out)
    go_wp2_with fail
    refine HC.out.mono ?_
    rintro e w5 ⟨v, rfl, hv, hl5⟩
    obtain ⟨b5, c5, rfl, hc5, _, hb5⟩ := own_bs_at hv (image_pos HD4.out)
    have HL5 := Lib.hid (HD4.out.base.trans hl5); have HST5 := Lib.hid (HST4.out.later hl5); have HCB5 := Lib.hid (HCB4.out.later hl5)
    have hi3 : (imageP (ofP bs)).length ≤ 140737488355328 := by
      rw [image_of_len, HLN.out]
      have := HCN.out
      omega
    -- Of
    have HC := Lib.hid (ofDev_any (W := w) (some ⟨b5, 0, none⟩) _ c5 hb5 (fun e => by cases e) hc5 hi3 HL5.out)
    rw [of_image] at HC
    clear hv hl5 HD4 HST4 HCB4 hb5 hi3
    go_wp2_with fail
    refine HC.out.mono ?_
    rintro e w6 ⟨g2, S2, rfl, hd6, hl6, -⟩
    have HD6 := Lib.hid hd6; have HST6 := Lib.hid (HST5.out.later hl6); have HCB6 := Lib.hid (HCB5.out.later hl6)
    have HC := Lib.hid (alive10_any w6)
    clear hd6 hl6 HST5 HCB5 HL5
    go_wp2_with fail
    refine HC.out.mono ?_
    rintro e w7 ⟨rfl, hl7⟩
    have HD7 := Lib.hid (HD6.out.later hl7); have HST7 := Lib.hid (HST6.out.later hl7)
    have hcb := HCB6.out.later hl7
    have q0 : w7.cell? ⟨w2.heap.size, 0, none⟩ = some (.slice V (countI n) cv) := hcb.cell rfl
    have q1 : w7.cell? ⟨w2.heap.size, 1, none⟩ = some (.slice none 0 0) := hcb.cell rfl
    have q2 : w7.cell? ⟨w2.heap.size, 2, none⟩ = some (.int .i64 0) := hcb.cell rfl
    have q3 : w7.cell? ⟨w2.heap.size, 3, none⟩ = some (.int .i64 (-1)) := hcb.cell rfl
    have q4 : w7.cell? ⟨w2.heap.size, 4, none⟩ = some (.bool false) := hcb.cell rfl
    clear hl7 HC hcb HD6 HST6 HCB6
    go_wp2_with fail
    refine (stands_any HD7.out HST7.out HSM.out (Nat.zero_le _) (by have := HCN.out; omega) cv 0).mono ?_
    rintro e w8 ⟨rfl, hl8⟩
    have HL8 := Lib.hid (HD7.out.base.trans hl8)
    clear hl8 q0 q1 q2 q3 q4
    go_wp2
    exact HRR.out _ _ ⟨rfl, HL8.out⟩

end Go.Proofs.Ytknjkkdoeanhbaa
