/-
  The reference's fill, as a call.
-/
import Derived.Test.YtknjkkdoeanhbaaBkRead
import Derived.Test.YtknjkkdoeanhbaaBkLaws
import Derived.Test.YtknjkkdoeanhbaaBkWrR
namespace Go.Proofs.Ytknjkkdoeanhbaa
open Go.RowKit

theorem Try.rblockZero : (Try.prog.info? 55).map (·.zero) = some (some (.agg (Lib.byteCells (zeros 64)).toArray)) := by kernel_rfl
theorem Try.rblockSize : (Try.prog.info? 55).map (·.size) = some 64 := by kernel_rfl
/-- A block of bytes, from a place on. -/
def fromB (b : Bs) (k : Nat) : Bs := fillB ((b.drop k).take 64)
theorem fromB_length (b : Bs) (k : Nat) : (fromB b k).length = 64 := fillB_length (by rw [List.length_take]; omega)
theorem from_step {l : Bs} {k : Nat} {x : UInt8} (hx : l[k]? = some x) (hk : k < 64) : (Lib.byteCells (l.take k ++ zeros (64 - k))).toArray.setIfInBounds k (.int .u8 (x.toNat : Int)) = (Lib.byteCells (l.take (k + 1) ++ zeros (64 - (k + 1)))).toArray := by
  have hlk := (List.getElem?_eq_some_iff.1 hx).1
  have hlt : (l.take k).length = k := by rw [List.length_take]; omega
  have e : l.take (k + 1) = l.take k ++ [x] := by
    rw [List.take_add_one, hx]
    rfl
  have e2 : zeros (64 - k) = 0 :: zeros (64 - (k + 1)) := by
    rw [show 64 - k = (64 - (k + 1)) + 1 by omega]
    rfl
  have e3 : (Lib.byteCells (l.take k ++ zeros (64 - k))).set k (.int .u8 (x.toNat : Int)) = Lib.byteCells ((l.take k ++ zeros (64 - k)).set k x) := by
    simp [Lib.byteCells, List.map_set]
  rw [List.setIfInBounds_toArray, e3, e, e2]
  congr 2
  rw [List.set_append, if_neg (by omega), hlt, Nat.sub_self, List.set_cons_zero, List.append_assoc]
  rfl
theorem from_end {b : Bs} {f k : Nat} (h1 : k ≤ b.length - f) (h2 : k = 64 ∨ b.length - f ≤ k) (h3 : k ≤ 64) : (b.drop f).take k ++ zeros (64 - k) = fromB b f := by
  unfold fromB fillB
  have hl : (b.drop f).length = b.length - f := List.length_drop
  have e : (b.drop f).take 64 = (b.drop f).take k := by
    rcases h2 with rfl | h2
    · rfl
    · rw [List.take_of_length_le (by omega), List.take_of_length_le (by omega)]
  have e2 : ((b.drop f).take k).length = k := by rw [List.length_take]; omega
  rw [e, e2]
set_option maxRecDepth 100000 in
set_option maxHeartbeats 800000 in
theorem fill_any (A : Option Addr) (n c : Nat) (bs : Bs) (from_ : Nat) (w : World) (hx : BsAt w A n bs) (hn : n ≤ 1000000000) (hf : from_ ≤ 1000000000) :
    Calls Try.prog 35 #[.slice A n c, .int .i64 (from_ : Nat)] w fun e w' => e = .returned (.agg (Lib.byteCells (fromB bs from_)).toArray) ∧ Later w w' := by
  have HX := Lib.hid hx
  have hl := hx.len
  have HL := Lib.hid hl
  clear hx hl
  go_enter Try.func35, Try.ntmps35
  go_wp2_with (with_reducible show wpList _ _ _ ({ dst := some 4, op := Op.alloc _, type := _, pos := _, after := _, guard := _ } :: _) _ _; refine Hid.out ?_)
  refine Lib.hid (wpList_alloc_new rfl _ rfl _ Try.rblockZero ?_)
  intro w1 hc1 hl1 hs1
  have HC1 := Lib.hid hc1; have HL1 := Lib.hid hl1
  clear hc1 hl1
  go_wp2_with (with_reducible show wpList _ _ _ ({ dst := some 5, op := Op.alloc _, type := _, pos := _, after := _, guard := _ } :: _) _ _; refine Hid.out ?_)
  refine Lib.hid (wpList_alloc_new rfl _ rfl _ Try.rblockZero ?_)
  intro w2 hc2 hl2 hs2
  obtain ⟨g4, hg4⟩ : ∃ g, g = w.heap.size := ⟨_, rfl⟩
  obtain ⟨g5, hg5⟩ : ∃ g, g = w1.heap.size := ⟨_, rfl⟩
  have hne : g4 ≠ g5 := by omega
  have HW4 : Hid (w.heap.size ≤ g4 ∧ w.heap.size ≤ g5) := by constructor <;> omega
  have HC2 := Lib.hid hc2; have HC3 := Lib.hid (HC1.out.later hl2); have HL2 := Lib.hid (HL1.out.trans hl2)
  rw [← hg5] at HC2 ⊢
  rw [← hg4] at HC3 ⊢
  clear hc2 hl2 hs1 hs2 HC1 HL1 hg4 hg5
  go_wp2
  go_loopg [6] (65) (fun g0 s6 wr => ∃ (k : Nat), k ≤ 64 ∧ (k ≤ n - from_) ∧ 64 - k ≤ g0 ∧ s6 = .int .i64 (k : Nat) ∧ Hid (CellsAt wr g5 (Lib.byteCells ((bs.drop from_).take k ++ zeros (64 - k))).toArray 55) ∧ Hid (CellsAt wr g4 (Lib.byteCells (zeros 64)).toArray 55) ∧ Hid (Later w wr))
  case atStart => exact ⟨0, by omega, by omega, by omega, rfl, HC2, HC3, HL2⟩
  case round =>
    clear HC2 HC3 HL2
    obtain ⟨k, hk, hkn, hg, rfl, h5, h4, hlw⟩ := hrel
    by_cases hk64 : k < 64
    · by_cases hkl : from_ + k < n
      · have hkl' : ((from_ : Nat) : Int) + ((k : Nat) : Int) < ((n : Nat) : Int) := by omega
        have hzx : (bs.drop from_)[k]? = some ((bs.drop from_)[k]'(by rw [List.length_drop, HL.out]; omega)) := List.getElem?_eq_getElem _
        obtain ⟨b, o, rfl, hcell⟩ := (HX.out.later hlw.out).get hkl
        have hx0 : bs.getD (from_ + k) 0 = (bs.drop from_)[k]'(by rw [List.length_drop, HL.out]; omega) := by
          rw [List.getElem_drop]
          simp [List.getD, List.getElem?_eq_getElem (show from_ + k < bs.length by rw [HL.out]; exact hkl)]
        rw [hx0] at hcell
        obtain ⟨x, hx⟩ : ∃ x, x = (bs.drop from_)[k]'(by rw [List.length_drop, HL.out]; omega) := ⟨_, rfl⟩
        rw [← hx] at hzx hcell
        have hfz := h5.out.frozen k
        have hsz : (Lib.byteCells ((bs.drop from_).take k ++ zeros (64 - k))).toArray.size = 64 := by
          simp only [List.size_toArray, Lib.byteCells, List.length_map, List.length_append, zeros_length, List.length_take, List.length_drop]
          have := HL.out
          omega
        obtain ⟨u0, hold⟩ : ∃ u, wr.cell? ⟨g5, k, none⟩ = some u := ⟨_, h5.out.cell (Array.getElem?_eq_getElem (show k < _ by rw [hsz]; exact hk64))⟩
        have HND : Hid (CellsAt (wr.setCell ⟨g5, k, none⟩ (.int .u8 (x.toNat : Int))) g5 (Lib.byteCells ((bs.drop from_).take (k + 1) ++ zeros (64 - (k + 1)))).toArray 55) := by
          have := h5.out.set1 k (.int .u8 (x.toNat : Int))
          rw [from_step hzx hk64] at this
          exact this
        have HN4 : Hid (CellsAt (wr.setCell ⟨g5, k, none⟩ (.int .u8 (x.toNat : Int))) g4 (Lib.byteCells (zeros 64)).toArray 55) := h4.out.chg (chg_set wr g5 k _) hne
        have HNL : Hid (Later w (wr.setCell ⟨g5, k, none⟩ (.int .u8 (x.toNat : Int)))) := (chg_set wr g5 k _).low hlw.out (fun q hq => by rw [hq]; exact HW4.out.2)
        clear hzx hx hx0 hsz h5 h4 hlw
        go_wp2
        go_roundg (64 - (k + 1))
        case measure => omega
        case rel => exact ⟨k + 1, by omega, by omega, by omega, by go_num, HND, HN4, HNL⟩
      · have hkl' : ¬ ((from_ : Nat) : Int) + ((k : Nat) : Int) < ((n : Nat) : Int) := by omega
        have hfe := from_end (b := bs) (f := from_) (k := k) (by rw [HL.out]; exact hkn) (by rw [HL.out]; omega) hk
        rw [hfe] at h5
        clear hfe
        go_wp2_with (with_reducible show wpList _ _ _ ({ dst := some 27, op := Op.load _ _, type := _, pos := _, after := _, guard := _ } :: _) _ _; refine Hid.out ?_)
        refine Lib.hid (wpList_load_mid rfl _ _ rfl g5 0 rfl (Lib.byteCells (fromB bs from_)) _ (h5.out.range (o := 0) (fun j u hj => by rw [Nat.zero_add, List.getElem?_toArray]; exact hj)) Try.underlying55 rfl (by rw [bc_len, fromB_length]; exact Try.rblockSize) ?_)
        refine wpList_store_mids rfl rfl _ _ _ rfl g4 0 (Lib.byteCells (fromB bs from_)) rfl rfl (h4.out.there (by simp only [List.size_toArray]; rw [bc_len, bc_len, fromB_length]; decide)) (by rw [bc_len, fromB_length]; exact Try.rblockSize) (bc_one _) ?_
        intro w9 hw9
        have hc9 : CellsAt w9 g4 (Lib.byteCells (fromB bs from_)).toArray 55 := by
          have := h4.out.sets (Lib.byteCells (fromB bs from_)) (o := 0)
          rw [set_all (by simp only [List.size_toArray]; rw [bc_len, bc_len, fromB_length]; rfl)] at this
          rw [hw9]
          exact this
        have hl9 : Later w w9 := by
          rw [hw9]
          exact (sets_chg (g := g4) (Lib.byteCells (fromB bs from_)) wr 0).low hlw.out (fun q hq => by rw [hq]; exact HW4.out.1)
        have HC9 := Lib.hid hc9; have HL9 := Lib.hid hl9
        clear hc9 hl9 hw9
        refine Lib.hid ?_
        go_wp2
        refine bodyPost_ret (results_cell_row rfl _ _ g4 _ _ _ _ rfl HC9.out Try.underlying55 rfl (by simp only [List.size_toArray]; rw [bc_len, fromB_length]; exact Try.rblockSize)) rfl ?_
        exact ⟨rfl, HL9.out⟩
    · have hk' : k = 64 := by omega
      have hfe := from_end (b := bs) (f := from_) (k := k) (by rw [HL.out]; exact hkn) (by rw [HL.out]; omega) hk
      rw [hfe] at h5
      clear hfe
      go_wp2_with (with_reducible show wpList _ _ _ ({ dst := some 27, op := Op.load _ _, type := _, pos := _, after := _, guard := _ } :: _) _ _; refine Hid.out ?_)
      refine Lib.hid (wpList_load_mid rfl _ _ rfl g5 0 rfl (Lib.byteCells (fromB bs from_)) _ (h5.out.range (o := 0) (fun j u hj => by rw [Nat.zero_add, List.getElem?_toArray]; exact hj)) Try.underlying55 rfl (by rw [bc_len, fromB_length]; exact Try.rblockSize) ?_)
      refine wpList_store_mids rfl rfl _ _ _ rfl g4 0 (Lib.byteCells (fromB bs from_)) rfl rfl (h4.out.there (by simp only [List.size_toArray]; rw [bc_len, bc_len, fromB_length]; decide)) (by rw [bc_len, fromB_length]; exact Try.rblockSize) (bc_one _) ?_
      intro w9 hw9
      have hc9 : CellsAt w9 g4 (Lib.byteCells (fromB bs from_)).toArray 55 := by
        have := h4.out.sets (Lib.byteCells (fromB bs from_)) (o := 0)
        rw [set_all (by simp only [List.size_toArray]; rw [bc_len, bc_len, fromB_length]; rfl)] at this
        rw [hw9]
        exact this
      have hl9 : Later w w9 := by
        rw [hw9]
        exact (sets_chg (g := g4) (Lib.byteCells (fromB bs from_)) wr 0).low hlw.out (fun q hq => by rw [hq]; exact HW4.out.1)
      have HC9 := Lib.hid hc9; have HL9 := Lib.hid hl9
      clear hc9 hl9 hw9
      refine Lib.hid ?_
      go_wp2
      refine bodyPost_ret (results_cell_row rfl _ _ g4 _ _ _ _ rfl HC9.out Try.underlying55 rfl (by simp only [List.size_toArray]; rw [bc_len, fromB_length]; exact Try.rblockSize)) rfl ?_
      exact ⟨rfl, HL9.out⟩

end Go.Proofs.Ytknjkkdoeanhbaa
