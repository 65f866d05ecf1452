/-
  A device of an image: Of, as a call.
-/
import Derived.Test.YtknjkkdoeanhbaaBkNew
import Derived.Test.YtknjkkdoeanhbaaBkTake
namespace Go.Proofs.Ytknjkkdoeanhbaa
open Go.RowKit

/-- Block i of an image. -/
def pieceB (bs : Bs) (i : Nat) : Bs := fillB ((bs.drop (i * 64)).take 64)
/-- The first k blocks are the image's. -/
def ofTo (bs : Bs) (m k : Nat) : DvP := { newP m with bl := (List.range m).map fun i => if i < k then pieceB bs i else zeros 64 }
def countI (n : Nat) : Nat := countN (((n + 63) / 64 : Nat) : Int)
def ofP (bs : Bs) : DvP := ofTo bs (countI bs.length) (countI bs.length)
section
variable {W w w' : World} {S : Nat → Prop} {g : Nat} {d : DvP} {bs : Bs} {m k : Nat}
theorem ofTo_len (bs : Bs) (m k : Nat) : (ofTo bs m k).bl.length = m := by simp [ofTo]
theorem ofTo_size (bs : Bs) (m k : Nat) : ∀ b ∈ (ofTo bs m k).bl, b.length = 64 := fun b hb => by
  obtain ⟨i, _, rfl⟩ := List.mem_map.1 hb
  split
  · exact fillB_length (by rw [List.length_take]; omega)
  · exact zeros_length 64
theorem ofTo_zero (bs : Bs) (m : Nat) : ofTo bs m 0 = newP m := by
  have e : (List.range m).map (fun i => if i < 0 then pieceB bs i else zeros 64) = List.replicate m (zeros 64) := by
    apply List.ext_getElem?
    intro i
    simp [List.getElem?_replicate]
    by_cases h : i < m <;> simp [h]
  unfold ofTo newP
  rw [e]
theorem ofTo_next (bs : Bs) {m k : Nat} (hk : k < m) : (ofTo bs m (k + 1)).bl = (ofTo bs m k).bl.set k (pieceB bs k) := by
  apply List.ext_getElem?
  intro i
  rw [List.getElem?_set]
  simp only [ofTo, List.getElem?_map, List.length_map, List.length_range]
  by_cases h : i < m
  · rw [List.getElem?_range h]
    simp only [Option.map_some]
    by_cases h2 : k = i
    · subst h2
      simp [hk]
    · rw [if_neg h2]
      by_cases h3 : i < k
      · rw [if_pos h3, if_pos (by omega)]
      · rw [if_neg h3, if_neg (by omega)]
  · rw [List.getElem?_eq_none (by simp; omega)]
    have : ¬ k = i := by omega
    simp [this]
theorem ofTo_at (bs : Bs) {m k : Nat} (hk : k < m) : (ofTo bs m k).bl[k]? = some (zeros 64) := by
  simp only [ofTo, List.getElem?_map, List.getElem?_range hk, Option.map_some]
  rw [if_neg (by omega)]
theorem piece_out (p : Bs) (i : Nat) (hp : p.length ≤ 64) (h : i < 0 ∨ 0 + (Lib.byteCells p).length ≤ i) : (Lib.byteCells (fillB p))[i]? = (Lib.byteCells (zeros 64))[i]? := by
  rw [bc_len] at h
  unfold fillB
  rw [bc_app, List.getElem?_append_right (by rw [bc_len]; omega), bc_len]
  unfold zeros Lib.byteCells
  simp only [List.map_replicate, List.getElem?_replicate]
  by_cases h2 : i < 64
  · rw [if_pos (by omega), if_pos h2]
  · rw [if_neg (by omega), if_neg h2]
theorem piece_in (p : Bs) (i : Nat) (u : Value) (h : (Lib.byteCells p)[i]? = some u) : (Lib.byteCells (fillB p))[0 + i]? = some u := by
  have hi := (List.getElem?_eq_some_iff.1 h).1
  unfold fillB
  rw [Nat.zero_add, bc_app, List.getElem?_append_left hi]
  exact h
theorem take_64 {A : Option Addr} {n : Nat} {xs : Bs} (h : BsAt w A n xs) : BsAt w A (xs.take 64).length (xs.take 64) := by
  have hl := h.len
  rcases Nat.lt_or_ge n 64 with h1 | h1
  · rw [List.take_of_length_le (by omega), hl]
    exact h
  · have := h.take h1
    rw [List.length_take, hl, Nat.min_eq_left h1]
    exact this
theorem drop_64 (xs : Bs) : xs.drop (xs.take 64).length = xs.drop 64 := by
  rw [List.length_take]
  rcases Nat.lt_or_ge xs.length 64 with h | h
  · rw [Nat.min_eq_right (by omega), List.drop_of_length_le (Nat.le_refl _), List.drop_of_length_le (by omega)]
  · rw [Nat.min_eq_left h]
set_option maxRecDepth 100000 in
set_option maxHeartbeats 1600000 in
theorem ofDev_any (A : Option Addr) (n c : Nat) (hx : BsAt w A n bs) (hA : A = none → c = 0) (hnc : n ≤ c) (hn : n ≤ 140737488355328) (hW : Later W w) :
    Calls Try.prog 17 #[.slice A n c] w fun e w' => ∃ g S, e = .returned (.pointer (some ⟨g, 0, none⟩)) ∧ DevAt W w' S g (ofP bs) ∧ Later w w' ∧ ∀ k, S k → w.heap.size ≤ k := by
  have hl := hx.len
  obtain ⟨q, hq⟩ : ∃ q, q = (n + 63) / 64 := ⟨_, rfl⟩
  have hqi : Int.tdiv ((n : Int) + 64 - 1) 64 = (q : Nat) := by
    rw [hq, show ((n : Int) + 64 - 1) = ((n + 63 : Nat) : Int) by omega]
    rfl
  have HNW := Lib.hid (newDev_any (w := w) (W := W) (q : Nat) (by omega) (by omega) hW)
  have HX := Lib.hid hx; have HA := Lib.hid hA; have HC := Lib.hid hnc; have HL := Lib.hid hl
  have HQ := Lib.hid hq
  have hwq : wrap64 (q : Int) = (q : Nat) := by unfold wrap64; omega
  clear hx hA hq
  go_enter Try.func17, Try.ntmps17
  go_wp2_with fail
  refine HNW.out.mono ?_
  rintro e w1 ⟨g, S, rfl, hd, hl1, hs⟩
  obtain ⟨m, hm⟩ : ∃ m, m = countN (q : Nat) := ⟨_, rfl⟩
  rw [← hm] at hd
  have hm1 : 1 ≤ m := by rw [hm]; exact countN_lo _
  have hm2 : m ≤ 4096 := by rw [hm]; exact countN_hi _
  have hmi : m = countI bs.length := by rw [hm, HQ.out]; unfold countI; rw [HL.out]
  have hlo : ∀ k, S k → k < w1.heap.size := fun k hk => (hd.low k hk).2
  obtain ⟨b, cc, B, m2, c2, hb, g1, hcc, g2, hm3, hc2, hr2, sb, bg, s2⟩ := hd.parts
  have e1 : (newP m).bl.length = m := by simp [newP]
  rw [e1] at hb g1
  have q0 := hb.cell (i := 0) rfl
  simp only [List.getElem_toArray, List.getElem_cons_zero] at q0
  have HD := Lib.hid hd; have HL1 := Lib.hid hl1; have HS := Lib.hid hs; have HQ0 := Lib.hid q0; have HMI := Lib.hid hmi; have HSB := Lib.hid sb
  have hd0 : Hid (DevAt W w1 S g (ofTo bs m 0)) := by show DevAt _ _ _ _ _; rw [ofTo_zero]; exact hd
  have hx1 := Lib.hid (HX.out.later hl1)
  clear hd hl1 hs hb g1 g2 s2 hr2 hm3 hqi hm hmi HNW e1 hlo hwq
  go_wp2_with fail
  clear q0
  go_loopg [0, 16] (m + 1) (fun g0 s0 s16 wr => ∃ (k : Nat) (A' : Option Addr) (n' c' : Nat), k ≤ m ∧ m - k ≤ g0 ∧ s16 = .int .i64 (k : Nat) ∧ s0 = .slice A' n' c' ∧ n' ≤ c' ∧ n' ≤ n ∧ Hid (DevAt W wr S g (ofTo bs m k)) ∧ Hid (Chg S w1 wr) ∧ Hid (wr.cell? ⟨g, 0, none⟩ = some (.slice (some ⟨b, 0, none⟩) m cc)) ∧ Hid (BsAt w A' n' (bs.drop (k * 64))))
  case atStart => exact ⟨0, A, n, c, Nat.zero_le _, by omega, rfl, rfl, hnc, Nat.le_refl _, hd0, Chg.refl _ _, HQ0, by rw [Nat.zero_mul, List.drop_zero]; exact HX⟩
  case round =>
    obtain ⟨k, A', n', c', hk, hg, rfl, rfl, hnc', hnn, hdv, hcg, hq0, hbs⟩ := hrel
    by_cases hlt : k < m
    · have q0 := hq0.out
      go_wp2_with (with_reducible show wpList _ _ _ ({ dst := some 28, op := Op.call _, type := _, pos := _, after := _, guard := _ } :: _) _ _; refine Hid.out ?_)
      have hlw : Later w wr := hcg.out.low HL1.out HS.out
      have hbw := hbs.out.later hlw
      have hp := take_64 hbw
      have hle : ((bs.drop (k * 64)).take 64).length ≤ n' := by rw [List.length_take, hbw.len]; exact Nat.min_le_right _ _
      have hle64 : ((bs.drop (k * 64)).take 64).length ≤ 64 := by rw [List.length_take]; exact Nat.min_le_left _ _
      have hmn : (Lib.byteCells ((bs.drop (k * 64)).take 64)).length = Nat.min n' 64 := by rw [bc_len, List.length_take, hbw.len]; exact Nat.min_comm _ _
      have hnx := hbs.out.from_ hle hnc'
      rw [drop_64, List.drop_drop, show k * 64 + 64 = (k + 1) * 64 by omega] at hnx
      obtain ⟨b', cc', B', m', c2', hb', g1, gcc, g2, gm, gc2, gr2, gsb, gbg, gs2⟩ := hdv.out.parts
      rw [ofTo_len] at hb' g1
      have hq := hb'.cell (i := 0) rfl
      simp only [List.getElem_toArray, List.getElem_cons_zero] at hq
      rw [hq0.out] at hq
      cases hq
      have hat : (blL (ofTo bs m k))[k]? = some (Lib.byteCells (zeros 64)) := by unfold blL; rw [List.getElem?_map, ofTo_at bs hlt]; rfl
      have hth := g1.there (j := k) (p := 0) (q := (Lib.byteCells ((bs.drop (k * 64)).take 64)).length) (List.getElem?_eq_some_iff.1 hat).1 (by rw [bc_len]; omega)
      refine Lib.hid (wpList_copy_mid rfl _ _ _ _ rfl 5 Try.underlying33 Try.byteSize (some ⟨b, k * 64, none⟩) A' 64 64 n' c' rfl rfl b (k * 64) (Lib.byteCells ((bs.drop (k * 64)).take 64)) hmn (fun h0 => ⟨rfl, hp.src h0⟩) hth (bc_one _) ?_)
      intro w3 hw3
      have hch : Chg (fun q => q = b) wr w3 := by rw [hw3]; exact sets_chg _ _ _
      have hset := g1.set (p := 0) (cs' := Lib.byteCells (pieceB bs k)) hat (by rw [bc_len]; omega) (by rw [bc_len]; exact fillB_length hle64) (piece_in _) (fun i hi => piece_out _ i hle64 hi)
      rw [Nat.add_zero, ← hw3] at hset
      have hdn : DevAt W w3 S g (ofTo bs m (k + 1)) := by
        have := hdv.out.blocks (bl' := (ofTo bs m (k + 1)).bl) (b := b) (c := cc) (B := B') (m := m') (c2 := c2') (by rw [ofTo_len]; exact hb') g2 gsb gbg gs2 hch (by
          rw [ofTo_len, ofTo_next bs hlt, List.map_set]
          exact hset) (by rw [ofTo_len, ofTo_len]) (ofTo_size bs m (k + 1))
        exact this
      have HDN := Lib.hid hdn
      have HCG := Lib.hid (hcg.out.trans hch fun q hq => .inl (by rw [hq]; exact gsb))
      have HQN : Hid (w3.cell? ⟨g, 0, none⟩ = some (.slice (some ⟨b, 0, none⟩) m cc)) := hch.cell hq0.out (fun e => gbg e.symm)
      have HNX := Lib.hid hnx
      have hpl : (Lib.byteCells ((bs.drop (k * 64)).take 64)).length = ((bs.drop (k * 64)).take 64).length := bc_len _
      rw [hpl]
      clear hset hdn hch hw3 hth hat g1 g2 gs2 gr2 gm hb' hp hmn hnx hbw hlw hdv hcg hq0 q0 hpl hbs hle64
      generalize ((bs.drop (k * 64)).take 64).length = p at *
      by_cases hcp : c' = p
      · have HN2 : Hid (BsAt w A' (n' - p) (bs.drop ((k + 1) * 64))) := by
          have := HNX.out
          rw [if_pos hcp] at this
          exact this
        go_wp2
        go_roundg (m - (k + 1))
        case measure => omega
        case rel => exact ⟨k + 1, A', n' - p, 0, by omega, by omega, by go_num, rfl, by omega, by omega, HDN, HCG, HQN, HN2⟩
      · have HN2 : Hid (BsAt w (A'.map (·.add p)) (n' - p) (bs.drop ((k + 1) * 64))) := by
          have := HNX.out
          rw [if_neg hcp] at this
          exact this
        go_wp2
        go_roundg (m - (k + 1))
        case measure => omega
        case rel => exact ⟨k + 1, _, n' - p, c' - p, by omega, by omega, by go_num, rfl, by omega, by omega, HDN, HCG, HQN, HN2⟩
    · obtain rfl : k = m := by omega
      have hfin : ofP bs = ofTo bs k k := by unfold ofP; rw [← HMI.out]
      go_wp2
      go_ret
      rw [hfin]
      exact ⟨g, S, rfl, hdv.out, hcg.out.low HL1.out HS.out, HS.out⟩
end

end Go.Proofs.Ytknjkkdoeanhbaa
