import Derived.Test.YtnhhdjcbifmfgaaChecked
import Derived.Test.YtnhhdjcbifmfgaaPk2
import Derived.Test.YtnhhdjcbifmfgaaPk1
import Derived.Deep.LoopGhost
import Derived.Deep.QuietTactic
import Derived.BigQuiet
import Derived.Lib.Hide
import Derived.Test.YtnhhdjcbifmfgaaPk4
import Derived.Test.YtnhhdjcbifmfgaaPk3
import Derived.RegionTactic
import Derived.Deep.Cut

/-
  What tree.Named and the document's Named come to, as calls.
-/
namespace Go.Proofs.Ytnhhdjcbifmfgaa
open Go.RowKit

theorem nameByte_iff (c : UInt8) : nameByte c = true ↔ (97 ≤ (c.toNat : Int) ∧ (c.toNat : Int) ≤ 122) ∨ (48 ≤ (c.toNat : Int) ∧ (c.toNat : Int) ≤ 57) ∨ (c.toNat : Int) = 46 ∨ (c.toNat : Int) = 45 ∨ (c.toNat : Int) = 95 ∨ (c.toNat : Int) = 47 := by
  have e : ∀ d : UInt8, c = d ↔ (c.toNat : Int) = d.toNat := fun d => ⟨fun h => by rw [h], fun h => UInt8.toNat.inj (by omega)⟩
  simp only [nameByte, Bool.or_eq_true, Bool.and_eq_true, decide_eq_true_eq, UInt8.le_iff_toNat_le, beq_iff_eq, e]
  simp only [UInt8.reduceToNat]
  omega

set_option maxHeartbeats 400000 in
theorem fits_any (c : UInt8) (w : World) : Calls Try.prog 25 #[.int .u8 (c.toNat : Int)] w fun e w' => e = .returned (.bool (nameByte c)) ∧ w = w' := by
  have hc := nameByte_iff c
  generalize nameByte c = b at hc ⊢
  have HC := Lib.hid hc; clear hc
  have h0 : (0 : Int) ≤ (c.toNat : Int) := by omega
  have h1 : (c.toNat : Int) < 256 := by have := c.toNat_lt; omega
  generalize (c.toNat : Int) = n at *
  go_enter Try.func25, Try.ntmps25
  go_wp2
  all_goals
    go_ret
    refine ⟨ret_bool ?_, rfl⟩
    rw [Bool.eq_iff_iff, HC.out]
    simp_all
    try omega

theorem named_no {s : ByteArray} {k : Nat} {c : UInt8} (hk : (bytes s)[k]? = some c) (hc : nameByte c = false) : namedB s = false := by
  have : (bytes s).all nameByte = false := List.all_eq_false.2 ⟨c, List.mem_of_getElem? hk, by simp [hc]⟩
  simp [namedB, this]
theorem named_yes {s : ByteArray} (h : ∀ (k : Nat) (c : UInt8), (bytes s)[k]? = some c → nameByte c = true) : namedB s = (decide (1 ≤ s.size) && decide (s.size ≤ 24)) := by
  have : (bytes s).all nameByte = true := List.all_eq_true.2 fun c hc => by
    obtain ⟨k, hk⟩ := List.getElem?_of_mem hc
    exact h k c hk
  simp [namedB, this]

set_option maxHeartbeats 400000 in
theorem named_any (s : ByteArray) (w : World) (hs : s.size ≤ maxLen) : Calls Try.prog 17 #[.string s] w fun e w' => e = .returned (.bool (namedB s)) ∧ w = w' := by
  unfold maxLen at hs
  by_cases h1 : s.size < 1
  · have e : namedB s = false := by simp [namedB]; omega
    have E := Lib.hid e; clear e
    have hd : decide ((s.size : Int) < 1) = true := by simp; omega
    go_enter Try.func17, Try.ntmps17
    go_wp2
    go_ret
    exact ⟨ret_bool E.out.symm, rfl⟩
  · have hd : decide ((s.size : Int) < 1) = false := by simp; omega
    by_cases h2 : 24 < s.size
    · have e : namedB s = false := by simp [namedB]; omega
      have E := Lib.hid e; clear e
      have hd2 : decide ((24 : Int) < s.size) = true := by simp; omega
      go_enter Try.func17, Try.ntmps17
      go_wp2
      go_ret
      exact ⟨ret_bool E.out.symm, rfl⟩
    · have hd2 : decide ((24 : Int) < s.size) = false := by simp; omega
      go_enter Try.func17, Try.ntmps17
      go_wp2
      clear hd hd2
      go_loop [14] (fun i => ∃ k : Nat, k ≤ s.size ∧ i = .int .i64 k ∧ Hid (∀ (j : Nat) (c : UInt8), j < k → (bytes s)[j]? = some c → nameByte c = true)) (fun i => s.size - (intOf i).toNat)
      case atStart => exact ⟨0, Nat.zero_le _, rfl, fun j c hj => absurd hj (Nat.not_lt_zero _)⟩
      case round =>
        obtain ⟨k, hk, rfl, hno⟩ := hrel
        by_cases hlt : k < s.size
        · have hat : (bytes s)[k]? = some s[k] := byte_at hlt
          have hf := fits_any s[k] w
          cases hb : nameByte s[k]
          · rw [hb] at hf
            have e := named_no hat hb
            have E := Lib.hid e
            have HF := Lib.hid hf
            clear hf hb e hat hno
            go_wp2_with (go_at_call 25; refine HF.out.mono ?_; rintro e w' ⟨rfl, rfl⟩)
            go_ret
            exact ⟨ret_bool E.out.symm, rfl⟩
          · rw [hb] at hf
            have HA : Hid (∀ (j : Nat) (c : UInt8), j < k + 1 → (bytes s)[j]? = some c → nameByte c = true) := fun j c hj hjc => by
              by_cases e : j = k
              · subst e; rw [hat] at hjc; cases hjc; exact hb
              · exact hno.out j c (by omega) hjc
            have HF := Lib.hid hf
            clear hf hb hat hno
            go_wp2_with (go_at_call 25; refine HF.out.mono ?_; rintro e w' ⟨rfl, rfl⟩)
            exact ⟨⟨k + 1, by omega, by go_num, HA⟩, by simp [intOf]; omega⟩
        · have e : namedB s = true := by
            rw [named_yes fun j c hc => hno.out j c (by have := (List.getElem?_eq_some_iff.1 hc).1; rw [bytes_length] at this; omega) hc]
            simp; omega
          have E := Lib.hid e; clear e hno
          go_wp2
          go_ret
          exact ⟨ret_bool E.out.symm, rfl⟩

end Go.Proofs.Ytnhhdjcbifmfgaa

/-
  What prim's Right comes to, as a call.
-/
namespace Go.Proofs.Ytnhhdjcbifmfgaa
open Go.RowKit

theorem rightP_hunk (nm to : ByteArray) (pl : Int) (old new : List ByteArray) (hn : namedB nm = true) : rightP ⟨0, nm, to, pl, old, new⟩ = (decide (to = ByteArray.empty) && decide (0 ≤ pl ∧ pl ≤ 1048576) && (allB old && allB new && !sameB old new)) := by
  simp only [rightP, hn, Bool.true_and, if_true, Bool.and_assoc]
theorem rightP_one (k : Int) (nm to : ByteArray) (pl : Int) (old new : List ByteArray) (hn : namedB nm = true) (hk : k = 1 ∨ k = 2) : rightP ⟨k, nm, to, pl, old, new⟩ = (decide (to = ByteArray.empty) && bareP ⟨k, nm, to, pl, old, new⟩) := by
  have h0 : k ≠ 0 := by omega
  have h3 : k ≠ 3 := by omega
  simp only [rightP, bareP, hn, Bool.true_and, if_neg h0, if_neg h3, decide_eq_true hk]
  rw [Bool.and_comm]
theorem rightP_move (nm to : ByteArray) (pl : Int) (old new : List ByteArray) (hn : namedB nm = true) : rightP ⟨3, nm, to, pl, old, new⟩ = (namedB to && (decide (to ≠ nm) && bareP ⟨3, nm, to, pl, old, new⟩)) := by
  simp only [rightP, bareP, hn, Bool.true_and, Int.reduceEq, if_false, if_true]
  rw [Bool.and_comm, Bool.and_assoc]
theorem rightP_none (k : Int) (nm to : ByteArray) (pl : Int) (old new : List ByteArray) (h0 : k ≠ 0) (h1 : k ≠ 1) (h2 : k ≠ 2) (h3 : k ≠ 3) : rightP ⟨k, nm, to, pl, old, new⟩ = false := by
  simp [rightP, h0, h1, h2, h3]
theorem rightP_name (k : Int) (nm to : ByteArray) (pl : Int) (old new : List ByteArray) (hn : namedB nm = false) : rightP ⟨k, nm, to, pl, old, new⟩ = false := by
  simp [rightP, hn]

set_option maxRecDepth 100000 in
set_option maxHeartbeats 800000 in
theorem primRight_any (x : PrC) (w : World) (hx : PrOk w x) :
    Calls Try.prog 13 #[prV x] w (Says (rightP x.v) w) := by
  have hlb0 : Later w (w.alloc (.cells #[.int .i64 x.v.kind, .string x.v.name, .string x.v.to, .int .i64 x.v.place, .slice x.A x.n x.c, .slice x.B x.m x.d] 28)) := (Later.refl w).alloc _
  have HC := Lib.hid (changes_any x _ (hx.later hlb0))
  have HB := Lib.hid (bare_any x _ (hx.later hlb0))
  obtain ⟨⟨kd, nm, to, pl, old, new⟩, A, n, c, B, m, d⟩ := x
  have hn := named_any nm (w.alloc (.cells #[.int .i64 kd, .string nm, .string to, .int .i64 pl, .slice A n c, .slice B m d] 28)) hx.name
  have ht := named_any to (w.alloc (.cells #[.int .i64 kd, .string nm, .string to, .int .i64 pl, .slice A n c, .slice B m d] 28)) hx.to
  have HLB := Lib.hid hlb0
  unfold prV at HC HB ⊢
  dsimp only at HC HB HLB ⊢
  clear hx hlb0
  cases h1 : namedB nm
  · rw [h1] at hn
    have HN := Lib.hid hn
    rw [rightP_name kd nm to pl old new h1]
    clear hn ht h1
    go_enter Try.func13, Try.ntmps13
    go_wp2_with fail
    refine HN.out.mono ?_
    rintro e w1 ⟨rfl, rfl⟩
    go_wp2
    go_ret
    exact ⟨rfl, HLB.out⟩
  rw [h1] at hn
  have HN := Lib.hid hn
  have HT := Lib.hid ht
  clear hn ht
  by_cases k0 : kd = 0
  · subst k0
    rw [rightP_hunk nm to pl old new h1]
    clear h1
    by_cases h2 : to = ByteArray.empty
    · subst h2
      by_cases h3 : 0 ≤ pl
      · by_cases h4 : pl ≤ 1048576
        · rw [decide_eq_true (show 0 ≤ pl ∧ pl ≤ 1048576 from ⟨h3, h4⟩), decide_eq_true (rfl : ByteArray.empty = ByteArray.empty), Bool.true_and, Bool.true_and]
          generalize (allB old && allB new && !sameB old new) = b at HC ⊢
          go_enter Try.func13, Try.ntmps13
          go_wp2_with fail
          refine HN.out.mono ?_
          rintro e w1 ⟨rfl, rfl⟩
          go_wp2_with fail
          refine HC.out.mono ?_
          rintro e w1 ⟨rfl, hl1⟩
          have HL1 := Lib.hid hl1; clear hl1
          go_wp2
          go_ret
          exact ⟨rfl, HLB.out.trans HL1.out⟩
        · have e : ¬ (0 ≤ pl ∧ pl ≤ 1048576) := fun h => h4 h.2
          rw [decide_eq_false e, Bool.and_false, Bool.false_and]
          clear e
          go_enter Try.func13, Try.ntmps13
          go_wp2_with fail
          refine HN.out.mono ?_
          rintro e w1 ⟨rfl, rfl⟩
          go_wp2
          go_ret
          exact ⟨rfl, HLB.out⟩
      · have e : ¬ (0 ≤ pl ∧ pl ≤ 1048576) := fun h => h3 h.1
        rw [decide_eq_false e, Bool.and_false, Bool.false_and]
        clear e
        go_enter Try.func13, Try.ntmps13
        go_wp2_with fail
        refine HN.out.mono ?_
        rintro e w1 ⟨rfl, rfl⟩
        go_wp2
        go_ret
        exact ⟨rfl, HLB.out⟩
    · have hb := list_ne h2
      rw [decide_eq_false h2, Bool.false_and, Bool.false_and]
      go_enter Try.func13, Try.ntmps13
      go_wp2_with fail
      refine HN.out.mono ?_
      rintro e w1 ⟨rfl, rfl⟩
      go_wp2
      go_ret
      exact ⟨rfl, HLB.out⟩
  by_cases k12 : kd = 1 ∨ kd = 2
  · rw [rightP_one kd nm to pl old new h1 k12]
    clear h1
    by_cases h2 : to = ByteArray.empty
    · subst h2
      rw [decide_eq_true (rfl : ByteArray.empty = ByteArray.empty), Bool.true_and]
      generalize bareP ⟨kd, nm, ByteArray.empty, pl, old, new⟩ = b at HB ⊢
      rcases k12 with rfl | rfl
      all_goals
        go_enter Try.func13, Try.ntmps13
        go_wp2_with fail
        refine HN.out.mono ?_
        rintro e w1 ⟨rfl, rfl⟩
        go_wp2_with fail
        refine HB.out.mono ?_
        rintro e w1 ⟨rfl, hl1⟩
        have HL1 := Lib.hid hl1; clear hl1
        go_wp2
        go_ret
        exact ⟨rfl, HLB.out.trans HL1.out⟩
    · have hb := list_ne h2
      rw [decide_eq_false h2, Bool.false_and]
      rcases k12 with rfl | rfl
      all_goals
        go_enter Try.func13, Try.ntmps13
        go_wp2_with fail
        refine HN.out.mono ?_
        rintro e w1 ⟨rfl, rfl⟩
        go_wp2
        go_ret
        exact ⟨rfl, HLB.out⟩
  by_cases k3 : kd = 3
  · subst k3
    rw [rightP_move nm to pl old new h1]
    clear h1 k0 k12
    cases h2 : namedB to
    · rw [h2] at HT
      rw [Bool.false_and]
      go_enter Try.func13, Try.ntmps13
      go_wp2_with fail
      refine HN.out.mono ?_
      rintro e w1 ⟨rfl, rfl⟩
      go_wp2_with fail
      refine HT.out.mono ?_
      rintro e w1 ⟨rfl, rfl⟩
      go_wp2
      go_ret
      exact ⟨rfl, HLB.out⟩
    · rw [h2] at HT
      rw [Bool.true_and]
      clear h2
      by_cases h3 : to = nm
      · subst h3
        rw [decide_eq_false (fun h : to ≠ to => h rfl), Bool.false_and]
        go_enter Try.func13, Try.ntmps13
        go_wp2_with fail
        refine HN.out.mono ?_
        rintro e w1 ⟨rfl, rfl⟩
        go_wp2_with fail
        refine HT.out.mono ?_
        rintro e w1 ⟨rfl, rfl⟩
        go_wp2
        go_ret
        exact ⟨rfl, HLB.out⟩
      · rw [decide_eq_true h3, Bool.true_and]
        have hb := text_ne h3
        generalize bareP ⟨3, nm, to, pl, old, new⟩ = b at HB ⊢
        go_enter Try.func13, Try.ntmps13
        go_wp2_with fail
        refine HN.out.mono ?_
        rintro e w1 ⟨rfl, rfl⟩
        go_wp2_with fail
        refine HT.out.mono ?_
        rintro e w1 ⟨rfl, rfl⟩
        go_wp2_with fail
        refine HB.out.mono ?_
        rintro e w1 ⟨rfl, hl1⟩
        have HL1 := Lib.hid hl1; clear hl1
        go_wp2
        go_ret
        exact ⟨rfl, HLB.out.trans HL1.out⟩
  · have k1 : kd ≠ 1 := fun h => k12 (.inl h)
    have k2 : kd ≠ 2 := fun h => k12 (.inr h)
    rw [rightP_none kd nm to pl old new k0 k1 k2 k3]
    clear h1 k12
    go_enter Try.func13, Try.ntmps13
    go_wp2_with fail
    refine HN.out.mono ?_
    rintro e w1 ⟨rfl, rfl⟩
    go_wp2
    go_ret
    exact ⟨rfl, HLB.out⟩

end Go.Proofs.Ytnhhdjcbifmfgaa

/-
  Prims as values, and what calls on them tell.
-/
namespace Go.Proofs.Ytnhhdjcbifmfgaa
open Go.RowKit Go.Maps

/-- The value is this prim, and its rows stand there. -/
def PrimAt (w : World) (v : Value) (p : Pr) : Prop := ∃ x : PrC, v = prV x ∧ x.v = p ∧ PrOk w x
theorem PrimAt.later {w w' : World} {v : Value} {p : Pr} (h : PrimAt w v p) (hl : Later w w') : PrimAt w' v p := by
  obtain ⟨x, e1, e2, e3⟩ := h; exact ⟨x, e1, e2, e3.later hl⟩
theorem PrOk.at {w : World} {x : PrC} (h : PrOk w x) : PrimAt w (prV x) x.v := ⟨x, rfl, rfl, h⟩
def GivesP (p : Pr) (w : World) (e : Ending) (w' : World) : Prop := ∃ v, e = .returned v ∧ PrimAt w' v p ∧ Later w w'

/-- Nothing of the prim is too great. -/
structure Mild (p : Pr) : Prop where
  omost : p.old.length ≤ 65536
  nmost : p.new.length ≤ 65536
  name : p.name.size ≤ maxLen
  to : p.to.size ≤ maxLen
  lo : -9223372036854775808 ≤ p.place
  hi : p.place ≤ 9223372036854775807
  olds : ∀ s ∈ p.old, s.size ≤ maxLen
  news : ∀ s ∈ p.new, s.size ≤ maxLen
theorem PrOk.mild {w : World} {x : PrC} (h : PrOk w x) : Mild x.v := ⟨by rw [h.old.len]; exact h.omost, by rw [h.new.len]; exact h.nmost, h.name, h.to, h.lo, h.hi, h.olds, h.news⟩
theorem Mild.invert {p : Pr} (h : Mild p) : Mild (invertP p) := by
  unfold invertP
  split
  · exact ⟨h.nmost, h.omost, h.name, h.to, h.lo, h.hi, h.news, h.olds⟩
  split
  · exact ⟨h.omost, h.nmost, h.name, h.to, h.lo, h.hi, h.olds, h.news⟩
  split
  · exact ⟨h.omost, h.nmost, h.name, h.to, h.lo, h.hi, h.olds, h.news⟩
  split
  · exact ⟨h.omost, h.nmost, h.to, h.name, h.lo, h.hi, h.olds, h.news⟩
  · exact h
theorem IsPr.at {p : Pr} {w w' : World} {u v : Value} (h : IsPr p w w' u v) (hm : Mild p) : PrimAt w' (.agg #[.int .i64 p.kind, .string p.name, .string p.to, .int .i64 p.place, u, v]) p := by
  obtain ⟨x, e1, e2, e3⟩ := h.ok hm.omost hm.nmost hm.name hm.to hm.lo hm.hi hm.olds hm.news
  exact ⟨x, e2, e1, e3⟩
theorem GivesPr.at {p : Pr} {w w' : World} {e : Ending} (h : GivesPr p w e w') (hm : Mild p) : GivesP p w e w' := by
  obtain ⟨u, v, rfl, hp⟩ := h
  exact ⟨_, rfl, hp.at hm, hp.later⟩

section
variable {w : World} {v u : Value} {p q : Pr}
theorem right_v (h : PrimAt w v p) : Calls Try.prog 13 #[v] w (Says (rightP p) w) := by
  obtain ⟨x, rfl, rfl, hx⟩ := h; exact primRight_any x w hx
theorem same_v (h : PrimAt w v p) (k : PrimAt w u q) : Calls Try.prog 7 #[v, u] w (Says (sameP p q) w) := by
  obtain ⟨x, rfl, rfl, hx⟩ := h; obtain ⟨y, rfl, rfl, hy⟩ := k; exact primSame_any x y w hx hy
theorem clone_v (h : PrimAt w v p) : Calls Try.prog 15 #[v] w (GivesP p w) := by
  obtain ⟨x, rfl, rfl, hx⟩ := h; exact (primClone_any x w hx).mono fun e w' he => GivesPr.at he hx.mild
end

/-- A row of one prim, or of two, written out. -/
theorem prims_one {w w0 : World} {x : PrC} (hx : CameP w x) (hl : Later w w0) (t : TypeId) : Prims (w0.alloc (.cells #[.int .i64 x.v.kind, .string x.v.name, .string x.v.to, .int .i64 x.v.place, .slice x.A x.n x.c, .slice x.B x.m x.d] t)) (some ⟨w0.heap.size, 0, none⟩) 1 [x] :=
  ⟨RowK.one w0 (prL x) t, fun y hy => by simp at hy; subst hy; exact hx.later (hl.alloc _)⟩
theorem weightPs_one (x : PrC) : weightPs [x] = weightP x.v := by simp [weightPs]

end Go.Proofs.Ytnhhdjcbifmfgaa

/-
  Two prims in the other order, as plain values: when they have one, and what follows of it. Nothing of any program.
-/
namespace Go.Proofs.Ytnhhdjcbifmfgaa
open Go.RowKit

def placed (p : Pr) (k : Int) : Pr := { p with place := k }
def inFile (p : Pr) (n : ByteArray) : Pr := { p with name := n }
/-- Do two name one file? -/
def commonP (p q : Pr) : Bool := (namesP p).any fun a => (namesP q).any fun b => decide (a = b)

/-- P4.1, of two that are right. -/
def twoP (p q : Pr) : Pr × Pr × Bool :=
  if p.kind = 0 ∧ q.kind = 0 ∧ p.name = q.name then
    (if q.place > p.place + p.new.length then (placed q (q.place - p.new.length + p.old.length), p, true)
    else if q.place + q.old.length < p.place then (q, placed p (p.place + q.new.length - q.old.length), true)
    else (p, q, false))
  else if p.kind = 0 ∧ q.kind = 3 ∧ p.name = q.name then (q, inFile p q.to, true)
  else if p.kind = 3 ∧ q.kind = 0 ∧ p.to = q.name then (inFile q p.name, p, true)
  else if p.kind = 0 ∧ q.kind = 0 then (q, p, true)
  else (q, p, !commonP p q)

/-- P4.1: first and second, or none. -/
def swapP (p q : Pr) : Option (Pr × Pr) :=
  if rightP p = true ∧ rightP q = true ∧ (twoP p q).2.2 = true ∧ rightP (twoP p q).1 = true ∧ rightP (twoP p q).2.1 = true then some ((twoP p q).1, (twoP p q).2.1) else none

/-- The name behind x of a file; the name ahead of x. -/
def fwdN (x : Pr) (n : ByteArray) : Option ByteArray := if x.kind = 3 then (if n = x.name then some x.to else if n = x.to then none else some n) else if n = x.name then none else some n
def bwdN (x : Pr) (n : ByteArray) : Option ByteArray := if x.kind = 3 then (if n = x.to then some x.name else if n = x.name then none else some n) else if n = x.name then none else some n

theorem mem_names {p : Pr} {n : ByteArray} : n ∈ namesP p ↔ n = p.name ∨ p.kind = 3 ∧ n = p.to := by
  unfold namesP
  by_cases h : p.kind = 3
  · simp only [h, ne_eq, not_true, if_false, true_and]
    split
    · simp
    · simp [or_comm]
  · simp [h]
theorem common_iff {p q : Pr} : commonP p q = true ↔ ∃ n, n ∈ namesP p ∧ n ∈ namesP q := by
  simp only [commonP, List.any_eq_true, decide_eq_true_eq]
  constructor
  · rintro ⟨a, ha, b, hb, rfl⟩; exact ⟨a, ha, hb⟩
  · rintro ⟨a, ha, hb⟩; exact ⟨a, ha, a, hb, rfl⟩
theorem common_comm (p q : Pr) : commonP p q = commonP q p := by
  rw [Bool.eq_iff_iff, common_iff, common_iff]
  exact ⟨fun ⟨n, a, b⟩ => ⟨n, b, a⟩, fun ⟨n, a, b⟩ => ⟨n, b, a⟩⟩
theorem common_no {p q : Pr} : commonP p q = false ↔ ∀ n, n ∈ namesP p → n ∉ namesP q := by
  rw [← Bool.not_eq_true, common_iff]
  exact ⟨fun h n a b => h ⟨n, a, b⟩, fun h ⟨n, a, b⟩ => h n a b⟩

/-- A right Move goes elsewhere. -/
theorem move_else {x : Pr} (hr : rightP x = true) (e : x.kind = 3) : x.to ≠ x.name := ((right_parts hr).2.2.2.2.2 e).2
theorem fwd_bwd {x : Pr} (hr : rightP x = true) {n m : ByteArray} : fwdN x n = some m ↔ bwdN x m = some n := by
  unfold fwdN bwdN
  by_cases h : x.kind = 3
  · have hne := move_else hr h
    simp only [h, if_true]
    constructor
    · split
      · rintro ⟨⟩; rename_i e; subst e; simp
      · split
        · rintro ⟨⟩
        · rintro ⟨⟩; rename_i h1 h2; rw [if_neg h2, if_neg h1]
    · split
      · rintro ⟨⟩; rename_i e; subst e; simp
      · split
        · rintro ⟨⟩
        · rintro ⟨⟩; rename_i h1 h2; rw [if_neg h2, if_neg h1]
  · simp only [h, if_false]
    constructor
    · split
      · rintro ⟨⟩
      · rintro ⟨⟩; rename_i h1; rw [if_neg h1]
    · split
      · rintro ⟨⟩
      · rintro ⟨⟩; rename_i h1; rw [if_neg h1]

theorem named_fwd {x : Pr} (hr : rightP x = true) {n m : ByteArray} (hn : namedB n = true) (h : fwdN x n = some m) : namedB m = true := by
  unfold fwdN at h
  split at h
  · rename_i e
    split at h
    · cases h; exact ((right_parts hr).2.2.2.2.2 e).1
    · split at h
      · cases h
      · cases h; exact hn
  · split at h
    · cases h
    · cases h; exact hn
theorem named_bwd {x : Pr} (hr : rightP x = true) {n m : ByteArray} (hn : namedB n = true) (h : bwdN x n = some m) : namedB m = true := by
  unfold bwdN at h
  split at h
  · split at h
    · cases h; exact (right_parts hr).1
    · split at h
      · cases h
      · cases h; exact hn
  · split at h
    · cases h
    · cases h; exact hn

/-- A Hunk in another file, or at another place, is right just if the name, or the place, is. -/
theorem right_inFile {p : Pr} (h0 : p.kind = 0) (hr : rightP p = true) {n : ByteArray} (hn : namedB n = true) : rightP (inFile p n) = true := by
  simp only [rightP, inFile, h0, if_true, Bool.and_eq_true] at hr ⊢
  exact ⟨hn, hr.2⟩
theorem right_placed {p : Pr} (h0 : p.kind = 0) (hr : rightP p = true) {k : Int} (hk : 0 ≤ k) : rightP (placed p k) = decide (k ≤ 1048576) := by
  simp only [rightP, placed, h0, if_true, Bool.and_eq_true] at hr ⊢
  obtain ⟨h1, ⟨⟨⟨h2, h3⟩, h4⟩, h5⟩, h6⟩ := hr
  rw [h1, h2, h4, h5, h6]
  simp [hk]
theorem place_in {p : Pr} (hr : rightP p = true) (h0 : p.kind = 0) : 0 ≤ p.place ∧ p.place ≤ 1048576 := (right_parts hr).2.2.2.2.1 h0

section
variable {p q : Pr}
/-- Two Hunks. -/
def swapHH (p q : Pr) : Option (Pr × Pr) :=
  if p.name = q.name then
    (if q.place > p.place + p.new.length then (if q.place - p.new.length + p.old.length ≤ 1048576 then some (placed q (q.place - p.new.length + p.old.length), p) else none)
    else if q.place + q.old.length < p.place then (if p.place + q.new.length - q.old.length ≤ 1048576 then some (q, placed p (p.place + q.new.length - q.old.length)) else none)
    else none)
  else some (q, p)
theorem swap_HH (hp : rightP p = true) (hq : rightP q = true) (h : p.kind = 0) (k : q.kind = 0) : swapP p q = swapHH p q := by
  have pp := place_in hp h
  have qq := place_in hq k
  simp only [swapP, twoP, swapHH, h, k, true_and, hp, hq]
  by_cases e : p.name = q.name
  · simp only [e, if_true]
    by_cases h1 : q.place > p.place + p.new.length
    · have hk : 0 ≤ q.place - p.new.length + p.old.length := by omega
      simp only [h1, if_true, hp, right_placed k hq hk, decide_eq_true_eq, and_true, true_and]
    · simp only [h1, if_false]
      by_cases h2 : q.place + q.old.length < p.place
      · have hk : 0 ≤ p.place + q.new.length - q.old.length := by omega
        simp only [h2, if_true, hq, right_placed h hp hk, decide_eq_true_eq, true_and]
      · simp [h2]
  · simp [e, hp, hq]
/-- A Hunk, and none. -/
theorem swap_HN (hp : rightP p = true) (hq : rightP q = true) (h : p.kind = 0) (k : q.kind ≠ 0) : swapP p q = (fwdN q p.name).map fun n => (q, inFile p n) := by
  have hn := (right_parts hp).1
  simp only [swapP, twoP, h, k, true_and, false_and, and_false, if_false, hp, hq, Int.reduceEq]
  by_cases k3 : q.kind = 3
  · simp only [k3, true_and, fwdN, if_true]
    by_cases e : p.name = q.name
    · have ht := right_inFile h hp ((right_parts hq).2.2.2.2.2 k3).1
      simp [e, hq, ht]
    · simp only [e, if_false]
      by_cases e2 : p.name = q.to
      · have : commonP p q = true := common_iff.2 ⟨p.name, mem_names.2 (.inl rfl), mem_names.2 (.inr ⟨k3, e2⟩)⟩
        simp [this, e2]
      · have : commonP p q = false := common_no.2 fun n a b => by
          rw [mem_names] at a b
          simp only [h, Int.reduceEq, false_and, or_false] at a
          subst a
          rcases b with b | b
          · exact e b
          · exact e2 b.2
        simp [this, e2, hp, hq, inFile]
  · simp only [k3, false_and, if_false, fwdN]
    by_cases e : p.name = q.name
    · have : commonP p q = true := common_iff.2 ⟨p.name, mem_names.2 (.inl rfl), mem_names.2 (.inl e)⟩
      simp [this, e]
    · have : commonP p q = false := common_no.2 fun n a b => by
        rw [mem_names] at a b
        simp only [h, k3, Int.reduceEq, false_and, or_false] at a b
        exact e (a.symm.trans b)
      simp [this, e, hp, hq, inFile]
/-- None, and a Hunk. -/
theorem swap_NH (hp : rightP p = true) (hq : rightP q = true) (h : p.kind ≠ 0) (k : q.kind = 0) : swapP p q = (bwdN p q.name).map fun n => (inFile q n, p) := by
  simp only [swapP, twoP, h, k, true_and, false_and, if_false, hp, hq]
  by_cases k3 : p.kind = 3
  · simp only [k3, true_and, bwdN, if_true]
    by_cases e : p.to = q.name
    · have ht := right_inFile k hq (right_parts hp).1
      simp [e, hp, ht]
    · have e' : q.name ≠ p.to := fun x => e x.symm
      simp only [e, e', if_false]
      by_cases e2 : q.name = p.name
      · have : commonP p q = true := common_iff.2 ⟨p.name, mem_names.2 (.inl rfl), mem_names.2 (.inl e2.symm)⟩
        simp [this, e2]
      · have : commonP p q = false := common_no.2 fun n a b => by
          rw [mem_names] at a b
          simp only [k, Int.reduceEq, false_and, or_false] at b
          subst b
          rcases a with a | a
          · exact e2 a
          · exact e' a.2
        simp [this, e2, hp, hq, inFile]
  · simp only [k3, false_and, if_false, bwdN]
    by_cases e : q.name = p.name
    · have : commonP p q = true := common_iff.2 ⟨p.name, mem_names.2 (.inl rfl), mem_names.2 (.inl e.symm)⟩
      simp [this, e]
    · have : commonP p q = false := common_no.2 fun n a b => by
        rw [mem_names] at a b
        simp only [k, k3, Int.reduceEq, false_and, or_false] at a b
        exact e (b.symm.trans a)
      simp [this, e, hp, hq, inFile]
/-- No Hunk of both. -/
theorem swap_NN (hp : rightP p = true) (hq : rightP q = true) (h : p.kind ≠ 0) (k : q.kind ≠ 0) : swapP p q = if commonP p q = true then none else some (q, p) := by
  simp only [swapP, twoP, h, k, and_false, false_and, if_false, hp, hq, true_and, and_true]
  cases commonP p q <;> simp
theorem swap_right {a b : Pr} (h : swapP p q = some (a, b)) : rightP p = true ∧ rightP q = true ∧ rightP a = true ∧ rightP b = true := by
  simp only [swapP] at h
  split at h
  · rename_i hc
    cases h
    exact ⟨hc.1, hc.2.1, hc.2.2.2.1, hc.2.2.2.2⟩
  · cases h
end

end Go.Proofs.Ytnhhdjcbifmfgaa

/-
  Two prims in the other order, by the program's own cases, as plain values: they are the document's. Nothing of any program.
-/
namespace Go.Proofs.Ytnhhdjcbifmfgaa
open Go.RowKit

def zeroPr : Pr := ⟨0, ByteArray.empty, ByteArray.empty, 0, [], []⟩
def noneP : Pr × Pr × Bool := (zeroPr, zeroPr, false)
def turnHH (p q : Pr) : Pr × Pr × Bool :=
  if p.name ≠ q.name then (q, p, true)
  else if q.place > p.place + p.new.length then (placed q (q.place - (p.new.length - p.old.length)), p, true)
  else if q.place + q.old.length < p.place then (q, placed p (p.place + (q.new.length - q.old.length)), true)
  else noneP
def turnHM (p q : Pr) : Pr × Pr × Bool := if p.name = q.to then noneP else if p.name = q.name then (q, inFile p q.to, true) else (q, p, true)
def turnMH (p q : Pr) : Pr × Pr × Bool := if q.name = p.name then noneP else if q.name = p.to then (inFile q p.name, p, true) else (q, p, true)
def turnP (p q : Pr) : Pr × Pr × Bool :=
  if p.kind = 0 ∧ q.kind = 0 then turnHH p q
  else if p.kind = 0 ∧ q.kind = 3 then turnHM p q
  else if p.kind = 3 ∧ q.kind = 0 then turnMH p q
  else (q, p, !commonP p q)
/-- What comes of three that were told, if both are right. -/
def heedP (r : Pr × Pr × Bool) : Option (Pr × Pr) := if r.2.2 = true ∧ rightP r.1 = true ∧ rightP r.2.1 = true then some (r.1, r.2.1) else none
theorem swapP_two (p q : Pr) (hp : rightP p = true) (hq : rightP q = true) : swapP p q = heedP (twoP p q) := by
  simp only [swapP, heedP, hp, hq, true_and]
theorem swapP_not (p q : Pr) (h : ¬ (rightP p = true ∧ rightP q = true)) : swapP p q = none := by
  unfold swapP
  rw [if_neg]
  exact fun k => h ⟨k.1, k.2.1⟩
theorem heed_none : heedP noneP = none := rfl
theorem heed_false (a b : Pr) : heedP (a, b, false) = none := by simp [heedP]

theorem swapP_turn (p q : Pr) (hp : rightP p = true) (hq : rightP q = true) : swapP p q = heedP (turnP p q) := by
  rw [swapP_two p q hp hq]
  unfold turnP twoP
  by_cases kp : p.kind = 0
  · by_cases kq : q.kind = 0
    · simp only [kp, kq, true_and, and_self, if_true, turnHH]
      by_cases e : p.name = q.name
      · simp only [e, if_true, ne_eq, not_true, if_false]
        by_cases h1 : q.place > p.place + p.new.length
        · simp only [h1, if_true]
          rw [show q.place - (p.new.length : Int) + p.old.length = q.place - ((p.new.length : Int) - p.old.length) from by omega]
        · simp only [h1, if_false]
          by_cases h2 : q.place + q.old.length < p.place
          · simp only [h2, if_true]
            rw [show p.place + (q.new.length : Int) - q.old.length = p.place + ((q.new.length : Int) - q.old.length) from by omega]
          · simp only [h2, if_false, heed_false, heed_none]
      · simp [e]
    · by_cases k3 : q.kind = 3
      · simp only [kp, k3, true_and, false_and, and_false, if_true, if_false, turnHM, Int.reduceEq]
        by_cases e : p.name = q.name
        · have hne : ¬ q.name = q.to := fun x => move_else hq k3 x.symm
          simp only [e, if_true, hne, if_false]
        · simp only [e, if_false]
          by_cases e2 : p.name = q.to
          · have : commonP p q = true := common_iff.2 ⟨p.name, mem_names.2 (.inl rfl), mem_names.2 (.inr ⟨k3, e2⟩)⟩
            simp only [this, Bool.not_true, e2, if_true, heed_false, heed_none]
          · have : commonP p q = false := common_no.2 fun n a b => by
              rw [mem_names] at a b
              simp only [kp, Int.reduceEq, false_and, or_false] at a
              subst a
              rcases b with b | b
              · exact e b
              · exact e2 b.2
            simp only [this, Bool.not_false, e2, if_false]
      · simp [kp, kq, k3]
  · by_cases kq : q.kind = 0
    · by_cases k3 : p.kind = 3
      · simp only [kq, k3, true_and, false_and, and_true, if_true, if_false, turnMH, Int.reduceEq]
        by_cases e : p.to = q.name
        · have hne : ¬ q.name = p.name := fun x => move_else hp k3 (e.trans x)
          simp only [e, if_true, hne, if_false]
        · have e' : ¬ q.name = p.to := fun x => e x.symm
          simp only [e, e', if_false]
          by_cases e2 : q.name = p.name
          · have : commonP p q = true := common_iff.2 ⟨p.name, mem_names.2 (.inl rfl), mem_names.2 (.inl e2.symm)⟩
            simp only [this, Bool.not_true, e2, if_true, heed_false, heed_none]
          · have : commonP p q = false := common_no.2 fun n a b => by
              rw [mem_names] at a b
              simp only [kq, Int.reduceEq, false_and, or_false] at b
              subst b
              rcases a with a | a
              · exact e2 a
              · exact e' a.2
            simp only [this, Bool.not_false, e2, if_false]
      · simp [kp, kq, k3]
    · simp [kp, kq]

end Go.Proofs.Ytnhhdjcbifmfgaa

/-
  Two prims and a Bool that a call tells; prims at another place, in another file.
-/
namespace Go.Proofs.Ytnhhdjcbifmfgaa
open Go.RowKit Go.Maps

def atC (x : PrC) (k : Int) : PrC := { x with v := placed x.v k }
def inC (x : PrC) (n : ByteArray) : PrC := { x with v := inFile x.v n }
def zeroC : PrC := ⟨zeroPr, none, 0, 0, none, 0, 0⟩
theorem atC_ok {w : World} {x : PrC} (h : PrOk w x) {k : Int} (h1 : -9223372036854775808 ≤ k) (h2 : k ≤ 9223372036854775807) : PrOk w (atC x k) :=
  ⟨h.old, h.new, h.oroom, h.nroom, h.omost, h.nmost, h.name, h.to, h1, h2, h.olds, h.news⟩
theorem inC_ok {w : World} {x : PrC} (h : PrOk w x) {n : ByteArray} (hn : n.size ≤ maxLen) : PrOk w (inC x n) :=
  ⟨h.old, h.new, h.oroom, h.nroom, h.omost, h.nmost, hn, h.to, h.lo, h.hi, h.olds, h.news⟩
theorem zeroC_ok (w : World) : PrOk w zeroC :=
  ⟨Row.none, Row.none, Nat.le_refl _, Nat.le_refl _, Nat.zero_le _, Nat.zero_le _, Nat.zero_le _, Nat.zero_le _, by simp [zeroC, zeroPr], by simp [zeroC, zeroPr], (fun s hs => by simp [zeroC, zeroPr] at hs), (fun s hs => by simp [zeroC, zeroPr] at hs)⟩

/-- Two prims and a Bool. -/
def GivesT (r : Pr × Pr × Bool) (w : World) (e : Ending) (w' : World) : Prop :=
  ∃ a b : PrC, e = .returned (.tuple #[prV a, prV b, .bool r.2.2]) ∧ a.v = r.1 ∧ b.v = r.2.1 ∧ PrOk w' a ∧ PrOk w' b ∧ Later w w'
/-- The same, where the rows are those of x or y. -/
def GivesW (x y : PrC) (r : Pr × Pr × Bool) (w : World) (e : Ending) (w' : World) : Prop :=
  ∃ a b : PrC, e = .returned (.tuple #[prV a, prV b, .bool r.2.2]) ∧ a.v = r.1 ∧ b.v = r.2.1 ∧ (∀ w0, PrOk w0 x → PrOk w0 y → PrOk w0 a ∧ PrOk w0 b) ∧ Later w w'
/-- What Swap tells. -/
def swapR (o : Option (Pr × Pr)) : Pr × Pr × Bool := match o with | some r => (r.1, r.2, true) | none => noneP

theorem results_two {P : Program} {fn : Func} {p q u : Tmp} {ty : TypeId} (h : fn.results = #[.cell p ty, .cell q ty, .tmp u]) (tmps : Array Value) (w : World) (g k : Nat) (t s : TypeId) (cs ds : Array Value) (fr gr : Nat × Nat) (d : TypeDesc) (v : Value)
    (hp : tmps.getD p undef = .pointer (some ⟨g, 0, none⟩)) (hq : tmps.getD q undef = .pointer (some ⟨k, 0, none⟩)) (hv : tmps.getD u undef = v) (hg : w.heap[g]? = some (.cells cs t fr)) (hk : w.heap[k]? = some (.cells ds s gr))
    (hu : P.underlying ty = some d) (hd : (match d with | .struct _ | .array _ _ => true | _ => false) = true) (hi : (P.info? ty).map (·.size) = some cs.size) (hj : (P.info? ty).map (·.size) = some ds.size) :
    (results fn tmps).run P w = .ok (.tuple #[.agg cs, .agg ds, v]) w := by
  have hp' : tmps[p]?.getD undef = .pointer (some ⟨g, 0, none⟩) := by simpa using hp
  have hq' : tmps[q]?.getD undef = .pointer (some ⟨k, 0, none⟩) := by simpa using hq
  have hv' : tmps[u]?.getD undef = v := by simpa using hv
  simp [results, h, hp', hq', hv', asAddr, run_loadVar_row w g t ty cs fr d hg hu hd hi, run_loadVar_row w k s ty ds gr d hk hu hd hj]

set_option maxRecDepth 100000 in
theorem growth_any (x : PrC) (w : World) (hx : PrOk w x) :
    Calls Try.prog 27 #[prV x] w fun e w' => e = .returned (.int .i64 ((x.m : Int) - x.n)) ∧ Later w w' := by
  have hlb : Later w (w.alloc (.cells #[.int .i64 x.v.kind, .string x.v.name, .string x.v.to, .int .i64 x.v.place, .slice x.A x.n x.c, .slice x.B x.m x.d] 28)) := (Later.refl w).alloc _
  have h1 := hx.omost; have h2 := hx.nmost
  clear hx
  unfold prV
  go_enter Try.func27, Try.ntmps27
  go_wp2
  go_ret
  exact ⟨by go_num, hlb⟩

end Go.Proofs.Ytnhhdjcbifmfgaa

/-
  What swap's turnHunkAndMove comes to, as a call.
-/
namespace Go.Proofs.Ytnhhdjcbifmfgaa
open Go.RowKit Go.Maps

theorem four_boxes (w : World) (a b c d : Array Value) (t : TypeId) : BoxAt ((((w.alloc (.cells a t)).alloc (.cells b t)).alloc (.cells c t)).alloc (.cells d t)) w.heap.size a t ∧ BoxAt ((((w.alloc (.cells a t)).alloc (.cells b t)).alloc (.cells c t)).alloc (.cells d t)) (w.heap.size + 1) b t ∧
    BoxAt ((((w.alloc (.cells a t)).alloc (.cells b t)).alloc (.cells c t)).alloc (.cells d t)) (w.heap.size + 1 + 1) c t ∧ BoxAt ((((w.alloc (.cells a t)).alloc (.cells b t)).alloc (.cells c t)).alloc (.cells d t)) (w.heap.size + 1 + 1 + 1) d t ∧ Later w ((((w.alloc (.cells a t)).alloc (.cells b t)).alloc (.cells c t)).alloc (.cells d t)) := by
  refine ⟨(((BoxAt.made w a t).alloc _).alloc _).alloc _, ?_, ?_, ?_, ((((Later.refl w).alloc _).alloc _).alloc _).alloc _⟩
  · have := ((BoxAt.made (w.alloc (.cells a t)) b t).alloc (.cells c t)).alloc (.cells d t)
    simpa using this
  · have := (BoxAt.made ((w.alloc (.cells a t)).alloc (.cells b t)) c t).alloc (.cells d t)
    simpa using this
  · have := BoxAt.made (((w.alloc (.cells a t)).alloc (.cells b t)).alloc (.cells c t)) d t
    simpa using this

set_option maxRecDepth 100000 in
set_option maxHeartbeats 800000 in
theorem turnHM_any (x y : PrC) (w : World) (hx : PrOk w x) (hy : PrOk w y) :
    Calls Try.prog 21 #[prV x, prV y] w (GivesW x y (turnHM x.v y.v) w) := by
  have HX := Lib.hid hx; have HY := Lib.hid hy
  clear hx hy
  obtain ⟨⟨kd, nm, to, pl, old, new⟩, A, n, c, B, m, d⟩ := x
  obtain ⟨⟨ke, nn, tt, pk, pold, pnew⟩, C, i, e, D, j, f⟩ := y
  unfold prV turnHM
  dsimp only at *
  by_cases h1 : nm = tt
  · subst h1
    rw [if_pos rfl]
    go_enter Try.func21, Try.ntmps21
    go_wp2
    obtain ⟨_, _, b2, b3, hl⟩ := four_boxes w _ _ _ _ 28
    exact bodyPost_ret (results_two rfl _ _ _ _ _ _ _ _ _ _ _ _ rfl rfl rfl b2 b3 Try.underlying28 rfl Try.primSize Try.primSize) rfl ⟨zeroC, zeroC, rfl, rfl, rfl, (fun _ _ _ => ⟨zeroC_ok _, zeroC_ok _⟩), hl⟩
  · rw [if_neg h1]
    by_cases h2 : nm = nn
    · subst h2
      rw [if_pos rfl]
      have t1 := text_ne h1
      go_enter Try.func21, Try.ntmps21
      go_upto_region 6 with fail
      go_region
      go_wp2
      obtain ⟨_, _, b2, b3, hl⟩ := four_boxes w _ _ _ _ 28
      exact bodyPost_ret (results_two rfl _ _ _ _ _ _ _ _ _ _ _ _ rfl rfl rfl (b2.later (Later.refl _).drew) (b3.later (Later.refl _).drew) Try.underlying28 rfl Try.primSize Try.primSize) rfl
        ⟨⟨⟨ke, nm, tt, pk, pold, pnew⟩, C, i, e, D, j, f⟩, inC ⟨⟨kd, nm, to, pl, old, new⟩, A, n, c, B, m, d⟩ tt, rfl, rfl, rfl, (fun _ hx9 hy9 => ⟨hy9, (inC_ok hx9 hy9.to)⟩), hl.drew⟩
    · rw [if_neg h2]
      have t1 := text_ne h1
      have t2 := text_ne h2
      go_enter Try.func21, Try.ntmps21
      go_upto_region 6 with fail
      go_region
      go_wp2
      obtain ⟨_, _, b2, b3, hl⟩ := four_boxes w _ _ _ _ 28
      exact bodyPost_ret (results_two rfl _ _ _ _ _ _ _ _ _ _ _ _ rfl rfl rfl (b2.later (Later.refl _).drew) (b3.later (Later.refl _).drew) Try.underlying28 rfl Try.primSize Try.primSize) rfl
        ⟨⟨⟨ke, nn, tt, pk, pold, pnew⟩, C, i, e, D, j, f⟩, ⟨⟨kd, nm, to, pl, old, new⟩, A, n, c, B, m, d⟩, rfl, rfl, rfl, (fun _ hx9 hy9 => ⟨hy9, hx9⟩), hl.drew⟩

end Go.Proofs.Ytnhhdjcbifmfgaa

/-
  What swap's turnMoveAndHunk comes to, as a call.
-/
namespace Go.Proofs.Ytnhhdjcbifmfgaa
open Go.RowKit Go.Maps

set_option maxRecDepth 100000 in
set_option maxHeartbeats 800000 in
theorem turnMH_any (x y : PrC) (w : World) (hx : PrOk w x) (hy : PrOk w y) :
    Calls Try.prog 22 #[prV x, prV y] w (GivesW x y (turnMH x.v y.v) w) := by
  have HX := Lib.hid hx; have HY := Lib.hid hy
  clear hx hy
  obtain ⟨⟨kd, nm, to, pl, old, new⟩, A, n, c, B, m, d⟩ := x
  obtain ⟨⟨ke, nn, tt, pk, pold, pnew⟩, C, i, e, D, j, f⟩ := y
  unfold prV turnMH
  dsimp only at *
  by_cases h1 : nn = nm
  · subst h1
    rw [if_pos rfl]
    go_enter Try.func22, Try.ntmps22
    go_wp2
    obtain ⟨_, _, b2, b3, hl⟩ := four_boxes w _ _ _ _ 28
    exact bodyPost_ret (results_two rfl _ _ _ _ _ _ _ _ _ _ _ _ rfl rfl rfl b2 b3 Try.underlying28 rfl Try.primSize Try.primSize) rfl ⟨zeroC, zeroC, rfl, rfl, rfl, (fun _ _ _ => ⟨zeroC_ok _, zeroC_ok _⟩), hl⟩
  · rw [if_neg h1]
    by_cases h2 : nn = to
    · subst h2
      rw [if_pos rfl]
      have t1 := text_ne h1
      go_enter Try.func22, Try.ntmps22
      go_upto_region 6 with fail
      go_region
      go_wp2
      obtain ⟨_, _, b2, b3, hl⟩ := four_boxes w _ _ _ _ 28
      exact bodyPost_ret (results_two rfl _ _ _ _ _ _ _ _ _ _ _ _ rfl rfl rfl (b2.later (Later.refl _).drew) (b3.later (Later.refl _).drew) Try.underlying28 rfl Try.primSize Try.primSize) rfl
        ⟨inC ⟨⟨ke, nn, tt, pk, pold, pnew⟩, C, i, e, D, j, f⟩ nm, ⟨⟨kd, nm, nn, pl, old, new⟩, A, n, c, B, m, d⟩, rfl, rfl, rfl, (fun _ hx9 hy9 => ⟨(inC_ok hy9 hx9.name), hx9⟩), hl.drew⟩
    · rw [if_neg h2]
      have t1 := text_ne h1
      have t2 := text_ne h2
      go_enter Try.func22, Try.ntmps22
      go_upto_region 6 with fail
      go_region
      go_wp2
      obtain ⟨_, _, b2, b3, hl⟩ := four_boxes w _ _ _ _ 28
      exact bodyPost_ret (results_two rfl _ _ _ _ _ _ _ _ _ _ _ _ rfl rfl rfl (b2.later (Later.refl _).drew) (b3.later (Later.refl _).drew) Try.underlying28 rfl Try.primSize Try.primSize) rfl
        ⟨⟨⟨ke, nn, tt, pk, pold, pnew⟩, C, i, e, D, j, f⟩, ⟨⟨kd, nm, to, pl, old, new⟩, A, n, c, B, m, d⟩, rfl, rfl, rfl, (fun _ hx9 hy9 => ⟨hy9, hx9⟩), hl.drew⟩

end Go.Proofs.Ytnhhdjcbifmfgaa
