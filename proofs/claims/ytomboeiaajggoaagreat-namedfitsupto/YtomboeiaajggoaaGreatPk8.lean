import Derived.Test.YtomboeiaajggoaaGreatPk5
import Derived.Test.YtomboeiaajggoaaGreatPk7
import Derived.Deep.LoopGhost
import Derived.Deep.QuietTactic
import Derived.BigQuiet
import Derived.Lib.Hide
import Derived.Test.YtomboeiaajggoaaGreatPk6
import Derived.Test.YtomboeiaajggoaaGreatPk3

/-
  What prim's changesLines and hasNoLines come to, as calls.
-/
namespace Go.Proofs.YtomboeiaajggoaaGreat
open Go.RowKit

set_option maxHeartbeats 400000 in
theorem changes_any (x : PrC) (w : World) (hx : PrOk w x) :
    Calls Tryz.prog 100 #[prV x] w (Says (allB x.v.old && allB x.v.new && !sameB x.v.old x.v.new) w) := by
  obtain ⟨⟨kd, nm, to, pl, old, new⟩, A, n, c, B, m, d⟩ := x
  unfold prV
  dsimp only
  have hlb : Later w (w.alloc (.cells #[.int .i64 kd, .string nm, .string to, .int .i64 pl, .slice A n c, .slice B m d] 69)) := (Later.refl w).alloc _
  have H1 := Lib.hid (all_any A n c old _ (hx.old.later hlb) hx.omost hx.olds)
  have H2 := Lib.hid (all_any B m d new _ (hx.new.later hlb) hx.nmost hx.news)
  have H3 := Lib.hid (same_any A B n c m d old new _ (hx.old.later hlb) (hx.new.later hlb) hx.omost hx.nmost)
  have HLB := Lib.hid hlb
  clear hx hlb
  cases h1 : allB old
  · rw [h1] at H1
    go_enter Tryz.func100, Tryz.ntmps100
    go_wp2_with fail
    refine H1.out.mono ?_
    rintro e w1 ⟨rfl, rfl⟩
    go_wp2
    go_ret
    exact ⟨rfl, HLB.out⟩
  · rw [h1] at H1
    cases h2 : allB new
    · rw [h2] at H2
      go_enter Tryz.func100, Tryz.ntmps100
      go_wp2_with fail
      refine H1.out.mono ?_
      rintro e w1 ⟨rfl, rfl⟩
      go_wp2_with fail
      refine H2.out.mono ?_
      rintro e w1 ⟨rfl, rfl⟩
      go_wp2
      go_ret
      exact ⟨rfl, HLB.out⟩
    · rw [h2] at H2
      generalize sameB old new = b at H3 ⊢
      go_enter Tryz.func100, Tryz.ntmps100
      go_wp2_with fail
      refine H1.out.mono ?_
      rintro e w1 ⟨rfl, rfl⟩
      go_wp2_with fail
      refine H2.out.mono ?_
      rintro e w1 ⟨rfl, rfl⟩
      go_wp2_with fail
      refine H3.out.mono ?_
      rintro e w1 ⟨rfl, q, rfl⟩
      go_wp2
      go_ret
      exact ⟨rfl, HLB.out.drewN q⟩

/-- No place, no lines. -/
def bareP (p : Pr) : Bool := decide (p.place = 0) && decide (p.old = []) && decide (p.new = [])

set_option maxHeartbeats 400000 in
theorem bare_any (x : PrC) (w : World) (hx : PrOk w x) :
    Calls Tryz.prog 101 #[prV x] w (Says (bareP x.v) w) := by
  obtain ⟨⟨kd, nm, to, pl, old, new⟩, A, n, c, B, m, d⟩ := x
  unfold prV
  dsimp only
  have hlb : Later w (w.alloc (.cells #[.int .i64 kd, .string nm, .string to, .int .i64 pl, .slice A n c, .slice B m d] 69)) := (Later.refl w).alloc _
  have HLB := Lib.hid hlb
  have hn := hx.old.len
  have hm := hx.new.len
  have hn1 := hx.omost
  have hm1 := hx.nmost
  dsimp only at hn hm hn1 hm1
  clear hx hlb
  by_cases h0 : pl = 0
  · subst h0
    by_cases h1 : n = 0
    · have e1 : old = [] := List.eq_nil_of_length_eq_zero (hn.trans h1)
      by_cases h2 : m = 0
      · have e2 : new = [] := List.eq_nil_of_length_eq_zero (hm.trans h2)
        have E : Hid (bareP ⟨kd, nm, to, 0, old, new⟩ = true) := by simp [Hid, bareP, e1, e2]
        subst h1 h2
        clear e1 e2
        go_enter Tryz.func101, Tryz.ntmps101
        go_wp2
        go_ret
        exact ⟨ret_bool E.out.symm, HLB.out⟩
      · have e2 : new ≠ [] := by rintro rfl; exact h2 hm.symm
        have E : Hid (bareP ⟨kd, nm, to, 0, old, new⟩ = false) := by simp [Hid, bareP, e2]
        subst h1
        have h2' : ¬ (m : Int) = 0 := by omega
        clear e1 e2
        go_enter Tryz.func101, Tryz.ntmps101
        go_wp2
        go_ret
        exact ⟨by rw [E.out]; simp [h2], HLB.out⟩
    · have e1 : old ≠ [] := by rintro rfl; exact h1 hn.symm
      have E : Hid (bareP ⟨kd, nm, to, 0, old, new⟩ = false) := by simp [Hid, bareP, e1]
      have h1' : ¬ (n : Int) = 0 := by omega
      clear e1
      go_enter Tryz.func101, Tryz.ntmps101
      go_wp2
      go_ret
      exact ⟨ret_bool E.out.symm, HLB.out⟩
  · have E : Hid (bareP ⟨kd, nm, to, pl, old, new⟩ = false) := by simp [Hid, bareP, h0]
    go_enter Tryz.func101, Tryz.ntmps101
    go_wp2
    go_ret
    exact ⟨ret_bool E.out.symm, HLB.out⟩

end Go.Proofs.YtomboeiaajggoaaGreat

/-
  What prim's Right comes to, as a call.
-/
namespace Go.Proofs.YtomboeiaajggoaaGreat
open Go.RowKit

theorem rightP_hunk (nm to : ByteArray) (pl : Int) (old new : List ByteArray) (hn : namedB nm = true) : rightP ⟨0, nm, to, pl, old, new⟩ = (decide (to = ByteArray.empty) && decide (0 ≤ pl ∧ pl ≤ 1048576) && (allB old && allB new && !sameB old new)) := by
  simp only [rightP, hn, Bool.true_and, if_true, Bool.and_assoc]
theorem rightP_one (k : Int) (nm to : ByteArray) (pl : Int) (old new : List ByteArray) (hn : namedB nm = true) (hk : k = 1 ∨ k = 2) : rightP ⟨k, nm, to, pl, old, new⟩ = (decide (to = ByteArray.empty) && bareP ⟨k, nm, to, pl, old, new⟩) := by
  have h0 : k ≠ 0 := by omega
  have h3 : k ≠ 3 := by omega
  simp only [rightP, bareP, hn, Bool.true_and, if_neg h0, if_neg h3, decide_eq_true hk]
  rw [Bool.and_comm]
theorem rightP_move (nm to : ByteArray) (pl : Int) (old new : List ByteArray) (hn : namedB nm = true) : rightP ⟨3, nm, to, pl, old, new⟩ = (namedB to && (decide (to ≠ nm) && bareP ⟨3, nm, to, pl, old, new⟩)) := by
  simp only [rightP, bareP, hn, Bool.true_and, Int.reduceEq, if_false, if_true]
  rw [Bool.and_comm, Bool.and_assoc]
theorem rightP_none (k : Int) (nm to : ByteArray) (pl : Int) (old new : List ByteArray) (h0 : k ≠ 0) (h1 : k ≠ 1) (h2 : k ≠ 2) (h3 : k ≠ 3) : rightP ⟨k, nm, to, pl, old, new⟩ = false := by
  simp [rightP, h0, h1, h2, h3]
theorem rightP_name (k : Int) (nm to : ByteArray) (pl : Int) (old new : List ByteArray) (hn : namedB nm = false) : rightP ⟨k, nm, to, pl, old, new⟩ = false := by
  simp [rightP, hn]

set_option maxRecDepth 100000 in
set_option maxHeartbeats 800000 in
theorem primRight_any (x : PrC) (w : World) (hx : PrOk w x) :
    Calls Tryz.prog 86 #[prV x] w (Says (rightP x.v) w) := by
  have hlb0 : Later w (w.alloc (.cells #[.int .i64 x.v.kind, .string x.v.name, .string x.v.to, .int .i64 x.v.place, .slice x.A x.n x.c, .slice x.B x.m x.d] 69)) := (Later.refl w).alloc _
  have HC := Lib.hid (changes_any x _ (hx.later hlb0))
  have HB := Lib.hid (bare_any x _ (hx.later hlb0))
  obtain ⟨⟨kd, nm, to, pl, old, new⟩, A, n, c, B, m, d⟩ := x
  have hn := named_any nm (w.alloc (.cells #[.int .i64 kd, .string nm, .string to, .int .i64 pl, .slice A n c, .slice B m d] 69)) hx.name
  have ht := named_any to (w.alloc (.cells #[.int .i64 kd, .string nm, .string to, .int .i64 pl, .slice A n c, .slice B m d] 69)) hx.to
  have HLB := Lib.hid hlb0
  unfold prV at HC HB ⊢
  dsimp only at HC HB HLB ⊢
  clear hx hlb0
  cases h1 : namedB nm
  · rw [h1] at hn
    have HN := Lib.hid hn
    rw [rightP_name kd nm to pl old new h1]
    clear hn ht h1
    go_enter Tryz.func86, Tryz.ntmps86
    go_wp2_with fail
    refine HN.out.mono ?_
    rintro e w1 ⟨rfl, rfl⟩
    go_wp2
    go_ret
    exact ⟨rfl, HLB.out⟩
  rw [h1] at hn
  have HN := Lib.hid hn
  have HT := Lib.hid ht
  clear hn ht
  by_cases k0 : kd = 0
  · subst k0
    rw [rightP_hunk nm to pl old new h1]
    clear h1
    by_cases h2 : to = ByteArray.empty
    · subst h2
      by_cases h3 : 0 ≤ pl
      · by_cases h4 : pl ≤ 1048576
        · rw [decide_eq_true (show 0 ≤ pl ∧ pl ≤ 1048576 from ⟨h3, h4⟩), decide_eq_true (rfl : ByteArray.empty = ByteArray.empty), Bool.true_and, Bool.true_and]
          generalize (allB old && allB new && !sameB old new) = b at HC ⊢
          go_enter Tryz.func86, Tryz.ntmps86
          go_wp2_with fail
          refine HN.out.mono ?_
          rintro e w1 ⟨rfl, rfl⟩
          go_wp2_with fail
          refine HC.out.mono ?_
          rintro e w1 ⟨rfl, hl1⟩
          have HL1 := Lib.hid hl1; clear hl1
          go_wp2
          go_ret
          exact ⟨rfl, HLB.out.trans HL1.out⟩
        · have e : ¬ (0 ≤ pl ∧ pl ≤ 1048576) := fun h => h4 h.2
          rw [decide_eq_false e, Bool.and_false, Bool.false_and]
          clear e
          go_enter Tryz.func86, Tryz.ntmps86
          go_wp2_with fail
          refine HN.out.mono ?_
          rintro e w1 ⟨rfl, rfl⟩
          go_wp2
          go_ret
          exact ⟨rfl, HLB.out⟩
      · have e : ¬ (0 ≤ pl ∧ pl ≤ 1048576) := fun h => h3 h.1
        rw [decide_eq_false e, Bool.and_false, Bool.false_and]
        clear e
        go_enter Tryz.func86, Tryz.ntmps86
        go_wp2_with fail
        refine HN.out.mono ?_
        rintro e w1 ⟨rfl, rfl⟩
        go_wp2
        go_ret
        exact ⟨rfl, HLB.out⟩
    · have hb := list_ne h2
      rw [decide_eq_false h2, Bool.false_and, Bool.false_and]
      go_enter Tryz.func86, Tryz.ntmps86
      go_wp2_with fail
      refine HN.out.mono ?_
      rintro e w1 ⟨rfl, rfl⟩
      go_wp2
      go_ret
      exact ⟨rfl, HLB.out⟩
  by_cases k12 : kd = 1 ∨ kd = 2
  · rw [rightP_one kd nm to pl old new h1 k12]
    clear h1
    by_cases h2 : to = ByteArray.empty
    · subst h2
      rw [decide_eq_true (rfl : ByteArray.empty = ByteArray.empty), Bool.true_and]
      generalize bareP ⟨kd, nm, ByteArray.empty, pl, old, new⟩ = b at HB ⊢
      rcases k12 with rfl | rfl
      all_goals
        go_enter Tryz.func86, Tryz.ntmps86
        go_wp2_with fail
        refine HN.out.mono ?_
        rintro e w1 ⟨rfl, rfl⟩
        go_wp2_with fail
        refine HB.out.mono ?_
        rintro e w1 ⟨rfl, hl1⟩
        have HL1 := Lib.hid hl1; clear hl1
        go_wp2
        go_ret
        exact ⟨rfl, HLB.out.trans HL1.out⟩
    · have hb := list_ne h2
      rw [decide_eq_false h2, Bool.false_and]
      rcases k12 with rfl | rfl
      all_goals
        go_enter Tryz.func86, Tryz.ntmps86
        go_wp2_with fail
        refine HN.out.mono ?_
        rintro e w1 ⟨rfl, rfl⟩
        go_wp2
        go_ret
        exact ⟨rfl, HLB.out⟩
  by_cases k3 : kd = 3
  · subst k3
    rw [rightP_move nm to pl old new h1]
    clear h1 k0 k12
    cases h2 : namedB to
    · rw [h2] at HT
      rw [Bool.false_and]
      go_enter Tryz.func86, Tryz.ntmps86
      go_wp2_with fail
      refine HN.out.mono ?_
      rintro e w1 ⟨rfl, rfl⟩
      go_wp2_with fail
      refine HT.out.mono ?_
      rintro e w1 ⟨rfl, rfl⟩
      go_wp2
      go_ret
      exact ⟨rfl, HLB.out⟩
    · rw [h2] at HT
      rw [Bool.true_and]
      clear h2
      by_cases h3 : to = nm
      · subst h3
        rw [decide_eq_false (fun h : to ≠ to => h rfl), Bool.false_and]
        go_enter Tryz.func86, Tryz.ntmps86
        go_wp2_with fail
        refine HN.out.mono ?_
        rintro e w1 ⟨rfl, rfl⟩
        go_wp2_with fail
        refine HT.out.mono ?_
        rintro e w1 ⟨rfl, rfl⟩
        go_wp2
        go_ret
        exact ⟨rfl, HLB.out⟩
      · rw [decide_eq_true h3, Bool.true_and]
        have hb := text_ne h3
        generalize bareP ⟨3, nm, to, pl, old, new⟩ = b at HB ⊢
        go_enter Tryz.func86, Tryz.ntmps86
        go_wp2_with fail
        refine HN.out.mono ?_
        rintro e w1 ⟨rfl, rfl⟩
        go_wp2_with fail
        refine HT.out.mono ?_
        rintro e w1 ⟨rfl, rfl⟩
        go_wp2_with fail
        refine HB.out.mono ?_
        rintro e w1 ⟨rfl, hl1⟩
        have HL1 := Lib.hid hl1; clear hl1
        go_wp2
        go_ret
        exact ⟨rfl, HLB.out.trans HL1.out⟩
  · have k1 : kd ≠ 1 := fun h => k12 (.inl h)
    have k2 : kd ≠ 2 := fun h => k12 (.inr h)
    rw [rightP_none kd nm to pl old new k0 k1 k2 k3]
    clear h1 k12
    go_enter Tryz.func86, Tryz.ntmps86
    go_wp2_with fail
    refine HN.out.mono ?_
    rintro e w1 ⟨rfl, rfl⟩
    go_wp2
    go_ret
    exact ⟨rfl, HLB.out⟩

end Go.Proofs.YtomboeiaajggoaaGreat

/-
  Prims as values, and what calls on them tell.
-/
namespace Go.Proofs.YtomboeiaajggoaaGreat
open Go.RowKit Go.Maps

/-- The value is this prim, and its rows stand there. -/
def PrimAt (w : World) (v : Value) (p : Pr) : Prop := ∃ x : PrC, v = prV x ∧ x.v = p ∧ PrOk w x
theorem PrimAt.later {w w' : World} {v : Value} {p : Pr} (h : PrimAt w v p) (hl : Later w w') : PrimAt w' v p := by
  obtain ⟨x, e1, e2, e3⟩ := h; exact ⟨x, e1, e2, e3.later hl⟩
theorem PrOk.at {w : World} {x : PrC} (h : PrOk w x) : PrimAt w (prV x) x.v := ⟨x, rfl, rfl, h⟩
def GivesP (p : Pr) (w : World) (e : Ending) (w' : World) : Prop := ∃ v, e = .returned v ∧ PrimAt w' v p ∧ Later w w'

/-- Nothing of the prim is too great. -/
structure Mild (p : Pr) : Prop where
  omost : p.old.length ≤ 65536
  nmost : p.new.length ≤ 65536
  name : p.name.size ≤ maxLen
  to : p.to.size ≤ maxLen
  lo : -9223372036854775808 ≤ p.place
  hi : p.place ≤ 9223372036854775807
  olds : ∀ s ∈ p.old, s.size ≤ maxLen
  news : ∀ s ∈ p.new, s.size ≤ maxLen
theorem PrOk.mild {w : World} {x : PrC} (h : PrOk w x) : Mild x.v := ⟨by rw [h.old.len]; exact h.omost, by rw [h.new.len]; exact h.nmost, h.name, h.to, h.lo, h.hi, h.olds, h.news⟩
theorem Mild.invert {p : Pr} (h : Mild p) : Mild (invertP p) := by
  unfold invertP
  split
  · exact ⟨h.nmost, h.omost, h.name, h.to, h.lo, h.hi, h.news, h.olds⟩
  split
  · exact ⟨h.omost, h.nmost, h.name, h.to, h.lo, h.hi, h.olds, h.news⟩
  split
  · exact ⟨h.omost, h.nmost, h.name, h.to, h.lo, h.hi, h.olds, h.news⟩
  split
  · exact ⟨h.omost, h.nmost, h.to, h.name, h.lo, h.hi, h.olds, h.news⟩
  · exact h
theorem IsPr.at {p : Pr} {w w' : World} {u v : Value} (h : IsPr p w w' u v) (hm : Mild p) : PrimAt w' (.agg #[.int .i64 p.kind, .string p.name, .string p.to, .int .i64 p.place, u, v]) p := by
  obtain ⟨x, e1, e2, e3⟩ := h.ok hm.omost hm.nmost hm.name hm.to hm.lo hm.hi hm.olds hm.news
  exact ⟨x, e2, e1, e3⟩
theorem GivesPr.at {p : Pr} {w w' : World} {e : Ending} (h : GivesPr p w e w') (hm : Mild p) : GivesP p w e w' := by
  obtain ⟨u, v, rfl, hp⟩ := h
  exact ⟨_, rfl, hp.at hm, hp.later⟩

section
variable {w : World} {v u : Value} {p q : Pr}
theorem right_v (h : PrimAt w v p) : Calls Tryz.prog 86 #[v] w (Says (rightP p) w) := by
  obtain ⟨x, rfl, rfl, hx⟩ := h; exact primRight_any x w hx
theorem same_v (h : PrimAt w v p) (k : PrimAt w u q) : Calls Tryz.prog 82 #[v, u] w (Says (sameP p q) w) := by
  obtain ⟨x, rfl, rfl, hx⟩ := h; obtain ⟨y, rfl, rfl, hy⟩ := k; exact primSame_any x y w hx hy
theorem invert_v (h : PrimAt w v p) : Calls Tryz.prog 79 #[v] w (GivesP (invertP p) w) := by
  obtain ⟨x, rfl, rfl, hx⟩ := h; exact (primInvert_any x w hx).mono fun e w' he => GivesPr.at he hx.mild.invert
theorem clone_v (h : PrimAt w v p) : Calls Tryz.prog 51 #[v] w (GivesP p w) := by
  obtain ⟨x, rfl, rfl, hx⟩ := h; exact (primClone_any x w hx).mono fun e w' he => GivesPr.at he hx.mild
end

/-- A row of one prim, or of two, written out. -/
theorem prims_one {w w0 : World} {x : PrC} (hx : CameP w x) (hl : Later w w0) (t : TypeId) : Prims (w0.alloc (.cells #[.int .i64 x.v.kind, .string x.v.name, .string x.v.to, .int .i64 x.v.place, .slice x.A x.n x.c, .slice x.B x.m x.d] t)) (some ⟨w0.heap.size, 0, none⟩) 1 [x] :=
  ⟨RowK.one w0 (prL x) t, fun y hy => by simp at hy; subst hy; exact hx.later (hl.alloc _)⟩
theorem weightPs_one (x : PrC) : weightPs [x] = weightP x.v := by simp [weightPs]

end Go.Proofs.YtomboeiaajggoaaGreat

/-
  What stands in memory while a statement that swaps two prims, and keeps both, goes on in whatever order.
-/
namespace Go.Proofs.YtomboeiaajggoaaGreat
open Go.RowKit Go.Maps

/-- No row of the prim lies in block g. -/
def Away (g : Nat) (x : PrC) : Prop := (x.v.old ≠ [] → Off g (.slice x.A x.n x.c)) ∧ (x.v.new ≠ [] → Off g (.slice x.B x.m x.d))
/-- Its rows lie behind all that was there. -/
def Fresh (w : World) (x : PrC) : Prop := (∀ k, (Value.slice x.A x.n x.c).ownBlock = some k → w.heap.size ≤ k) ∧ (∀ k, (Value.slice x.B x.m x.d).ownBlock = some k → w.heap.size ≤ k)
theorem PrOk.off {w w' : World} {g : Nat} {x : PrC} (h : PrOk w x) (hg : Turned g w w') (ha : Away g x) : PrOk w' x :=
  ⟨h.old.off (c := x.c) hg ha.1, h.new.off (c := x.d) hg ha.2, h.oroom, h.nroom, h.omost, h.nmost, h.name, h.to, h.lo, h.hi, h.olds, h.news⟩
theorem Row.awayG {w : World} {A : Option Addr} {n c g : Nat} {l : List ByteArray} (h : Row w A n l) (hg : w.heap.size ≤ g) (hl : l ≠ []) : Off g (.slice A n c) := by
  have hn : 0 < n := by
    have := h.1
    cases l with
    | nil => exact absurd rfl hl
    | cons s l => simp at this; omega
  obtain ⟨b, o, rfl, hc⟩ := h.2 hn
  cases l with
  | nil => exact absurd rfl hl
  | cons s l =>
    have h1 := lt_of_cell (hc 0 s rfl)
    intro e
    simp only [Value.ownBlock, Option.some.injEq] at e
    dsimp only at h1
    omega
theorem PrOk.away {w : World} {x : PrC} {g : Nat} (h : PrOk w x) (hg : w.heap.size ≤ g) : Away g x := ⟨h.old.awayG hg, h.new.awayG hg⟩
theorem Fresh.away {w : World} {x : PrC} {g : Nat} (h : Fresh w x) (hg : g < w.heap.size) : Away g x :=
  ⟨fun _ e => by have := h.1 g e; omega, fun _ e => by have := h.2 g e; omega⟩

/-- What the statement has made. -/
structure Dat where
  i : PrC
  j : PrC
  c : PrC
  d : PrC
  g8 : Nat
  g9 : Nat

/-- By which operations have come: two that are undone, the swap, two blocks, two stores. -/
structure Wd (wx : World) (p q r s : Pr) (bi bj bs b8 b9 bt bu : Bool) (D : Dat) (w : World) : Prop where
  later : Later wx w
  wi : bi = true → bs = false → D.i.v = p ∧ PrOk w D.i
  wj : bj = true → bs = false → D.j.v = q ∧ PrOk w D.j
  wc : bs = true → D.c.v = r ∧ D.d.v = s ∧ PrOk w D.c ∧ PrOk w D.d
  w8 : b8 = true → wx.heap.size ≤ D.g8 ∧ ∃ cs, cs.size = 6 ∧ BoxAt w D.g8 cs 69 ∧ (bt = true → cs = (prL D.c).toArray)
  w9 : b9 = true → wx.heap.size ≤ D.g9 ∧ ∃ cs, cs.size = 6 ∧ BoxAt w D.g9 cs 69 ∧ (bu = true → cs = (prL D.d).toArray)
  n : b8 = true → b9 = true → D.g8 ≠ D.g9
  a8 : bs = true → b8 = true → Away D.g8 D.c ∧ Away D.g8 D.d
  a9 : bs = true → b9 = true → Away D.g9 D.c ∧ Away D.g9 D.d

section
variable {wx w w' : World} {p q r s : Pr} {bi bj bs b8 b9 bt bu : Bool} {D : Dat}
theorem Wd.start (D : Dat) (hl : Later wx w) : Wd wx p q r s false false false false false false false D w :=
  ⟨hl, (fun h => by cases h), (fun h => by cases h), (fun h => by cases h), (fun h => by cases h), (fun h => by cases h), (fun h => by cases h), (fun h => by cases h), (fun h => by cases h)⟩
theorem Wd.on (h : Wd wx p q r s bi bj bs b8 b9 bt bu D w) (hl : Later w w') : Wd wx p q r s bi bj bs b8 b9 bt bu D w' :=
  ⟨h.later.trans hl, fun e f => ⟨(h.wi e f).1, (h.wi e f).2.later hl⟩, fun e f => ⟨(h.wj e f).1, (h.wj e f).2.later hl⟩, fun e => ⟨(h.wc e).1, (h.wc e).2.1, (h.wc e).2.2.1.later hl, (h.wc e).2.2.2.later hl⟩,
    (fun e => by obtain ⟨h1, cs, h2, h3, h4⟩ := h.w8 e; exact ⟨h1, cs, h2, h3.later hl, h4⟩), (fun e => by obtain ⟨h1, cs, h2, h3, h4⟩ := h.w9 e; exact ⟨h1, cs, h2, h3.later hl, h4⟩), h.n, h.a8, h.a9⟩
theorem Wd.inv1 (h : Wd wx p q r s bi bj bs b8 b9 bt bu D w) (hl : Later w w') {i : PrC} (hv : i.v = p) (ho : PrOk w' i) : Wd wx p q r s true bj bs b8 b9 bt bu { D with i := i } w' :=
  { h.on hl with wi := fun _ _ => ⟨hv, ho⟩ }
theorem Wd.inv2 (h : Wd wx p q r s bi bj bs b8 b9 bt bu D w) (hl : Later w w') {j : PrC} (hv : j.v = q) (ho : PrOk w' j) : Wd wx p q r s bi true bs b8 b9 bt bu { D with j := j } w' :=
  { h.on hl with wj := fun _ _ => ⟨hv, ho⟩ }
theorem Wd.swap (h : Wd wx p q r s bi bj false b8 b9 false false D w) (hl : Later w w') {c d : PrC} (hc : c.v = r) (hd : d.v = s) (oc : PrOk w' c) (od : PrOk w' d) (fc : Fresh w c) (fd : Fresh w d) : Wd wx p q r s bi bj true b8 b9 false false { D with c := c, d := d } w' :=
  { h.on hl with
    wi := fun _ e => by cases e
    wj := fun _ e => by cases e
    wc := fun _ => ⟨hc, hd, oc, od⟩
    w8 := fun e => by obtain ⟨h1, cs, h2, h3, h4⟩ := (h.on hl).w8 e; exact ⟨h1, cs, h2, h3, fun e => by cases e⟩
    w9 := fun e => by obtain ⟨h1, cs, h2, h3, h4⟩ := (h.on hl).w9 e; exact ⟨h1, cs, h2, h3, fun e => by cases e⟩
    a8 := fun _ e => by obtain ⟨_, _, _, h3, _⟩ := h.w8 e; exact ⟨fc.away h3.lt, fd.away h3.lt⟩
    a9 := fun _ e => by obtain ⟨_, _, _, h3, _⟩ := h.w9 e; exact ⟨fc.away h3.lt, fd.away h3.lt⟩ }
theorem Wd.alloc8 (h : Wd wx p q r s bi bj bs false b9 false bu D w) : Wd wx p q r s bi bj bs true b9 false bu { D with g8 := w.heap.size } (w.alloc (.cells zeroL 69)) :=
  { h.on ((Later.refl w).alloc _) with
    w8 := fun _ => ⟨h.later.le, zeroL, rfl, BoxAt.made w zeroL 69, fun e => by cases e⟩
    n := fun _ e => by obtain ⟨_, _, _, h3, _⟩ := h.w9 e; have := h3.lt; show w.heap.size ≠ D.g9; omega
    a8 := fun e _ => ⟨(h.wc e).2.2.1.away (Nat.le_refl _), (h.wc e).2.2.2.away (Nat.le_refl _)⟩ }
theorem Wd.alloc9 (h : Wd wx p q r s bi bj bs b8 false bt false D w) : Wd wx p q r s bi bj bs b8 true bt false { D with g9 := w.heap.size } (w.alloc (.cells zeroL 69)) :=
  { h.on ((Later.refl w).alloc _) with
    w9 := fun _ => ⟨h.later.le, zeroL, rfl, BoxAt.made w zeroL 69, fun e => by cases e⟩
    n := fun e _ => by obtain ⟨_, _, _, h3, _⟩ := h.w8 e; have := h3.lt; show D.g8 ≠ w.heap.size; omega
    a9 := fun e _ => ⟨(h.wc e).2.2.1.away (Nat.le_refl _), (h.wc e).2.2.2.away (Nat.le_refl _)⟩ }
theorem Wd.st8 (h : Wd wx p q r s bi bj true true true bt bu D w) (hb : BoxAt w' D.g8 (prL D.c).toArray 69) (ht : Turned D.g8 w w') : Wd wx p q r s bi bj true true true true bu D w' :=
  { h with
    later := h.later.turn ht (h.w8 rfl).1
    wi := fun _ e => by cases e
    wj := fun _ e => by cases e
    wc := fun _ => ⟨(h.wc rfl).1, (h.wc rfl).2.1, (h.wc rfl).2.2.1.off ht (h.a8 rfl rfl).1, (h.wc rfl).2.2.2.off ht (h.a8 rfl rfl).2⟩
    w8 := fun _ => ⟨(h.w8 rfl).1, _, rfl, hb, fun _ => rfl⟩
    w9 := fun _ => by obtain ⟨h1, cs, h2, h3, h4⟩ := h.w9 rfl; exact ⟨h1, cs, h2, h3.other ht (Ne.symm (h.n rfl rfl)), h4⟩ }
theorem Wd.st9 (h : Wd wx p q r s bi bj true true true bt bu D w) (hb : BoxAt w' D.g9 (prL D.d).toArray 69) (ht : Turned D.g9 w w') : Wd wx p q r s bi bj true true true bt true D w' :=
  { h with
    later := h.later.turn ht (h.w9 rfl).1
    wi := fun _ e => by cases e
    wj := fun _ e => by cases e
    wc := fun _ => ⟨(h.wc rfl).1, (h.wc rfl).2.1, (h.wc rfl).2.2.1.off ht (h.a9 rfl rfl).1, (h.wc rfl).2.2.2.off ht (h.a9 rfl rfl).2⟩
    w9 := fun _ => ⟨(h.w9 rfl).1, _, rfl, hb, fun _ => rfl⟩
    w8 := fun _ => by obtain ⟨h1, cs, h2, h3, h4⟩ := h.w8 rfl; exact ⟨h1, cs, h2, h3.other ht (h.n rfl rfl), h4⟩ }
theorem Wd.swap' (h : Wd wx p q r s bi bj bs b8 b9 bt bu D w) (e1 : bs = false) (e2 : bt = false) (e3 : bu = false) (hl : Later w w') {c d : PrC} (hc : c.v = r) (hd : d.v = s) (oc : PrOk w' c) (od : PrOk w' d) (fc : Fresh w c) (fd : Fresh w d) : Wd wx p q r s bi bj true b8 b9 bt bu { D with c := c, d := d } w' := by
  subst e1 e2 e3; exact h.swap hl hc hd oc od fc fd
theorem Wd.alloc8' (h : Wd wx p q r s bi bj bs b8 b9 bt bu D w) (e1 : b8 = false) (e2 : bt = false) : Wd wx p q r s bi bj bs true b9 bt bu { D with g8 := w.heap.size } (w.alloc (.cells zeroL 69)) := by
  subst e1 e2; exact h.alloc8
theorem Wd.alloc9' (h : Wd wx p q r s bi bj bs b8 b9 bt bu D w) (e1 : b9 = false) (e2 : bu = false) : Wd wx p q r s bi bj bs b8 true bt bu { D with g9 := w.heap.size } (w.alloc (.cells zeroL 69)) := by
  subst e1 e2; exact h.alloc9
theorem Wd.st8' (h : Wd wx p q r s bi bj bs b8 b9 bt bu D w) (e1 : bs = true) (e2 : b8 = true) (e3 : b9 = true) (hb : BoxAt w' D.g8 (prL D.c).toArray 69) (ht : Turned D.g8 w w') : Wd wx p q r s bi bj bs b8 b9 true bu D w' := by
  subst e1 e2 e3; exact h.st8 hb ht
theorem Wd.st9' (h : Wd wx p q r s bi bj bs b8 b9 bt bu D w) (e1 : bs = true) (e2 : b8 = true) (e3 : b9 = true) (hb : BoxAt w' D.g9 (prL D.d).toArray 69) (ht : Turned D.g9 w w') : Wd wx p q r s bi bj bs b8 b9 bt true D w' := by
  subst e1 e2 e3; exact h.st9 hb ht
end

end Go.Proofs.YtomboeiaajggoaaGreat

/-
  Two prims in the other order, by the program's own cases, as plain values: they are the document's. Nothing of any program.
-/
namespace Go.Proofs.YtomboeiaajggoaaGreat
open Go.RowKit

def zeroPr : Pr := ⟨0, ByteArray.empty, ByteArray.empty, 0, [], []⟩
def noneP : Pr × Pr × Bool := (zeroPr, zeroPr, false)
def turnHH (p q : Pr) : Pr × Pr × Bool :=
  if p.name ≠ q.name then (q, p, true)
  else if q.place > p.place + p.new.length then (placed q (q.place - (p.new.length - p.old.length)), p, true)
  else if q.place + q.old.length < p.place then (q, placed p (p.place + (q.new.length - q.old.length)), true)
  else noneP
def turnHM (p q : Pr) : Pr × Pr × Bool := if p.name = q.to then noneP else if p.name = q.name then (q, inFile p q.to, true) else (q, p, true)
def turnMH (p q : Pr) : Pr × Pr × Bool := if q.name = p.name then noneP else if q.name = p.to then (inFile q p.name, p, true) else (q, p, true)
def turnP (p q : Pr) : Pr × Pr × Bool :=
  if p.kind = 0 ∧ q.kind = 0 then turnHH p q
  else if p.kind = 0 ∧ q.kind = 3 then turnHM p q
  else if p.kind = 3 ∧ q.kind = 0 then turnMH p q
  else (q, p, !commonP p q)
/-- What comes of three that were told, if both are right. -/
def heedP (r : Pr × Pr × Bool) : Option (Pr × Pr) := if r.2.2 = true ∧ rightP r.1 = true ∧ rightP r.2.1 = true then some (r.1, r.2.1) else none
theorem swapP_two (p q : Pr) (hp : rightP p = true) (hq : rightP q = true) : swapP p q = heedP (twoP p q) := by
  simp only [swapP, heedP, hp, hq, true_and]
theorem swapP_not (p q : Pr) (h : ¬ (rightP p = true ∧ rightP q = true)) : swapP p q = none := by
  unfold swapP
  rw [if_neg]
  exact fun k => h ⟨k.1, k.2.1⟩
theorem heed_none : heedP noneP = none := rfl
theorem heed_false (a b : Pr) : heedP (a, b, false) = none := by simp [heedP]

theorem swapP_turn (p q : Pr) (hp : rightP p = true) (hq : rightP q = true) : swapP p q = heedP (turnP p q) := by
  rw [swapP_two p q hp hq]
  unfold turnP twoP
  by_cases kp : p.kind = 0
  · by_cases kq : q.kind = 0
    · simp only [kp, kq, true_and, and_self, if_true, turnHH]
      by_cases e : p.name = q.name
      · simp only [e, if_true, ne_eq, not_true, if_false]
        by_cases h1 : q.place > p.place + p.new.length
        · simp only [h1, if_true]
          rw [show q.place - (p.new.length : Int) + p.old.length = q.place - ((p.new.length : Int) - p.old.length) from by omega]
        · simp only [h1, if_false]
          by_cases h2 : q.place + q.old.length < p.place
          · simp only [h2, if_true]
            rw [show p.place + (q.new.length : Int) - q.old.length = p.place + ((q.new.length : Int) - q.old.length) from by omega]
          · simp only [h2, if_false, heed_false, heed_none]
      · simp [e]
    · by_cases k3 : q.kind = 3
      · simp only [kp, k3, true_and, false_and, and_false, if_true, if_false, turnHM, Int.reduceEq]
        by_cases e : p.name = q.name
        · have hne : ¬ q.name = q.to := fun x => move_else hq k3 x.symm
          simp only [e, if_true, hne, if_false]
        · simp only [e, if_false]
          by_cases e2 : p.name = q.to
          · have : commonP p q = true := common_iff.2 ⟨p.name, mem_names.2 (.inl rfl), mem_names.2 (.inr ⟨k3, e2⟩)⟩
            simp only [this, Bool.not_true, e2, if_true, heed_false, heed_none]
          · have : commonP p q = false := common_no.2 fun n a b => by
              rw [mem_names] at a b
              simp only [kp, Int.reduceEq, false_and, or_false] at a
              subst a
              rcases b with b | b
              · exact e b
              · exact e2 b.2
            simp only [this, Bool.not_false, e2, if_false]
      · simp [kp, kq, k3]
  · by_cases kq : q.kind = 0
    · by_cases k3 : p.kind = 3
      · simp only [kq, k3, true_and, false_and, and_true, if_true, if_false, turnMH, Int.reduceEq]
        by_cases e : p.to = q.name
        · have hne : ¬ q.name = p.name := fun x => move_else hp k3 (e.trans x)
          simp only [e, if_true, hne, if_false]
        · have e' : ¬ q.name = p.to := fun x => e x.symm
          simp only [e, e', if_false]
          by_cases e2 : q.name = p.name
          · have : commonP p q = true := common_iff.2 ⟨p.name, mem_names.2 (.inl rfl), mem_names.2 (.inl e2.symm)⟩
            simp only [this, Bool.not_true, e2, if_true, heed_false, heed_none]
          · have : commonP p q = false := common_no.2 fun n a b => by
              rw [mem_names] at a b
              simp only [kq, Int.reduceEq, false_and, or_false] at b
              subst b
              rcases a with a | a
              · exact e2 a
              · exact e' a.2
            simp only [this, Bool.not_false, e2, if_false]
      · simp [kp, kq, k3]
    · simp [kp, kq]

end Go.Proofs.YtomboeiaajggoaaGreat

/-
  Two prims and a Bool that a call tells; prims at another place, in another file.
-/
namespace Go.Proofs.YtomboeiaajggoaaGreat
open Go.RowKit Go.Maps

def atC (x : PrC) (k : Int) : PrC := { x with v := placed x.v k }
def inC (x : PrC) (n : ByteArray) : PrC := { x with v := inFile x.v n }
def zeroC : PrC := ⟨zeroPr, none, 0, 0, none, 0, 0⟩
theorem atC_ok {w : World} {x : PrC} (h : PrOk w x) {k : Int} (h1 : -9223372036854775808 ≤ k) (h2 : k ≤ 9223372036854775807) : PrOk w (atC x k) :=
  ⟨h.old, h.new, h.oroom, h.nroom, h.omost, h.nmost, h.name, h.to, h1, h2, h.olds, h.news⟩
theorem inC_ok {w : World} {x : PrC} (h : PrOk w x) {n : ByteArray} (hn : n.size ≤ maxLen) : PrOk w (inC x n) :=
  ⟨h.old, h.new, h.oroom, h.nroom, h.omost, h.nmost, hn, h.to, h.lo, h.hi, h.olds, h.news⟩
theorem zeroC_ok (w : World) : PrOk w zeroC :=
  ⟨Row.none, Row.none, Nat.le_refl _, Nat.le_refl _, Nat.zero_le _, Nat.zero_le _, Nat.zero_le _, Nat.zero_le _, by simp [zeroC, zeroPr], by simp [zeroC, zeroPr], (fun s hs => by simp [zeroC, zeroPr] at hs), (fun s hs => by simp [zeroC, zeroPr] at hs)⟩

/-- Two prims and a Bool. -/
def GivesT (r : Pr × Pr × Bool) (w : World) (e : Ending) (w' : World) : Prop :=
  ∃ a b : PrC, e = .returned (.tuple #[prV a, prV b, .bool r.2.2]) ∧ a.v = r.1 ∧ b.v = r.2.1 ∧ PrOk w' a ∧ PrOk w' b ∧ Later w w'
/-- The same, where the rows are those of x or y. -/
def GivesW (x y : PrC) (r : Pr × Pr × Bool) (w : World) (e : Ending) (w' : World) : Prop :=
  ∃ a b : PrC, e = .returned (.tuple #[prV a, prV b, .bool r.2.2]) ∧ a.v = r.1 ∧ b.v = r.2.1 ∧ (∀ w0, PrOk w0 x → PrOk w0 y → PrOk w0 a ∧ PrOk w0 b) ∧ Later w w'
/-- What Swap tells. -/
def swapR (o : Option (Pr × Pr)) : Pr × Pr × Bool := match o with | some r => (r.1, r.2, true) | none => noneP

theorem results_two {P : Program} {fn : Func} {p q u : Tmp} {ty : TypeId} (h : fn.results = #[.cell p ty, .cell q ty, .tmp u]) (tmps : Array Value) (w : World) (g k : Nat) (t s : TypeId) (cs ds : Array Value) (fr gr : Nat × Nat) (d : TypeDesc) (v : Value)
    (hp : tmps.getD p undef = .pointer (some ⟨g, 0, none⟩)) (hq : tmps.getD q undef = .pointer (some ⟨k, 0, none⟩)) (hv : tmps.getD u undef = v) (hg : w.heap[g]? = some (.cells cs t fr)) (hk : w.heap[k]? = some (.cells ds s gr))
    (hu : P.underlying ty = some d) (hd : (match d with | .struct _ | .array _ _ => true | _ => false) = true) (hi : (P.info? ty).map (·.size) = some cs.size) (hj : (P.info? ty).map (·.size) = some ds.size) :
    (results fn tmps).run P w = .ok (.tuple #[.agg cs, .agg ds, v]) w := by
  have hp' : tmps[p]?.getD undef = .pointer (some ⟨g, 0, none⟩) := by simpa using hp
  have hq' : tmps[q]?.getD undef = .pointer (some ⟨k, 0, none⟩) := by simpa using hq
  have hv' : tmps[u]?.getD undef = v := by simpa using hv
  simp [results, h, hp', hq', hv', asAddr, run_loadVar_row w g t ty cs fr d hg hu hd hi, run_loadVar_row w k s ty ds gr d hk hu hd hj]

set_option maxRecDepth 100000 in
theorem growth_any (x : PrC) (w : World) (hx : PrOk w x) :
    Calls Tryz.prog 129 #[prV x] w fun e w' => e = .returned (.int .i64 ((x.m : Int) - x.n)) ∧ Later w w' := by
  have hlb : Later w (w.alloc (.cells #[.int .i64 x.v.kind, .string x.v.name, .string x.v.to, .int .i64 x.v.place, .slice x.A x.n x.c, .slice x.B x.m x.d] 69)) := (Later.refl w).alloc _
  have h1 := hx.omost; have h2 := hx.nmost
  clear hx
  unfold prV
  go_enter Tryz.func129, Tryz.ntmps129
  go_wp2
  go_ret
  exact ⟨by go_num, hlb⟩

end Go.Proofs.YtomboeiaajggoaaGreat
