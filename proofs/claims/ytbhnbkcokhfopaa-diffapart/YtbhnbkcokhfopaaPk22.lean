import Derived.Test.YtbhnbkcokhfopaaPk6
import Derived.Test.YtbhnbkcokhfopaaPk17
import Derived.Test.YtbhnbkcokhfopaaPk18
import Derived.Test.YtbhnbkcokhfopaaPk20
import Derived.Test.YtbhnbkcokhfopaaPk21
import Derived.Test.YtbhnbkcokhfopaaPk11
import Derived.Test.YtbhnbkcokhfopaaPk12
import Derived.Deep.Cut
import Derived.Deep.LoopGhost
import Derived.Deep.QuietTactic
import Derived.BigQuiet
import Derived.Lib.Hide

/-
  Rows of prims as plain lists: when they are the same, how many lines they have, the trees that they make. Nothing of any program.
-/
namespace Go.Proofs.Ytbhnbkcokhfopaa
open Go.RowKit

/-- Are two rows the same? -/
def sameS : List Pr → List Pr → Bool
  | [], [] => true
  | p :: a, q :: b => sameP p q && sameS a b
  | _, _ => false
theorem sameS_iff : ∀ {a b : List Pr}, sameS a b = true ↔ a = b
  | [], [] => by simp [sameS]
  | [], q :: b => by simp [sameS]
  | p :: a, [] => by simp [sameS]
  | p :: a, q :: b => by simp only [sameS, Bool.and_eq_true, sameP_iff, sameS_iff (a := a) (b := b), List.cons.injEq]
theorem sameS_self (a : List Pr) : sameS a a = true := sameS_iff.2 rfl
theorem sameS_length {a b : List Pr} (h : a.length ≠ b.length) : sameS a b = false := by
  cases hs : sameS a b
  · rfl
  · exact absurd (congrArg List.length (sameS_iff.1 hs)) h
/-- They differ at a place. -/
theorem sameS_at {a b : List Pr} {k : Nat} {p q : Pr} (h1 : a[k]? = some p) (h2 : b[k]? = some q) (h : sameP p q = false) : sameS a b = false := by
  cases hs : sameS a b
  · rfl
  · rw [sameS_iff.1 hs, h2] at h1
    cases h1
    rw [sameP_self] at h
    cases h
/-- They are the same at all places. -/
theorem sameS_all {a b : List Pr} (hl : a.length = b.length) (h : ∀ (k : Nat) (p q : Pr), a[k]? = some p → b[k]? = some q → sameP p q = true) : sameS a b = true := by
  refine sameS_iff.2 (List.ext_getElem? fun k => ?_)
  rcases Nat.lt_or_ge k a.length with hk | hk
  · rw [List.getElem?_eq_getElem hk, List.getElem?_eq_getElem (by omega)]
    rw [sameP_iff.1 (h k _ _ (List.getElem?_eq_getElem hk) (List.getElem?_eq_getElem (by omega)))]
  · rw [List.getElem?_eq_none hk, List.getElem?_eq_none (by omega)]

/-- How many lines. -/
def linesS (l : List Pr) : Nat := (l.map fun p => p.old.length + p.new.length).sum
theorem linesS_nil : linesS [] = 0 := rfl
theorem linesS_cons (p : Pr) (l : List Pr) : linesS (p :: l) = p.old.length + p.new.length + linesS l := by simp [linesS]
theorem linesS_append (l m : List Pr) : linesS (l ++ m) = linesS l + linesS m := by simp [linesS]
theorem invert_lines (p : Pr) : (invertP p).old.length + (invertP p).new.length = p.old.length + p.new.length := by
  unfold invertP
  repeat' split
  all_goals first | rfl | (dsimp only; omega)
theorem linesS_invert (l : List Pr) : linesS (invertS l) = linesS l := by
  induction l with
  | nil => rfl
  | cons p l ih => rw [invertS_cons, linesS_append, ih, linesS_cons, linesS_cons, linesS_nil, invert_lines]; omega
theorem swap1_lines {p : Pr} {m : List Pr} {r : List Pr × Pr} (h : swap1 p m = some r) : linesS r.1 = linesS m ∧ r.2.old = p.old ∧ r.2.new = p.new := by
  induction m generalizing p r with
  | nil => cases h; exact ⟨rfl, rfl, rfl⟩
  | cons q m ih =>
    obtain ⟨q', p1, m', p', h1, h2, rfl⟩ := swap1_cons.1 h
    obtain ⟨k1, k2, k3⟩ := ih h2
    obtain ⟨-, e1, e2, -, -, e3, e4, -⟩ := swap_keeps h1
    dsimp only at k1 k2 k3 ⊢
    rw [linesS_cons, linesS_cons, e1, e2, k1]
    exact ⟨rfl, k2.trans e3, k3.trans e4⟩
theorem swapS_lines {l m a b : List Pr} (h : swapS l m = some (a, b)) : linesS a = linesS m ∧ linesS b = linesS l := by
  induction l generalizing a b with
  | nil => cases h; exact ⟨rfl, rfl⟩
  | cons p l ih =>
    obtain ⟨m1, l', m2, p', h1, h2, e⟩ := swapS_cons.1 h
    cases e
    obtain ⟨k1, k2⟩ := ih h1
    obtain ⟨j1, j2, j3⟩ := swap1_lines h2
    dsimp only at j1 j2 j3
    rw [linesS_cons, linesS_cons, j2, j3, k2, j1, k1]
    exact ⟨rfl, rfl⟩
theorem rebase_lines {l m a : List Pr} (h : rebaseS m l = some a) : linesS a = linesS m ∧ a.length = m.length := by
  obtain ⟨b, hb⟩ := rebase_iff.1 h
  exact ⟨(swapS_lines hb).1, (swapS_length hb).1⟩
theorem splitStep_lines (w : Bool) (s : List Pr × List Pr) (p : Pr) : linesS (splitStep w s p).1 + linesS (splitStep w s p).2 = linesS s.1 + linesS s.2 + linesS [p] ∧ (splitStep w s p).1.length + (splitStep w s p).2.length = s.1.length + s.2.length + 1 := by
  unfold splitStep
  cases hs : swapS s.2 [p] with
  | none => simp only [linesS_append, List.length_append, List.length_cons, List.length_nil]; omega
  | some r =>
    obtain ⟨a, b⟩ := r
    have h1 := swapS_lines hs
    have h2 := swapS_length hs
    simp only [List.length_cons, List.length_nil] at h2
    dsimp only
    split
    · simp only [linesS_append, List.length_append]; omega
    · simp only [linesS_append, List.length_append, List.length_cons, List.length_nil]; omega
theorem splitS_lines (wanted : Nat → Bool) (l : List Pr) (k : Nat) (s : List Pr × List Pr) : linesS (splitS wanted k s l).1 + linesS (splitS wanted k s l).2 = linesS s.1 + linesS s.2 + linesS l ∧ (splitS wanted k s l).1.length + (splitS wanted k s l).2.length = s.1.length + s.2.length + l.length := by
  induction l generalizing k s with
  | nil => exact ⟨rfl, rfl⟩
  | cons p l ih =>
    have h1 := ih (k + 1) (splitStep (wanted k) s p)
    have h2 := splitStep_lines (wanted k) s p
    simp only [splitS]
    rw [linesS_cons, linesS_nil] at h2
    rw [linesS_cons, List.length_cons]
    omega
/-- What stands behind k rounds. -/
theorem splitS_take (wanted : Nat → Bool) (l : List Pr) (j : Nat) (s : List Pr × List Pr) {k : Nat} {p : Pr} (h : l[k]? = some p) : splitS wanted j s (l.take (k + 1)) = splitStep (wanted (j + k)) (splitS wanted j s (l.take k)) p := by
  induction l generalizing j s k with
  | nil => simp at h
  | cons q l ih =>
    cases k with
    | zero => simp at h; subst h; simp [splitS]
    | succ k =>
      simp only [List.take_succ_cons, splitS]
      rw [ih (j + 1) _ (by simpa using h), show j + 1 + k = j + (k + 1) by omega]

/-- With an error the tree is as it was. -/
theorem apply_errS {t : Tr} {p : Pr} (h : (applyP t p).2 ≠ 0) : (applyP t p).1 = t := by
  revert h
  unfold applyP
  split
  · exact fun _ => rfl
  split
  · unfold hunkT
    split
    · exact fun _ => rfl
    · split
      · exact fun h => absurd rfl h
      · exact fun _ => rfl
  split
  · split
    · exact fun _ => rfl
    · exact fun h => absurd rfl h
  split
  · split
    · exact fun _ => rfl
    · split
      · exact fun _ => rfl
      · exact fun h => absurd rfl h
  · split
    · exact fun _ => rfl
    · split
      · exact fun _ => rfl
      · exact fun h => absurd rfl h

section
variable {k h : Nat} {t u : Tr} {l : List Pr}
theorem runS_sized (hs : Sized k h t) : Sized (k + l.length) (h + linesS l) (runS t l).1 := by
  induction l generalizing k h t with
  | nil => exact hs
  | cons p l ih =>
    have h1 := hs.apply p
    simp only [runS]
    split
    · exact (ih h1).mono (by simp; omega) (by rw [linesS_cons]; omega)
    · exact h1.mono (by simp) (by rw [linesS_cons]; omega)
theorem runS_snoc {p : Pr} (h : runS t l = (u, 0)) : runS t (l ++ [p]) = applyP u p := by
  induction l generalizing t with
  | nil =>
    simp only [runS, Prod.mk.injEq, and_true] at h
    subst h
    simp only [List.nil_append, runS]
    split
    · rename_i e; rw [Prod.ext_iff]; exact ⟨rfl, e.symm⟩
    · rfl
  | cons q l ih =>
    obtain ⟨s, h1, h2⟩ := runS_cons.1 h
    simp only [List.cons_append, runS, h1, if_true]
    exact ih h2
/-- The first error. -/
theorem runS_err {p : Pr} {m : List Pr} (h : runS t l = (u, 0)) (he : (applyP u p).2 ≠ 0) : runS t (l ++ p :: m) = applyP u p := by
  induction l generalizing t with
  | nil =>
    simp only [runS, Prod.mk.injEq, and_true] at h
    subst h
    simp only [List.nil_append, runS]
    rw [if_neg he]
  | cons q l ih =>
    obtain ⟨s, h1, h2⟩ := runS_cons.1 h
    simp only [List.cons_append, runS, h1, if_true]
    exact ih h2
theorem applyS_err {p : Pr} {m : List Pr} (h : runS t l = (u, 0)) (he : (applyP u p).2 ≠ 0) : applyS t (l ++ p :: m) = (t, (applyP u p).2) := by
  unfold applyS
  rw [runS_err h he, if_neg he]
end

end Go.Proofs.Ytbhnbkcokhfopaa

/-
  One file's hunks: applied, undone, swapped. Nothing of any program.
-/
namespace Go.Proofs.Ytbhnbkcokhfopaa
open Go.RowKit

theorem costP_invert (l : List Pr) : costP (invertS l) = costP l := linesS_invert l
theorem named_tA : namedB tA = true := by decide
theorem add_tA : addT [] tA = ([(tA, [])], 0) := by decide
theorem put_tA {l : List ByteArray} (h : allB l = true) : putT [(tA, [])] tA l = ([(tA, l)], 0) := by
  unfold putT
  rw [if_neg (by decide), if_neg (by rw [h]; simp)]
  rfl
theorem one_sized {l : List ByteArray} (h : allB l = true) (hl : l.length ≤ 40) : Sized 1 40 [(tA, l)] := ⟨by simp, fun f hf => by simp at hf; subst hf; exact ⟨named_tA, h, hl⟩⟩
theorem one_run {a b : List ByteArray} (ha : allB a = true) (hb : allB b = true) (h1 : a.length ≤ 40) (h2 : b.length ≤ 40) : runS [(tA, a)] (linesP tA a b) = ([(tA, b)], 0) := by
  have := lines_run (name := tA) (t := [(tA, a)]) (by simp [Rising]) named_tA ha hb (by omega) (by omega) rfl
  rw [this]
  rfl
theorem one_back {a b : List ByteArray} (ha : allB a = true) (hb : allB b = true) (h1 : a.length ≤ 40) (h2 : b.length ≤ 40) : runS [(tA, b)] (invertS (linesP tA a b)) = ([(tA, a)], 0) := runS_back (by simp [Rising]) (one_run ha hb h1 h2)

theorem run_right {t u : Tr} {l : List Pr} (ht : Rising t) (h : runS t l = (u, 0)) : ∀ p ∈ l, rightP p = true := by
  induction l generalizing t with
  | nil => intro p hp; cases hp
  | cons q l ih =>
    obtain ⟨s, h1, h2⟩ := runS_cons.1 h
    obtain ⟨h3, h4, _⟩ := apply_makes ht h1
    intro p hp
    rcases List.mem_cons.1 hp with rfl | hp
    · exact h3
    · exact ih h4 h2 p hp
/-- Two hunks, the second one behind the first one: they swap, and are what they are, but for the second one's place. -/
theorem hunks_swap {p q : Pr} (hp : rightP p = true) (hq : rightP q = true) (kp : p.kind = 0) (kq : q.kind = 0) (hn : p.name = q.name) (hgt : q.place > p.place + p.new.length) (h0 : 0 ≤ p.place) (hq1 : q.place ≤ 1000) (hpo : p.old.length ≤ 1000) :
    swapP p q = some (placed q (q.place - p.new.length + p.old.length), p) := by
  have ht : twoP p q = (placed q (q.place - p.new.length + p.old.length), p, true) := by
    unfold twoP
    rw [if_pos ⟨kp, kq, hn⟩, if_pos hgt]
  have hr : rightP (placed q (q.place - p.new.length + p.old.length)) = true := by
    have h := hq
    simp only [rightP, kq, if_true, Bool.and_eq_true, decide_eq_true_eq] at h
    simp only [rightP, placed, kq, if_true, Bool.and_eq_true, decide_eq_true_eq]
    exact ⟨h.1, ⟨⟨⟨⟨h.2.1.1.1.1, by omega, by omega⟩, h.2.1.1.2⟩, h.2.1.2⟩, h.2.2⟩⟩
  unfold swapP
  rw [ht]
  simp [hp, hq, hr]
theorem lines_swap {a b : List ByteArray} (ha : allB a = true) (hb : allB b = true) (h1 : a.length ≤ 40) (h2 : b.length ≤ 40) {j k : Nat} (hjk : j < k) {p q : Pr} (hp : (linesP tA a b)[j]? = some p) (hq : (linesP tA a b)[k]? = some q) :
    ∃ z, swapP p q = some (placed q z, p) := by
  have hr := run_right (by simp [Rising]) (one_run ha hb h1 h2)
  have hpr := (common_all (a := a) (b := b) (by omega) (by omega)).1
  have hpl := hunks_place (name := tA) hpr (Nat.zero_le _)
  have hap := hunks_apart (name := tA) hpr (Nat.zero_le _)
  rw [← lines_go (by omega) (by omega)] at hpl hap
  have hpm := List.mem_of_getElem? hp; have hqm := List.mem_of_getElem? hq
  obtain ⟨p1, p2, p3, p4, p5⟩ := hpl p hpm
  obtain ⟨q1, q2, q3, q4, q5⟩ := hpl q hqm
  obtain ⟨hj, rfl⟩ := List.getElem?_eq_some_iff.1 hp
  obtain ⟨hk, rfl⟩ := List.getElem?_eq_some_iff.1 hq
  have hgt := List.pairwise_iff_getElem.1 hap j k hj hk hjk
  exact ⟨_, hunks_swap (hr _ hpm) (hr _ hqm) p1 q1 (by rw [p2, q2]) hgt (by omega) (by omega) (by omega)⟩

end Go.Proofs.Ytbhnbkcokhfopaa

/-
  What the law DiffApart comes to, as a call.
-/
namespace Go.Proofs.Ytbhnbkcokhfopaa
open Go.RowKit Go.Maps

set_option maxRecDepth 100000 in
set_option maxHeartbeats 3200000 in
theorem diffApart_walk (A B : Option Addr) (n c m d : Nat) (la lb : List ByteArray) (w : World) (hx : Came w A n c la) (hy : Came w B m d lb) :
    Calls Try.prog 6 #[.slice A n c, .slice B m d] w fun e w' => e = .returned (.bool true) ∧ Later w w' := by
  have hrc := hx.room; have hrd := hy.room
  have HFW := Lib.hid (few6_any A B n c m d la lb w hx.row hy.row hx.most hy.most)
  have HX := Lib.hid hx; have HY := Lib.hid hy
  have hlx := hx.row.len; have hly := hy.row.len
  clear hx hy
  have HSX : Hid (∀ s ∈ la, s.size ≤ maxLen) := fun s hs => Nat.le_trans (HX.out.size s hs) (by decide)
  have HSY : Hid (∀ s ∈ lb, s.size ≤ maxLen) := fun s hs => Nat.le_trans (HY.out.size s hs) (by decide)
  have HLX := Lib.hid hlx; have HLY := Lib.hid hly
  clear hlx hly
  go_enter Try.func6, Try.ntmps6
  go_wp2_with fail
  refine HFW.out.mono ?_
  rintro e w1 ⟨b, rfl, hb, hl1⟩
  have L0 := Lib.hid hl1
  clear HFW hl1
  cases b
  · clear hb
    have HC := Lib.hid (alive6_any w1)
    go_wp2_with fail
    refine HC.out.mono ?_
    rintro e w2 ⟨rfl, hl2⟩
    have L2 := Lib.hid (L0.out.trans hl2)
    clear hl2 HC
    go_wp2
    go_ret
    exact ⟨rfl, L2.out⟩
  · obtain ⟨hn40, hm40⟩ := hb rfl
    clear hb
    have HC := Lib.hid (refAll_any A n c la w1 (HX.out.row.later L0.out) (by omega) HSX.out)
    have HC2 := Lib.hid (refAll_any B m d lb w1 (HY.out.row.later L0.out) (by omega) HSY.out)
    cases hya : allB la
    case false =>
      rw [hya] at HC
      go_wp2_with fail
      refine HC.out.mono ?_
      rintro e w7 ⟨rfl, rfl⟩
      clear HC HC2
      have HC := Lib.hid (alive6_any w1)
      go_wp2_with fail
      refine HC.out.mono ?_
      rintro e w8 ⟨rfl, hl⟩
      replace L0 := Lib.hid (L0.out.trans hl)
      clear hl HC
      go_wp2
      go_ret
      exact ⟨rfl, L0.out⟩
    cases hyb : allB lb
    case false =>
      rw [hya] at HC
      rw [hyb] at HC2
      go_wp2_with fail
      refine HC.out.mono ?_
      rintro e w7 ⟨rfl, rfl⟩
      go_wp2_with fail
      refine HC2.out.mono ?_
      rintro e w7 ⟨rfl, rfl⟩
      clear HC HC2
      have HC := Lib.hid (alive6_any w1)
      go_wp2_with fail
      refine HC.out.mono ?_
      rintro e w8 ⟨rfl, hl⟩
      replace L0 := Lib.hid (L0.out.trans hl)
      clear hl HC
      go_wp2
      go_ret
      exact ⟨rfl, L0.out⟩
    rw [hya] at HC
    rw [hyb] at HC2
    have HYA := Lib.hid hya; have HYB := Lib.hid hyb
    clear hya hyb
    go_wp2_with fail
    refine HC.out.mono ?_
    rintro e w7 ⟨rfl, rfl⟩
    clear HC
    go_wp2_with fail
    refine HC2.out.mono ?_
    rintro e w7 ⟨rfl, rfl⟩
    clear HC2
    have HC := Lib.hid (lines_any tA A B n c m d la lb w1 (HX.out.row.later L0.out) (HY.out.row.later L0.out) hrc hrd (by omega) (by omega) (by decide) HSX.out HSY.out)
    go_wp2_with fail
    refine HC.out.mono ?_
    rintro e w2 ⟨v3, xs, rfl, ho, hv, -⟩
    obtain ⟨A3, c3, hs3, hcc3, hp⟩ := ho.row
    have hxl : xs.length ≤ 201 := by have := linesP_length tA la lb; rw [← hv, valsP_length] at this; exact this
    subst hs3
    have P3 := Lib.hid hp; have V3 := Lib.hid hv
    replace L0 := Lib.hid (L0.out.trans ho.later)
    clear ho hv hp HC
    go_wp2
    go_loopg [31] (xs.length + 1) (fun g s31 wr => ∃ k : Nat, k ≤ xs.length ∧ xs.length - k ≤ g ∧ s31 = .int .i64 (k : Nat) ∧ Hid (Later w2 wr))
    case atStart => exact ⟨0, Nat.zero_le _, by omega, rfl, Later.refl _⟩
    case round =>
      obtain ⟨k, hk, hg, rfl, hwr⟩ := hrel
      by_cases hlt : k < xs.length
      · go_wp2
        go_loopg [35] (k + 1) (fun g s35 wq => ∃ j : Nat, j ≤ k ∧ k - j ≤ g ∧ s35 = .int .i64 (j : Nat) ∧ Hid (Later w2 wq))
        case atStart => exact ⟨0, Nat.zero_le _, by omega, rfl, hwr⟩
        case round =>
          obtain ⟨j, hj, hgj, rfl, hwq⟩ := hrel
          by_cases hjk : j < k
          · obtain ⟨gq, oq, x, hA3, hzx, okx, -⟩ := (P3.out.later hwq.out).get (j := j) (by omega)
            obtain ⟨gq', oq', y, hA3', hzy, oky, -⟩ := (P3.out.later hwq.out).get (j := k) hlt
            subst hA3
            cases hA3'
            obtain ⟨z, hsw⟩ := lines_swap HYA.out HYB.out (by rw [HLX.out]; omega) (by rw [HLY.out]; omega) hjk (p := x.v) (q := y.v) (by rw [← V3.out]; exact valsP_at hzx) (by rw [← V3.out]; exact valsP_at hzy)
            have HSW : Hid (swapR (swapP x.v y.v) = (placed y.v z, x.v, true)) := by show _ = _; rw [hsw]; rfl
            have HOX := Lib.hid okx; have HOY := Lib.hid oky; have HZX := Lib.hid hzx; have HZY := Lib.hid hzy
            clear hsw okx oky hzx hzy
            go_upto_region 10 with fail
            refine apart_region (xs := xs) (r := (placed y.v z, x.v, true)) rfl (by kernel_rfl) ⟨_, rfl, rfl, rfl, rfl, by kernel_rfl⟩ ⟨_, rfl, rfl, rfl, rfl, by kernel_rfl⟩ ⟨_, rfl, rfl, rfl, rfl, by kernel_rfl⟩ ⟨_, rfl, rfl, rfl, rfl, by kernel_rfl⟩ ⟨_, rfl, rfl, rfl, rfl, by kernel_rfl⟩ ⟨_, rfl, rfl, rfl, rfl, by kernel_rfl⟩ ⟨_, rfl, rfl, rfl, rfl, by kernel_rfl⟩ ⟨_, rfl, rfl, rfl, rfl, by kernel_rfl⟩ ⟨_, rfl, rfl, rfl, rfl, by kernel_rfl⟩ ⟨_, rfl, rfl, rfl, rfl, by kernel_rfl⟩ ⟨_, rfl, rfl, rfl, rfl, by kernel_rfl⟩ ⟨_, rfl, rfl, rfl, rfl, by kernel_rfl⟩ ⟨_, rfl, rfl, rfl, rfl, by kernel_rfl⟩ ⟨_, rfl, rfl, rfl, rfl, by kernel_rfl⟩ ⟨_, rfl, rfl, rfl, rfl, by kernel_rfl⟩ ⟨_, rfl, rfl, rfl, rfl, by kernel_rfl⟩ ⟨_, rfl, rfl, rfl, rfl, by kernel_rfl⟩ ⟨_, rfl, rfl, rfl, rfl, by kernel_rfl⟩ (of_decide_eq_true rfl) rfl rfl rfl (P3.out.later hwq.out).row HZX.out HZY.out (by omega) hlt HOX.out HOY.out HSW.out (fun D a V so e8 e9 e10 st => ?_)
            have ha := so.is
            simp only [List.foldl_cons, List.foldl_nil] at ha
            rw [e8, e9, e10] at ha
            generalize a.eval (.tmp 39) = y39 at ha
            generalize a.eval (.tmp 40) = y40 at ha
            generalize a.eval (.tmp 41) = y41 at ha
            generalize a.eval (.tmp 42) = y42 at ha
            generalize a.eval (.tmp 43) = y43 at ha
            generalize a.eval (.tmp 44) = y44 at ha
            generalize a.eval (.tmp 45) = y45 at ha
            generalize a.eval (.tmp 46) = y46 at ha
            generalize a.eval (.tmp 47) = y47 at ha
            generalize a.eval (.tmp 38) = y38 at ha
            generalize a.eval (.tmp 48) = y48 at ha
            generalize a.eval (.tmp 49) = y49 at ha
            generalize a.eval (.tmp 50) = y50 at ha
            obtain ⟨hcv, hdv, okc, okd⟩ := st.sw (by omega)
            obtain ⟨-, -, cs8, -, b8, hc8⟩ := st.b8 rfl
            obtain ⟨-, -, cs9, -, b9, hc9⟩ := st.b9 rfl
            have hc8' := hc8 (by omega); have hc9' := hc9 (by omega)
            subst hc8'
            subst hc9'
            have HLV := Lib.hid (hwq.out.trans st.later)
            obtain ⟨-, -, -, -, p4, p5⟩ := BoxAt.all (x := D.c) b8
            obtain ⟨gz, oz, x', hAz, hzx', okx', -⟩ := (P3.out.later HLV.out).get (j := j) (by omega)
            cases hAz
            obtain rfl : x = x' := Option.some.inj (HZX.out.symm.trans hzx')
            obtain ⟨gz, oz, y', hAz, hzy', oky', -, -, -, -, s4, s5⟩ := (P3.out.later HLV.out).get (j := k) hlt
            cases hAz
            obtain rfl : y = y' := Option.some.inj (HZY.out.symm.trans hzy')
            dsimp only at hcv hdv
            have HS1 : Hid (∀ w', Later V w' → Calls Try.prog 24 #[.slice D.c.A D.c.n D.c.c, .slice y.A y.n y.c] w' (Says true w')) := fun w' h => by
              have := refSame_any D.c.A y.A D.c.n D.c.c y.n y.c D.c.v.old y.v.old w' (okc.old.later h) (oky'.old.later h) okc.omost oky'.omost
              rw [hcv, show (placed y.v z).old = y.v.old from rfl, sameB_self] at this
              exact this.mono fun e w'' ⟨h1, q, h2⟩ => ⟨h1, by rw [h2]; exact (Later.refl w').drewN q⟩
            have HS2 : Hid (∀ w', Later V w' → Calls Try.prog 24 #[.slice D.c.B D.c.m D.c.d, .slice y.B y.m y.d] w' (Says true w')) := fun w' h => by
              have := refSame_any D.c.B y.B D.c.m D.c.d y.m y.d D.c.v.new y.v.new w' (okc.new.later h) (oky'.new.later h) okc.nmost oky'.nmost
              rw [hcv, show (placed y.v z).new = y.v.new from rfl, sameB_self] at this
              exact this.mono fun e w'' ⟨h1, q, h2⟩ => ⟨h1, by rw [h2]; exact (Later.refl w').drewN q⟩
            have HS3 : Hid (∀ w', Later V w' → Calls Try.prog 28 #[prV D.d, prV x] w' (Says true w')) := fun w' h => by
              have := primSame_any D.d x w' (okd.later h) (okx'.later h)
              rw [hdv, sameP_self] at this
              exact this
            have HB9 := Lib.hid b9; have HP4 := Lib.hid p4; have HP5 := Lib.hid p5; have HS4 := Lib.hid s4; have HS5 := Lib.hid s5
            clear so st e8 e9 e10 hcv hdv okc okd b8 b9 hc8 hc9 hzx' hzy' okx' oky' HSW HOX HOY HZY p4 p5 s4 s5
            subst ha
            simp only [Act.put, List.setIfInBounds_toArray, List.set_cons_zero, List.set_cons_succ]
            go_upto_region 11 with fail
            refine check_region (xs := xs) (cx := D.c) (dx := D.d) (y := y) (x := x) rfl (by kernel_rfl) ⟨_, rfl, rfl, rfl, rfl, by kernel_rfl⟩ ⟨_, rfl, rfl, rfl, rfl, by kernel_rfl⟩ ⟨_, rfl, rfl, rfl, rfl, by kernel_rfl⟩ ⟨_, rfl, rfl, rfl, rfl, by kernel_rfl, by kernel_rfl⟩ ⟨_, rfl, rfl, rfl, rfl, by kernel_rfl, by kernel_rfl⟩ ⟨_, rfl, rfl, rfl, rfl, by kernel_rfl, by kernel_rfl⟩ ⟨_, rfl, rfl, rfl, rfl, by kernel_rfl, by kernel_rfl⟩ ⟨_, rfl, rfl, rfl, rfl, by kernel_rfl, by kernel_rfl⟩ ⟨_, rfl, rfl, rfl, rfl, by kernel_rfl, by kernel_rfl⟩ ⟨_, rfl, rfl, rfl, rfl, by kernel_rfl, by kernel_rfl⟩ ⟨_, rfl, rfl, rfl, rfl, by kernel_rfl, by kernel_rfl⟩ ⟨_, rfl, rfl, rfl, rfl, by kernel_rfl, by kernel_rfl⟩ ⟨_, rfl, rfl, rfl, rfl, by kernel_rfl⟩ ⟨_, rfl, rfl, rfl, rfl, by kernel_rfl⟩ ⟨_, rfl, rfl, rfl, rfl, by kernel_rfl, by kernel_rfl⟩ ⟨_, rfl, rfl, rfl, rfl, by kernel_rfl, by kernel_rfl⟩ ⟨_, rfl, rfl, rfl, rfl, by kernel_rfl, by kernel_rfl⟩ ⟨_, rfl, rfl, rfl, rfl, by kernel_rfl, by kernel_rfl⟩ ⟨_, rfl, rfl, rfl, rfl, by kernel_rfl, by kernel_rfl⟩ ⟨_, rfl, rfl, rfl, rfl, by kernel_rfl, by kernel_rfl⟩ ⟨_, rfl, rfl, rfl, rfl, by kernel_rfl, by kernel_rfl⟩ ⟨_, rfl, rfl, rfl, rfl, by kernel_rfl, by kernel_rfl⟩ ⟨_, rfl, rfl, rfl, rfl, by kernel_rfl, by kernel_rfl⟩ ⟨_, rfl, rfl, rfl, rfl, by kernel_rfl⟩ ⟨_, rfl, rfl, rfl, rfl, by kernel_rfl⟩ ⟨_, rfl, rfl, rfl, rfl, by kernel_rfl, by kernel_rfl⟩ ⟨_, rfl, rfl, rfl, rfl, by kernel_rfl, by kernel_rfl⟩ ⟨_, rfl, rfl, rfl, rfl, by kernel_rfl, by kernel_rfl⟩ ⟨_, rfl, rfl, rfl, rfl, by kernel_rfl, by kernel_rfl⟩ ⟨_, rfl, rfl, rfl, rfl, by kernel_rfl, by kernel_rfl⟩ ⟨_, rfl, rfl, rfl, rfl, by kernel_rfl, by kernel_rfl⟩ ⟨_, rfl, rfl, rfl, rfl, by kernel_rfl, by kernel_rfl⟩ ⟨_, rfl, rfl, rfl, rfl, by kernel_rfl⟩ (of_decide_eq_true rfl) rfl rfl rfl rfl rfl rfl (P3.out.later HLV.out).row HZX.out (by omega) hlt (by simpa using HP4.out) (by simpa using HP5.out) HS4.out HS5.out HB9.out HS1.out HS2.out HS3.out (fun D' a' V' so' e83 st' => ?_)
            have ha := so'.is
            simp only [List.foldl_cons, List.foldl_nil] at ha
            rw [e83] at ha
            generalize a'.eval (.tmp 51) = z51 at ha
            generalize a'.eval (.tmp 52) = z52 at ha
            generalize a'.eval (.tmp 53) = z53 at ha
            generalize a'.eval (.tmp 54) = z54 at ha
            generalize a'.eval (.tmp 55) = z55 at ha
            generalize a'.eval (.tmp 56) = z56 at ha
            generalize a'.eval (.tmp 57) = z57 at ha
            generalize a'.eval (.tmp 58) = z58 at ha
            generalize a'.eval (.tmp 59) = z59 at ha
            generalize a'.eval (.tmp 60) = z60 at ha
            generalize a'.eval (.tmp 61) = z61 at ha
            generalize a'.eval (.tmp 62) = z62 at ha
            generalize a'.eval (.tmp 63) = z63 at ha
            generalize a'.eval (.tmp 64) = z64 at ha
            generalize a'.eval (.tmp 65) = z65 at ha
            generalize a'.eval (.tmp 66) = z66 at ha
            generalize a'.eval (.tmp 67) = z67 at ha
            generalize a'.eval (.tmp 68) = z68 at ha
            generalize a'.eval (.tmp 69) = z69 at ha
            generalize a'.eval (.tmp 70) = z70 at ha
            generalize a'.eval (.tmp 71) = z71 at ha
            generalize a'.eval (.tmp 72) = z72 at ha
            generalize a'.eval (.tmp 73) = z73 at ha
            generalize a'.eval (.tmp 74) = z74 at ha
            generalize a'.eval (.tmp 75) = z75 at ha
            generalize a'.eval (.tmp 76) = z76 at ha
            generalize a'.eval (.tmp 77) = z77 at ha
            generalize a'.eval (.tmp 78) = z78 at ha
            generalize a'.eval (.tmp 79) = z79 at ha
            generalize a'.eval (.tmp 80) = z80 at ha
            generalize a'.eval (.tmp 81) = z81 at ha
            generalize a'.eval (.tmp 82) = z82 at ha
            have HLW := Lib.hid (HLV.out.trans st')
            clear so' e83 st' HB9 HP4 HP5 HS4 HS5 HS1 HS2 HS3 HZX HLV
            subst ha
            simp only [Act.put, List.setIfInBounds_toArray, List.set_cons_zero, List.set_cons_succ]
            go_wp2
            go_roundg (k - (j + 1))
            case measure => omega
            case rel => exact ⟨j + 1, by omega, Nat.le_refl _, by go_num, HLW⟩
          · go_wp2
            go_roundg (xs.length - (k + 1))
            case measure => omega
            case rel => exact ⟨k + 1, by omega, Nat.le_refl _, by go_num, hwq⟩
      · have HC := Lib.hid (alive6_any wr)
        go_wp2_with fail
        refine HC.out.mono ?_
        rintro e w9 ⟨rfl, hl⟩
        have L9 := Lib.hid ((L0.out.trans hwr.out).trans hl)
        clear hl HC
        go_wp2
        go_ret
        exact ⟨rfl, L9.out⟩

end Go.Proofs.Ytbhnbkcokhfopaa
