import Derived.Test.YtboffgmaohcpfaaGreatDoorPk5
import Derived.Deep.LoopGhost
import Derived.Deep.QuietTactic
import Derived.BigQuiet
import Derived.Lib.Hide
import Derived.Test.YtboffgmaohcpfaaGreatDoorChecked
import Derived.Test.YtboffgmaohcpfaaGreatDoorPk1
import Derived.Test.YtboffgmaohcpfaaGreatDoorPk7
import Derived.Test.YtboffgmaohcpfaaGreatDoorPk6
import Derived.Test.YtboffgmaohcpfaaGreatDoorPk3
import Derived.Test.YtboffgmaohcpfaaGreatDoorPk9

/-
  What the statements' own Many comes to, as a call: what prims weigh.
-/
namespace Go.Proofs.YtboffgmaohcpfaaGreatDoor
open Go.RowKit

theorem sizesP_take {l : List ByteArray} {k : Nat} (h : k < l.length) : ((l.take (k + 1)).map ByteArray.size).sum = ((l.take k).map ByteArray.size).sum + (l.getD k ByteArray.empty).size := by
  rw [List.take_succ_eq_append_getElem h, List.map_append, List.sum_append]
  simp [List.getD, List.getElem?_eq_getElem h]
theorem sizesP_take_le (l : List ByteArray) (k : Nat) : ((l.take k).map ByteArray.size).sum ≤ (l.map ByteArray.size).sum := by
  have : (l.map ByteArray.size).sum = ((l.take k).map ByteArray.size).sum + ((l.drop k).map ByteArray.size).sum := by
    rw [← List.sum_append, ← List.map_append, List.take_append_drop]
  omega

set_option maxRecDepth 100000 in
set_option maxHeartbeats 1000000 in
theorem manyP_any (A : Option Addr) (n c : Nat) (xs : List PrC) (w : World) (hx : Prims w A n xs) (hn : n ≤ 1048576) (hW : weightPs xs ≤ 4194304) :
    Calls Tryz.prog 6 #[.slice A n c] w fun e w' => e = .returned (.int .i64 (n + weightPs xs : Nat)) ∧ Later w w' := by
  have HX := Lib.hid hx; clear hx
  go_enter Tryz.func6, Tryz.ntmps6
  go_wp2
  go_loopg [3, 14] (n + 1) (fun g s3 s14 wr => ∃ k : Nat, k ≤ n ∧ n - k ≤ g ∧ s14 = .int .i64 k ∧ s3 = .int .i64 (n + weightPs (xs.take k) : Nat) ∧ Later w wr)
  case atStart => exact ⟨0, Nat.zero_le _, by omega, rfl, rfl, Later.refl w⟩
  case round =>
    obtain ⟨k, hk, hg, rfl, rfl, hwr⟩ := hrel
    by_cases hlt : k < n
    · obtain ⟨b, o, x, rfl, hz, g0, g1, g2, g3, g4, g5⟩ := (HX.out.later hwr).get hlt
      have hstep := weightPs_take hz
      have hle := weightPs_take_le xs (k + 1)
      rw [hstep] at hle
      have hcm := (HX.out.later hwr).each x (List.mem_of_getElem? hz)
      have hlen := hcm.old.len
      have hlen2 := hcm.new.len
      have HW := Lib.hid hwr; have HROW := Lib.hid hcm.old; have HROW2 := Lib.hid hcm.new
      have hwt : weightP x.v = x.v.name.size + x.v.to.size + x.n + x.m + (x.v.old.map ByteArray.size).sum + (x.v.new.map ByteArray.size).sum := by unfold weightP; rw [hlen, hlen2]
      rw [hwt] at hle hstep
      have hle2 : n + weightPs (xs.take k) + x.v.name.size + x.v.to.size + x.n + x.m + (x.v.old.map ByteArray.size).sum + (x.v.new.map ByteArray.size).sum ≤ 6000000 := by omega
      have HST := Lib.hid hstep
      clear hle hstep hwt hcm hwr hz
      generalize weightPs (xs.take k) = W0 at HST hle2 ⊢
      generalize x.v.name = nm at *
      generalize x.v.to = to at *
      generalize x.v.old = l at *
      generalize x.v.new = r at *
      generalize x.v.kind = kd at *
      generalize x.v.place = pl at *
      generalize x.n = nl at *
      generalize x.A = Al at *
      generalize x.c = cl at *
      generalize x.m = nr at *
      generalize x.B = Ar at *
      generalize x.d = cr at *
      have hlb : Later wr (wr.alloc (.cells #[.int .i64 kd, .string nm, .string to, .int .i64 pl, .slice Al nl cl, .slice Ar nr cr] 34)) := (Later.refl wr).alloc _
      have HLB := Lib.hid hlb; clear hlb
      have HLEN := Lib.hid hlen; have HLEN2 := Lib.hid hlen2; clear hlen hlen2
      go_wp2
      go_loopg [3, 38] (nl + 1) (fun g s3 s38 wx => ∃ j : Nat, j ≤ nl ∧ nl - j ≤ g ∧ s38 = .int .i64 j ∧ s3 = .int .i64 (n + W0 + nm.size + to.size + nl + nr + ((l.take j).map ByteArray.size).sum : Nat) ∧ wx = wr.alloc (.cells #[.int .i64 kd, .string nm, .string to, .int .i64 pl, .slice Al nl cl, .slice Ar nr cr] 34))
      case atStart => exact ⟨0, Nat.zero_le _, by omega, rfl, by simp; go_num, rfl⟩
      case round =>
        obtain ⟨j, hj, hgj, rfl, rfl, rfl⟩ := hrel
        by_cases hjl : j < nl
        · obtain ⟨b1, o1, rfl, h4⟩ := (HROW.out.later HLB.out).get hjl
          have h1 := sizesP_take (l := l) (k := j) (by rw [HLEN.out]; exact hjl)
          have h2 := sizesP_take_le l (j + 1)
          rw [h1] at h2
          have H1 := Lib.hid h1; clear h1
          generalize l.getD j ByteArray.empty = sx at *
          generalize ((l.take j).map ByteArray.size).sum = S at *
          go_wp2
          go_roundg (nl - (j + 1))
          case measure => omega
          case rel => exact ⟨j + 1, by omega, Nat.le_refl _, by go_num, by rw [H1.out]; go_num, rfl⟩
        · have e : l.take j = l := List.take_of_length_le (by rw [HLEN.out]; omega)
          rw [e]
          clear e
          generalize (l.map ByteArray.size).sum = S1 at *
          go_wp2
          go_loopg [3, 50] (nr + 1) (fun g s3 s50 wx => ∃ j : Nat, j ≤ nr ∧ nr - j ≤ g ∧ s50 = .int .i64 j ∧ s3 = .int .i64 (n + W0 + nm.size + to.size + nl + nr + S1 + ((r.take j).map ByteArray.size).sum : Nat) ∧ wx = wr.alloc (.cells #[.int .i64 kd, .string nm, .string to, .int .i64 pl, .slice Al nl cl, .slice Ar nr cr] 34))
          case atStart => exact ⟨0, Nat.zero_le _, by omega, rfl, by simp, rfl⟩
          case round =>
            obtain ⟨i, hi, hgi, rfl, rfl, rfl⟩ := hrel
            by_cases hil : i < nr
            · obtain ⟨b1, o1, rfl, h4⟩ := (HROW2.out.later HLB.out).get hil
              have h1 := sizesP_take (l := r) (k := i) (by rw [HLEN2.out]; exact hil)
              have h2 := sizesP_take_le r (i + 1)
              rw [h1] at h2
              have H1 := Lib.hid h1; clear h1
              generalize r.getD i ByteArray.empty = sx at *
              generalize ((r.take i).map ByteArray.size).sum = S at *
              go_wp2
              go_roundg (nr - (i + 1))
              case measure => omega
              case rel => exact ⟨i + 1, by omega, Nat.le_refl _, by go_num, by rw [H1.out]; go_num, rfl⟩
            · have e : r.take i = r := List.take_of_length_le (by rw [HLEN2.out]; omega)
              rw [e]
              clear e
              go_wp2
              go_roundg (n - (k + 1))
              case measure => omega
              case rel => exact ⟨k + 1, by omega, Nat.le_refl _, by go_num, by rw [HST.out]; go_num, HW.out.trans HLB.out⟩
    · have e : xs.take k = xs := List.take_of_length_le (by rw [HX.out.len]; omega)
      rw [e]
      have HW := Lib.hid hwr
      clear e hwr
      go_wp2
      go_ret
      exact ⟨rfl, HW.out⟩

end Go.Proofs.YtboffgmaohcpfaaGreatDoor

/-
  What the document's Same comes to, as a call.
-/
namespace Go.Proofs.YtboffgmaohcpfaaGreatDoor
open Go.RowKit

set_option maxHeartbeats 400000 in
theorem refSame_any (A B : Option Addr) (n c m d : Nat) (xs ys : List ByteArray) (w : World) (hx : Row w A n xs) (hy : Row w B m ys) (hn : n ≤ 65536) (hm : m ≤ 65536) :
    Calls Tryz.prog 29 #[.slice A n c, .slice B m d] w fun e w' => e = .returned (.bool (sameB xs ys)) ∧ ∃ q, w' = w.drewN q := by
  by_cases hnm : n = m
  · subst hnm
    have HX := Lib.hid hx; clear hx
    have HY := Lib.hid hy; clear hy
    go_enter Tryz.func29, Tryz.ntmps29
    go_wp2
    go_loopg [5] n (fun g s5 wr => ∃ k q : Nat, k ≤ n ∧ n - k ≤ g ∧ s5 = .int .i64 k ∧ wr = w.drewN q ∧ Hid (xs.take k = ys.take k))
    case atStart => exact ⟨0, 0, Nat.zero_le _, by omega, rfl, rfl, by simp [Hid]⟩
    case round =>
      obtain ⟨k, q, hk, hg, rfl, rfl, heq⟩ := hrel
      by_cases hlt : k < n
      · obtain ⟨b1, o1, rfl, g1⟩ := HX.out.get hlt
        obtain ⟨b2, o2, rfl, g2⟩ := HY.out.get hlt
        generalize hxk : xs.getD k ByteArray.empty = x at g1
        generalize hyk : ys.getD k ByteArray.empty = y at g2
        have X := Lib.hid hxk; clear hxk
        have Y := Lib.hid hyk; clear hyk
        by_cases hxy : x = y
        · subst hxy
          go_wp2_with fail
          go_quiet (fail)
          go_wp2
          go_roundg (n - (k + 1))
          case measure => omega
          case rel => exact ⟨k + 1, _, by omega, by omega, by go_num, rfl, take_same (by rw [HX.out.len]; exact hlt) (by rw [HY.out.len]; exact hlt) heq.out (X.out.trans Y.out.symm)⟩
        · have hb := text_ne hxy
          go_wp2_with fail
          go_quiet (fail)
          go_wp2
          go_ret
          exact ⟨ret_bool (beq_of_other (by rw [X.out, Y.out]; exact hxy)).symm, _, World.drewN_drewN _ _ _⟩
      · have hkn : k = n := by omega
        have e : sameB xs ys = true := by
          rw [hkn, List.take_of_length_le (by rw [HX.out.len]; omega), List.take_of_length_le (by rw [HY.out.len]; omega)] at heq
          exact sameB_yes heq.out
        have E := Lib.hid e; clear e heq
        go_wp2
        go_ret
        exact ⟨ret_bool E.out.symm, _, rfl⟩
  · have e : sameB xs ys = false := by
      refine sameB_no fun h => ?_; rw [h] at hx; exact hnm (hx.len.symm.trans hy.len)
    have E := Lib.hid e; clear e hx hy
    have hnm' : ¬ (n : Int) = (m : Int) := by omega
    go_enter Tryz.func29, Tryz.ntmps29
    go_wp2
    go_ret
    exact ⟨ret_bool E.out.symm, 0, rfl⟩

end Go.Proofs.YtboffgmaohcpfaaGreatDoor

/-
  What the document's Right comes to, as a call.
-/
namespace Go.Proofs.YtboffgmaohcpfaaGreatDoor
open Go.RowKit

set_option maxRecDepth 100000 in
set_option maxHeartbeats 800000 in
theorem refRightP_any (x : PrC) (w : World) (hx : PrOk w x) :
    Calls Tryz.prog 23 #[prV x] w (Says (rightP x.v) w) := by
  obtain ⟨⟨kd, nm, to, pl, old, new⟩, A, n, c, B, m, d⟩ := x
  have hlb : Later w (w.alloc (.cells #[.int .i64 kd, .string nm, .string to, .int .i64 pl, .slice A n c, .slice B m d] 34)) := (Later.refl w).alloc _
  have hn := refNamed_any nm (w.alloc (.cells #[.int .i64 kd, .string nm, .string to, .int .i64 pl, .slice A n c, .slice B m d] 34)) hx.name
  have ht := refNamed_any to (w.alloc (.cells #[.int .i64 kd, .string nm, .string to, .int .i64 pl, .slice A n c, .slice B m d] 34)) hx.to
  have H1 := Lib.hid (refAll_any A n c old _ (hx.old.later hlb) hx.omost hx.olds)
  have H2 := Lib.hid (refAll_any B m d new _ (hx.new.later hlb) hx.nmost hx.news)
  have H3 := Lib.hid (refSame_any A B n c m d old new _ (hx.old.later hlb) (hx.new.later hlb) hx.omost hx.nmost)
  have hnl := hx.old.len
  have hml := hx.new.len
  have hn1 := hx.omost
  have hm1 := hx.nmost
  have HLB := Lib.hid hlb
  unfold prV
  dsimp only at hnl hml hn1 hm1 ⊢
  clear hx hlb
  cases h1 : namedB nm
  · rw [h1] at hn
    have HN := Lib.hid hn
    rw [rightP_name kd nm to pl old new h1]
    clear hn ht h1
    go_enter Tryz.func23, Tryz.ntmps23
    go_wp2_with fail
    refine HN.out.mono ?_
    rintro e w1 ⟨rfl, rfl⟩
    go_wp2
    go_ret
    exact ⟨rfl, HLB.out⟩
  rw [h1] at hn
  have HN := Lib.hid hn
  have HT := Lib.hid ht
  clear hn ht
  by_cases k0 : kd = 0
  · subst k0
    rw [rightP_hunk nm to pl old new h1]
    clear h1
    by_cases h2 : to = ByteArray.empty
    · subst h2
      by_cases h3 : 0 ≤ pl
      · by_cases h4 : pl ≤ 1048576
        · rw [decide_eq_true (show 0 ≤ pl ∧ pl ≤ 1048576 from ⟨h3, h4⟩), decide_eq_true (rfl : ByteArray.empty = ByteArray.empty), Bool.true_and, Bool.true_and]
          have d3 : ¬ pl < 0 := by omega
          have d4 : ¬ 1048576 < pl := by omega
          cases h5 : allB old
          · rw [h5] at H1
            go_enter Tryz.func23, Tryz.ntmps23
            go_wp2_with fail
            refine HN.out.mono ?_
            rintro e w1 ⟨rfl, rfl⟩
            go_wp2_with fail
            refine H1.out.mono ?_
            rintro e w1 ⟨rfl, rfl⟩
            go_wp2
            go_ret
            exact ⟨rfl, HLB.out⟩
          · rw [h5] at H1
            cases h6 : allB new
            · rw [h6] at H2
              go_enter Tryz.func23, Tryz.ntmps23
              go_wp2_with fail
              refine HN.out.mono ?_
              rintro e w1 ⟨rfl, rfl⟩
              go_wp2_with fail
              refine H1.out.mono ?_
              rintro e w1 ⟨rfl, rfl⟩
              go_wp2_with fail
              refine H2.out.mono ?_
              rintro e w1 ⟨rfl, rfl⟩
              go_wp2
              go_ret
              exact ⟨rfl, HLB.out⟩
            · rw [h6] at H2
              generalize sameB old new = b at H3 ⊢
              go_enter Tryz.func23, Tryz.ntmps23
              go_wp2_with fail
              refine HN.out.mono ?_
              rintro e w1 ⟨rfl, rfl⟩
              go_wp2_with fail
              refine H1.out.mono ?_
              rintro e w1 ⟨rfl, rfl⟩
              go_wp2_with fail
              refine H2.out.mono ?_
              rintro e w1 ⟨rfl, rfl⟩
              go_wp2_with fail
              refine H3.out.mono ?_
              rintro e w1 ⟨rfl, q, rfl⟩
              go_wp2
              go_ret
              exact ⟨rfl, HLB.out.drewN q⟩
        · have e : ¬ (0 ≤ pl ∧ pl ≤ 1048576) := fun h => h4 h.2
          rw [decide_eq_false e, Bool.and_false, Bool.false_and]
          have d3 : ¬ pl < 0 := by omega
          have d4 : 1048576 < pl := by omega
          clear e
          go_enter Tryz.func23, Tryz.ntmps23
          go_wp2_with fail
          refine HN.out.mono ?_
          rintro e w1 ⟨rfl, rfl⟩
          go_wp2
          go_ret
          exact ⟨rfl, HLB.out⟩
      · have e : ¬ (0 ≤ pl ∧ pl ≤ 1048576) := fun h => h3 h.1
        rw [decide_eq_false e, Bool.and_false, Bool.false_and]
        have d3 : pl < 0 := by omega
        clear e
        go_enter Tryz.func23, Tryz.ntmps23
        go_wp2_with fail
        refine HN.out.mono ?_
        rintro e w1 ⟨rfl, rfl⟩
        go_wp2
        go_ret
        exact ⟨rfl, HLB.out⟩
    · have hb := list_ne h2
      rw [decide_eq_false h2, Bool.false_and, Bool.false_and]
      go_enter Tryz.func23, Tryz.ntmps23
      go_wp2_with fail
      refine HN.out.mono ?_
      rintro e w1 ⟨rfl, rfl⟩
      go_wp2
      go_ret
      exact ⟨rfl, HLB.out⟩
  by_cases kb : kd < 0 ∨ 3 < kd
  · rw [rightP_none kd nm to pl old new (by omega) (by omega) (by omega) (by omega)]
    clear h1
    rcases kb with kb | kb
    · go_enter Tryz.func23, Tryz.ntmps23
      go_wp2_with fail
      refine HN.out.mono ?_
      rintro e w1 ⟨rfl, rfl⟩
      go_wp2
      go_ret
      exact ⟨rfl, HLB.out⟩
    · have kb' : ¬ kd < 0 := by omega
      go_enter Tryz.func23, Tryz.ntmps23
      go_wp2_with fail
      refine HN.out.mono ?_
      rintro e w1 ⟨rfl, rfl⟩
      go_wp2
      go_ret
      exact ⟨rfl, HLB.out⟩
  have kc : kd = 1 ∨ kd = 2 ∨ kd = 3 := by omega
  clear kb
  by_cases hbare : pl = 0 ∧ n = 0 ∧ m = 0
  · obtain ⟨rfl, rfl, rfl⟩ := hbare
    obtain rfl : old = [] := List.eq_nil_of_length_eq_zero hnl
    obtain rfl : new = [] := List.eq_nil_of_length_eq_zero hml
    rcases kc with rfl | rfl | rfl
    · by_cases h2 : to = ByteArray.empty
      · subst h2
        have E : Hid (rightP ⟨1, nm, ByteArray.empty, 0, [], []⟩ = true) := by simp [Hid, rightP, h1]
        clear h1
        go_enter Tryz.func23, Tryz.ntmps23
        go_wp2_with fail
        refine HN.out.mono ?_
        rintro e w1 ⟨rfl, rfl⟩
        go_wp2
        go_ret
        exact ⟨ret_bool E.out.symm, HLB.out⟩
      · have hb := list_ne h2
        have E : Hid (rightP ⟨1, nm, to, 0, [], []⟩ = false) := by simp [Hid, rightP, h1, h2]
        clear h1
        go_enter Tryz.func23, Tryz.ntmps23
        go_wp2_with fail
        refine HN.out.mono ?_
        rintro e w1 ⟨rfl, rfl⟩
        go_wp2
        go_ret
        exact ⟨by rw [E.out]; first | rfl | simp [hb], HLB.out⟩
    · by_cases h2 : to = ByteArray.empty
      · subst h2
        have E : Hid (rightP ⟨2, nm, ByteArray.empty, 0, [], []⟩ = true) := by simp [Hid, rightP, h1]
        clear h1
        go_enter Tryz.func23, Tryz.ntmps23
        go_wp2_with fail
        refine HN.out.mono ?_
        rintro e w1 ⟨rfl, rfl⟩
        go_wp2
        go_ret
        exact ⟨ret_bool E.out.symm, HLB.out⟩
      · have hb := list_ne h2
        have E : Hid (rightP ⟨2, nm, to, 0, [], []⟩ = false) := by simp [Hid, rightP, h1, h2]
        clear h1
        go_enter Tryz.func23, Tryz.ntmps23
        go_wp2_with fail
        refine HN.out.mono ?_
        rintro e w1 ⟨rfl, rfl⟩
        go_wp2
        go_ret
        exact ⟨by rw [E.out]; first | rfl | simp [hb], HLB.out⟩
    · rw [rightP_move nm to 0 [] [] h1]
      have eb : bareP ⟨3, nm, to, 0, [], []⟩ = true := by simp [bareP]
      rw [eb, Bool.and_true]
      clear h1 eb
      cases h2 : namedB to
      · rw [h2] at HT
        rw [Bool.false_and]
        go_enter Tryz.func23, Tryz.ntmps23
        go_wp2_with fail
        refine HN.out.mono ?_
        rintro e w1 ⟨rfl, rfl⟩
        go_wp2_with fail
        refine HT.out.mono ?_
        rintro e w1 ⟨rfl, rfl⟩
        go_wp2
        go_ret
        exact ⟨rfl, HLB.out⟩
      · rw [h2] at HT
        rw [Bool.true_and]
        by_cases h3 : to = nm
        · subst h3
          rw [decide_eq_false (fun h : to ≠ to => h rfl)]
          go_enter Tryz.func23, Tryz.ntmps23
          go_wp2_with fail
          refine HN.out.mono ?_
          rintro e w1 ⟨rfl, rfl⟩
          go_wp2_with fail
          refine HT.out.mono ?_
          rintro e w1 ⟨rfl, rfl⟩
          go_wp2
          go_ret
          exact ⟨by simp, HLB.out⟩
        · rw [decide_eq_true h3]
          have hb := text_ne h3
          go_enter Tryz.func23, Tryz.ntmps23
          go_wp2_with fail
          refine HN.out.mono ?_
          rintro e w1 ⟨rfl, rfl⟩
          go_wp2_with fail
          refine HT.out.mono ?_
          rintro e w1 ⟨rfl, rfl⟩
          go_wp2
          go_ret
          exact ⟨by first | rfl | simp [hb], HLB.out⟩
  · have E : Hid (rightP ⟨kd, nm, to, pl, old, new⟩ = false) := by
      have hb : bareP ⟨kd, nm, to, pl, old, new⟩ = false := by
        cases hq : bareP ⟨kd, nm, to, pl, old, new⟩
        · rfl
        · simp only [bareP, Bool.and_eq_true, decide_eq_true_eq] at hq
          obtain ⟨⟨rfl, rfl⟩, rfl⟩ := hq
          exact absurd ⟨rfl, hnl.symm, hml.symm⟩ hbare
      rcases kc with rfl | rfl | rfl
      · show _ = _
        rw [rightP_one 1 nm to pl old new h1 (.inl rfl), hb, Bool.and_false]
      · show _ = _
        rw [rightP_one 2 nm to pl old new h1 (.inr rfl), hb, Bool.and_false]
      · show _ = _
        rw [rightP_move nm to pl old new h1, hb, Bool.and_false, Bool.and_false]
    rw [E.out]
    clear h1 hnl hml E
    have c0 : ¬ kd < 0 := by omega
    have c3 : ¬ 3 < kd := by omega
    by_cases hp : pl = 0
    · subst hp
      by_cases hz : 0 < n
      · clear hbare kc
        go_enter Tryz.func23, Tryz.ntmps23
        go_wp2_with fail
        refine HN.out.mono ?_
        rintro e w1 ⟨rfl, rfl⟩
        go_wp2
        go_ret
        exact ⟨rfl, HLB.out⟩
      · obtain rfl : n = 0 := by omega
        have hq : 0 < m := by omega
        clear hbare kc
        go_enter Tryz.func23, Tryz.ntmps23
        go_wp2_with fail
        refine HN.out.mono ?_
        rintro e w1 ⟨rfl, rfl⟩
        go_wp2
        go_ret
        exact ⟨rfl, HLB.out⟩
    · clear hbare kc
      go_enter Tryz.func23, Tryz.ntmps23
      go_wp2_with fail
      refine HN.out.mono ?_
      rintro e w1 ⟨rfl, rfl⟩
      go_wp2
      go_ret
      exact ⟨rfl, HLB.out⟩

end Go.Proofs.YtboffgmaohcpfaaGreatDoor

/-
  What the document's Splice comes to, as a call.
-/
namespace Go.Proofs.YtboffgmaohcpfaaGreatDoor
open Go.RowKit

set_option maxRecDepth 100000 in
set_option maxHeartbeats 400000 in
theorem refSplice_out (A B C : Option Addr) (n c m d p q : Nat) (l old with_ : List ByteArray) (k : Int) (w : World) (hx : Row w A n l) (hy : Row w B m old) (hn : n ≤ 65536)
    (hk0 : -9223372036854775808 ≤ k) (hk1 : k ≤ 9223372036854775807) (h : ¬ (0 ≤ k ∧ k + m ≤ n)) :
    Calls Tryz.prog 25 #[.slice A n c, .int .i64 k, .slice B m d, .slice C p q] w (Spl l k m old with_ w) := by
  have e : standsB l k old = false := standsB_out (by rw [hx.len, hy.len]; exact h)
  have fin : Spl l k m old with_ w (.returned (.tuple #[.slice none 0 0, .bool false])) w := .inl ⟨e, rfl, Later.refl w⟩
  have F := Lib.hid fin; clear fin e hx hy
  by_cases h0 : k < 0
  · go_enter Tryz.func25, Tryz.ntmps25
    go_wp2
    go_ret2
    exact F.out
  · by_cases h1 : (n : Int) < k
    · go_enter Tryz.func25, Tryz.ntmps25
      go_wp2
      go_ret2
      exact F.out
    · have h2 : (n : Int) - k < m := by omega
      clear h
      go_enter Tryz.func25, Tryz.ntmps25
      go_wp2
      go_ret2
      exact F.out

set_option maxRecDepth 100000 in
set_option maxHeartbeats 400000 in
theorem refSplice_in (A B C : Option Addr) (n c m d p q : Nat) (l old with_ : List ByteArray) (k : Nat) (w : World) (hx : Row w A n l) (hy : Row w B m old) (hz : Row w C p with_) (hc : n ≤ c) (hn : n ≤ 65536) (hm : m ≤ 65536) (hp : p ≤ 65536)
    (hkm : k + m ≤ n) :
    Calls Tryz.prog 25 #[.slice A n c, .int .i64 k, .slice B m d, .slice C p q] w (Spl l k m old with_ w) := by
  obtain ⟨i0, hi, hz0, hz1, hz2⟩ := info_parts Tryz.textInfo
  have hst : standsB l k old = sameB ((l.drop k).take m) old := by rw [standsB_in (by rw [hx.len, hy.len]; exact hkm), hy.len]
  have hlen : ((l.drop k).take m).length = m := by rw [List.length_take, List.length_drop, hx.len]; omega
  have ST := Lib.hid hst; clear hst
  have HL := Lib.hid hlen; clear hlen
  have HX := Lib.hid hx; clear hx
  have HY := Lib.hid hy; clear hy
  have HZ := Lib.hid hz; clear hz
  have h1 : ¬ (n : Int) < k := by omega
  have h2 : ¬ (n : Int) - k < m := by omega
  go_enter Tryz.func25, Tryz.ntmps25
  go_wp2
  go_loopg [10] m (fun g s10 wr => ∃ j : Nat, j ≤ m ∧ m - j ≤ g ∧ s10 = .int .i64 j ∧ Drew w wr ∧ Hid (((l.drop k).take m).take j = old.take j))
  case atStart => exact ⟨0, Nat.zero_le _, by omega, rfl, Drew.refl w, by simp [Hid]⟩
  case round =>
    obtain ⟨j, hj, hg, rfl, hwr, heq⟩ := hrel
    by_cases hlt : j < m
    · obtain ⟨b1, o1, rfl, g1⟩ := (HX.out.later hwr.later).get (show k + j < n by omega)
      obtain ⟨b2, o2, rfl, g2⟩ := (HY.out.later hwr.later).get hlt
      have w1 : IntKind.i64.wrap ((k : Int) + (j : Int)) = (k : Int) + (j : Int) := IntWalk.i64_in _ (by omega)
      have t1 : ((k : Int) + (j : Int)).toNat = k + j := by omega
      have p1 : (0 : Int) ≤ (k : Int) + (j : Int) := by omega
      have p2 : (k : Int) + (j : Int) < n := by omega
      have hgd := getD_piece (l := l) (k := k) hlt
      by_cases hxy : l.getD (k + j) ByteArray.empty = old.getD j ByteArray.empty
      · have hst := take_same (by rw [HL.out]; exact hlt) (by rw [HY.out.len]; exact hlt) heq.out (by rw [hgd]; exact hxy)
        rw [hxy] at g1
        generalize old.getD j ByteArray.empty = y at g1 g2
        clear hgd hxy heq
        go_wp2_with fail
        go_quiet (fail)
        clear w1 t1 p1 p2
        go_wp2
        go_roundg (m - (j + 1))
        case measure => omega
        case rel => exact ⟨j + 1, by omega, by omega, by go_num, hwr.more _, hst⟩
      · have e : standsB l k old = false := by
          rw [ST.out]; exact beq_of_other (k := j) (by rw [hgd]; exact hxy)
        have F : Hid (∀ W, Later w W → Spl l k m old with_ w (.returned (.tuple #[.slice none 0 0, .bool false])) W) := fun W hW => .inl ⟨e, rfl, hW⟩
        have hb := text_ne hxy
        generalize l.getD (k + j) ByteArray.empty = x at g1 hb
        generalize old.getD j ByteArray.empty = y at g2 hb
        clear hgd hxy heq e
        go_wp2_with fail
        go_quiet (fail)
        clear w1 t1 p1 p2
        go_wp2
        go_ret2
        exact F.out _ (hwr.more _).later
    · have e : standsB l k old = true := by
        rw [ST.out]
        refine sameB_yes ?_
        have := heq.out
        have ej : j = m := by omega
        rw [ej, List.take_take, Nat.min_self, List.take_of_length_le (l := old) (by rw [HY.out.len]; exact Nat.le_refl _)] at this
        exact this
      have E := Lib.hid e; clear e heq
      have l1 : (l.take k).length ≤ 65536 := by rw [List.length_take, HX.out.len]; omega
      have r1 := (HX.out.later hwr.later).take (show k ≤ n by omega)
      have ZL : with_.length ≤ 65536 := by rw [HZ.out.len]; exact hp
      have ef : spliced l (k : Int).toNat m with_ = [] ++ l.take k ++ with_ ++ l.drop (k + m) := by simp [spliced]
      have l4 : (l.drop (k + m)).length ≤ 65536 := by rw [List.length_drop, HX.out.len]; omega
      generalize l.take k = s1 at r1 l1 ef
      have HR1 := Lib.hid r1; clear r1
      have hkc : (k : Int) ≤ c := by omega
      have p3 : (k : Int) + (m : Int) ≤ n := by omega
      have t3 : ((k : Int) + (m : Int)).toNat = k + m := by omega
      by_cases hcm : c = k + m
      · have hnk : n = k + m := by omega
        have hd : l.drop (k + m) = [] := List.drop_of_length_le (by rw [HX.out.len]; omega)
        rw [hd] at ef
        have EF := Lib.hid ef; clear ef hd l4
        have HR4 : Hid (∀ W, Later w W → Row W A 0 []) := fun W _ => Row.none
        subst hcm
        subst hnk
        go_wp2_with (first
          | (at_builtin; refine wpList_append_row (w0 := w) rfl _ _ 32 rfl i0 Tryz.underlying32 hi hz0 hz1 hz2 (Own.empty hwr.later) rfl _ _ _ _ rfl (HR1.out.later ((Later.refl _).alloc _)) (by simp; omega) ?_; intro v2 w2 hown2 hg2; have HO2 := Lib.hid hown2; clear hown2 hg2)
          | (at_builtin; refine wpList_append_row rfl _ _ 32 rfl i0 Tryz.underlying32 hi hz0 hz1 hz2 HO2.out rfl _ _ _ _ rfl (HZ.out.later HO2.out.later) (by simp; omega) ?_; intro v3 w3 hown3 hg3; have HO3 := Lib.hid hown3; clear hown3 hg3)
          | (at_builtin; refine wpList_append_row rfl _ _ 32 rfl i0 Tryz.underlying32 hi hz0 hz1 hz2 HO3.out rfl _ _ _ _ rfl (HR4.out _ HO3.out.later) (by simp; omega) ?_; intro v5 w5 hown5 hg5; have HO5 := Lib.hid hown5; clear hown5 hg5))
        go_ret2
        refine .inr ⟨E.out, ?_⟩
        rw [EF.out]
        obtain ⟨A6, c6, hv, hcc, hr6⟩ := HO5.out.row
        exact ⟨A6, c6, by rw [← hv]; rfl, hcc, hr6, HO5.out.later⟩
      · have r4 : ∀ W, Later w W → Row W (A.map (·.add (k + m))) (n - (k + m)) (l.drop (k + m)) := fun W hW => by
          have := (HX.out.later hW).cut (f := k + m) (c := c) hkm hc
          rw [if_neg hcm] at this
          exact this
        generalize l.drop (k + m) = s4 at r4 l4 ef
        have EF := Lib.hid ef; clear ef
        have HR4 := Lib.hid r4; clear r4
        go_wp2_with (first
          | (at_builtin; refine wpList_append_row (w0 := w) rfl _ _ 32 rfl i0 Tryz.underlying32 hi hz0 hz1 hz2 (Own.empty hwr.later) rfl _ _ _ _ rfl (HR1.out.later ((Later.refl _).alloc _)) (by simp; omega) ?_; intro v2 w2 hown2 hg2; have HO2 := Lib.hid hown2; clear hown2 hg2)
          | (at_builtin; refine wpList_append_row rfl _ _ 32 rfl i0 Tryz.underlying32 hi hz0 hz1 hz2 HO2.out rfl _ _ _ _ rfl (HZ.out.later HO2.out.later) (by simp; omega) ?_; intro v3 w3 hown3 hg3; have HO3 := Lib.hid hown3; clear hown3 hg3)
          | (at_builtin; refine wpList_append_row rfl _ _ 32 rfl i0 Tryz.underlying32 hi hz0 hz1 hz2 HO3.out rfl _ _ _ _ rfl (HR4.out _ HO3.out.later) (by simp; omega) ?_; intro v5 w5 hown5 hg5; have HO5 := Lib.hid hown5; clear hown5 hg5))
        go_ret2
        refine .inr ⟨E.out, ?_⟩
        rw [EF.out]
        obtain ⟨A6, c6, hv, hcc, hr6⟩ := HO5.out.row
        exact ⟨A6, c6, by rw [← hv]; rfl, hcc, hr6, HO5.out.later⟩

theorem refSplice_any (A B C : Option Addr) (n c m d p q : Nat) (l old with_ : List ByteArray) (k : Int) (w : World) (hx : Row w A n l) (hy : Row w B m old) (hz : Row w C p with_) (hc : n ≤ c) (hn : n ≤ 65536) (hm : m ≤ 65536) (hp : p ≤ 65536)
    (hk0 : -9223372036854775808 ≤ k) (hk1 : k ≤ 9223372036854775807) :
    Calls Tryz.prog 25 #[.slice A n c, .int .i64 k, .slice B m d, .slice C p q] w (Spl l k m old with_ w) := by
  by_cases h : 0 ≤ k ∧ k + m ≤ n
  · obtain ⟨i, rfl⟩ := Int.eq_ofNat_of_zero_le h.1
    exact refSplice_in A B C n c m d p q l old with_ i w hx hy hz hc hn hm hp (by omega)
  · exact refSplice_out A B C n c m d p q l old with_ k w hx hy hn hk0 hk1 h

end Go.Proofs.YtboffgmaohcpfaaGreatDoor
