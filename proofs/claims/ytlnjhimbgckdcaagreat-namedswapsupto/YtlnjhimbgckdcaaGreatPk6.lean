import Derived.Test.YtlnjhimbgckdcaaGreatPk4
import Derived.Test.YtlnjhimbgckdcaaGreatPk5
import Derived.Test.YtlnjhimbgckdcaaGreatPk2
import Derived.Deep.LoopGhost
import Derived.Deep.QuietTactic
import Derived.BigQuiet
import Derived.Lib.Hide
import Derived.Shelf.LaysM
import Derived.Ground.GgzProg
import Derived.Ground.SlgmProg
import Derived.Shelf.SlIter.Nil
import Derived.Shelf.SortM.Plain
import Derived.Shelf.SortM.SortNone
import Derived.Test.YtlnjhimbgckdcaaGreatProg
import Derived.Test.YtlnjhimbgckdcaaGreatChecked
import Derived.Test.YtlnjhimbgckdcaaGreatPk3
import Derived.Sort.KeysCollected
import Derived.Sort.OwnSorted

/-
  What the document's Right comes to, as a call.
-/
namespace Go.Proofs.YtlnjhimbgckdcaaGreat
open Go.RowKit

set_option maxRecDepth 100000 in
set_option maxHeartbeats 800000 in
theorem refRightP_any (x : PrC) (w : World) (hx : PrOk w x) :
    Calls Tryz.prog 54 #[prV x] w (Says (rightP x.v) w) := by
  obtain ⟨⟨kd, nm, to, pl, old, new⟩, A, n, c, B, m, d⟩ := x
  have hlb : Later w (w.alloc (.cells #[.int .i64 kd, .string nm, .string to, .int .i64 pl, .slice A n c, .slice B m d] 89)) := (Later.refl w).alloc _
  have hn := refNamed_any nm (w.alloc (.cells #[.int .i64 kd, .string nm, .string to, .int .i64 pl, .slice A n c, .slice B m d] 89)) hx.name
  have ht := refNamed_any to (w.alloc (.cells #[.int .i64 kd, .string nm, .string to, .int .i64 pl, .slice A n c, .slice B m d] 89)) hx.to
  have H1 := Lib.hid (refAll_any A n c old _ (hx.old.later hlb) hx.omost hx.olds)
  have H2 := Lib.hid (refAll_any B m d new _ (hx.new.later hlb) hx.nmost hx.news)
  have H3 := Lib.hid (refSame_any A B n c m d old new _ (hx.old.later hlb) (hx.new.later hlb) hx.omost hx.nmost)
  have hnl := hx.old.len
  have hml := hx.new.len
  have hn1 := hx.omost
  have hm1 := hx.nmost
  have HLB := Lib.hid hlb
  unfold prV
  dsimp only at hnl hml hn1 hm1 ⊢
  clear hx hlb
  cases h1 : namedB nm
  · rw [h1] at hn
    have HN := Lib.hid hn
    rw [rightP_name kd nm to pl old new h1]
    clear hn ht h1
    go_enter Tryz.func54, Tryz.ntmps54
    go_wp2_with fail
    refine HN.out.mono ?_
    rintro e w1 ⟨rfl, rfl⟩
    go_wp2
    go_ret
    exact ⟨rfl, HLB.out⟩
  rw [h1] at hn
  have HN := Lib.hid hn
  have HT := Lib.hid ht
  clear hn ht
  by_cases k0 : kd = 0
  · subst k0
    rw [rightP_hunk nm to pl old new h1]
    clear h1
    by_cases h2 : to = ByteArray.empty
    · subst h2
      by_cases h3 : 0 ≤ pl
      · by_cases h4 : pl ≤ 1048576
        · rw [decide_eq_true (show 0 ≤ pl ∧ pl ≤ 1048576 from ⟨h3, h4⟩), decide_eq_true (rfl : ByteArray.empty = ByteArray.empty), Bool.true_and, Bool.true_and]
          have d3 : ¬ pl < 0 := by omega
          have d4 : ¬ 1048576 < pl := by omega
          cases h5 : allB old
          · rw [h5] at H1
            go_enter Tryz.func54, Tryz.ntmps54
            go_wp2_with fail
            refine HN.out.mono ?_
            rintro e w1 ⟨rfl, rfl⟩
            go_wp2_with fail
            refine H1.out.mono ?_
            rintro e w1 ⟨rfl, rfl⟩
            go_wp2
            go_ret
            exact ⟨rfl, HLB.out⟩
          · rw [h5] at H1
            cases h6 : allB new
            · rw [h6] at H2
              go_enter Tryz.func54, Tryz.ntmps54
              go_wp2_with fail
              refine HN.out.mono ?_
              rintro e w1 ⟨rfl, rfl⟩
              go_wp2_with fail
              refine H1.out.mono ?_
              rintro e w1 ⟨rfl, rfl⟩
              go_wp2_with fail
              refine H2.out.mono ?_
              rintro e w1 ⟨rfl, rfl⟩
              go_wp2
              go_ret
              exact ⟨rfl, HLB.out⟩
            · rw [h6] at H2
              generalize sameB old new = b at H3 ⊢
              go_enter Tryz.func54, Tryz.ntmps54
              go_wp2_with fail
              refine HN.out.mono ?_
              rintro e w1 ⟨rfl, rfl⟩
              go_wp2_with fail
              refine H1.out.mono ?_
              rintro e w1 ⟨rfl, rfl⟩
              go_wp2_with fail
              refine H2.out.mono ?_
              rintro e w1 ⟨rfl, rfl⟩
              go_wp2_with fail
              refine H3.out.mono ?_
              rintro e w1 ⟨rfl, q, rfl⟩
              go_wp2
              go_ret
              exact ⟨rfl, HLB.out.drewN q⟩
        · have e : ¬ (0 ≤ pl ∧ pl ≤ 1048576) := fun h => h4 h.2
          rw [decide_eq_false e, Bool.and_false, Bool.false_and]
          have d3 : ¬ pl < 0 := by omega
          have d4 : 1048576 < pl := by omega
          clear e
          go_enter Tryz.func54, Tryz.ntmps54
          go_wp2_with fail
          refine HN.out.mono ?_
          rintro e w1 ⟨rfl, rfl⟩
          go_wp2
          go_ret
          exact ⟨rfl, HLB.out⟩
      · have e : ¬ (0 ≤ pl ∧ pl ≤ 1048576) := fun h => h3 h.1
        rw [decide_eq_false e, Bool.and_false, Bool.false_and]
        have d3 : pl < 0 := by omega
        clear e
        go_enter Tryz.func54, Tryz.ntmps54
        go_wp2_with fail
        refine HN.out.mono ?_
        rintro e w1 ⟨rfl, rfl⟩
        go_wp2
        go_ret
        exact ⟨rfl, HLB.out⟩
    · have hb := list_ne h2
      rw [decide_eq_false h2, Bool.false_and, Bool.false_and]
      go_enter Tryz.func54, Tryz.ntmps54
      go_wp2_with fail
      refine HN.out.mono ?_
      rintro e w1 ⟨rfl, rfl⟩
      go_wp2
      go_ret
      exact ⟨rfl, HLB.out⟩
  by_cases kb : kd < 0 ∨ 3 < kd
  · rw [rightP_none kd nm to pl old new (by omega) (by omega) (by omega) (by omega)]
    clear h1
    rcases kb with kb | kb
    · go_enter Tryz.func54, Tryz.ntmps54
      go_wp2_with fail
      refine HN.out.mono ?_
      rintro e w1 ⟨rfl, rfl⟩
      go_wp2
      go_ret
      exact ⟨rfl, HLB.out⟩
    · have kb' : ¬ kd < 0 := by omega
      go_enter Tryz.func54, Tryz.ntmps54
      go_wp2_with fail
      refine HN.out.mono ?_
      rintro e w1 ⟨rfl, rfl⟩
      go_wp2
      go_ret
      exact ⟨rfl, HLB.out⟩
  have kc : kd = 1 ∨ kd = 2 ∨ kd = 3 := by omega
  clear kb
  by_cases hbare : pl = 0 ∧ n = 0 ∧ m = 0
  · obtain ⟨rfl, rfl, rfl⟩ := hbare
    obtain rfl : old = [] := List.eq_nil_of_length_eq_zero hnl
    obtain rfl : new = [] := List.eq_nil_of_length_eq_zero hml
    rcases kc with rfl | rfl | rfl
    · by_cases h2 : to = ByteArray.empty
      · subst h2
        have E : Hid (rightP ⟨1, nm, ByteArray.empty, 0, [], []⟩ = true) := by simp [Hid, rightP, h1]
        clear h1
        go_enter Tryz.func54, Tryz.ntmps54
        go_wp2_with fail
        refine HN.out.mono ?_
        rintro e w1 ⟨rfl, rfl⟩
        go_wp2
        go_ret
        exact ⟨ret_bool E.out.symm, HLB.out⟩
      · have hb := list_ne h2
        have E : Hid (rightP ⟨1, nm, to, 0, [], []⟩ = false) := by simp [Hid, rightP, h1, h2]
        clear h1
        go_enter Tryz.func54, Tryz.ntmps54
        go_wp2_with fail
        refine HN.out.mono ?_
        rintro e w1 ⟨rfl, rfl⟩
        go_wp2
        go_ret
        exact ⟨by rw [E.out]; first | rfl | simp [hb], HLB.out⟩
    · by_cases h2 : to = ByteArray.empty
      · subst h2
        have E : Hid (rightP ⟨2, nm, ByteArray.empty, 0, [], []⟩ = true) := by simp [Hid, rightP, h1]
        clear h1
        go_enter Tryz.func54, Tryz.ntmps54
        go_wp2_with fail
        refine HN.out.mono ?_
        rintro e w1 ⟨rfl, rfl⟩
        go_wp2
        go_ret
        exact ⟨ret_bool E.out.symm, HLB.out⟩
      · have hb := list_ne h2
        have E : Hid (rightP ⟨2, nm, to, 0, [], []⟩ = false) := by simp [Hid, rightP, h1, h2]
        clear h1
        go_enter Tryz.func54, Tryz.ntmps54
        go_wp2_with fail
        refine HN.out.mono ?_
        rintro e w1 ⟨rfl, rfl⟩
        go_wp2
        go_ret
        exact ⟨by rw [E.out]; first | rfl | simp [hb], HLB.out⟩
    · rw [rightP_move nm to 0 [] [] h1]
      have eb : bareP ⟨3, nm, to, 0, [], []⟩ = true := by simp [bareP]
      rw [eb, Bool.and_true]
      clear h1 eb
      cases h2 : namedB to
      · rw [h2] at HT
        rw [Bool.false_and]
        go_enter Tryz.func54, Tryz.ntmps54
        go_wp2_with fail
        refine HN.out.mono ?_
        rintro e w1 ⟨rfl, rfl⟩
        go_wp2_with fail
        refine HT.out.mono ?_
        rintro e w1 ⟨rfl, rfl⟩
        go_wp2
        go_ret
        exact ⟨rfl, HLB.out⟩
      · rw [h2] at HT
        rw [Bool.true_and]
        by_cases h3 : to = nm
        · subst h3
          rw [decide_eq_false (fun h : to ≠ to => h rfl)]
          go_enter Tryz.func54, Tryz.ntmps54
          go_wp2_with fail
          refine HN.out.mono ?_
          rintro e w1 ⟨rfl, rfl⟩
          go_wp2_with fail
          refine HT.out.mono ?_
          rintro e w1 ⟨rfl, rfl⟩
          go_wp2
          go_ret
          exact ⟨by simp, HLB.out⟩
        · rw [decide_eq_true h3]
          have hb := text_ne h3
          go_enter Tryz.func54, Tryz.ntmps54
          go_wp2_with fail
          refine HN.out.mono ?_
          rintro e w1 ⟨rfl, rfl⟩
          go_wp2_with fail
          refine HT.out.mono ?_
          rintro e w1 ⟨rfl, rfl⟩
          go_wp2
          go_ret
          exact ⟨by first | rfl | simp [hb], HLB.out⟩
  · have E : Hid (rightP ⟨kd, nm, to, pl, old, new⟩ = false) := by
      have hb : bareP ⟨kd, nm, to, pl, old, new⟩ = false := by
        cases hq : bareP ⟨kd, nm, to, pl, old, new⟩
        · rfl
        · simp only [bareP, Bool.and_eq_true, decide_eq_true_eq] at hq
          obtain ⟨⟨rfl, rfl⟩, rfl⟩ := hq
          exact absurd ⟨rfl, hnl.symm, hml.symm⟩ hbare
      rcases kc with rfl | rfl | rfl
      · show _ = _
        rw [rightP_one 1 nm to pl old new h1 (.inl rfl), hb, Bool.and_false]
      · show _ = _
        rw [rightP_one 2 nm to pl old new h1 (.inr rfl), hb, Bool.and_false]
      · show _ = _
        rw [rightP_move nm to pl old new h1, hb, Bool.and_false, Bool.and_false]
    rw [E.out]
    clear h1 hnl hml E
    have c0 : ¬ kd < 0 := by omega
    have c3 : ¬ 3 < kd := by omega
    by_cases hp : pl = 0
    · subst hp
      by_cases hz : 0 < n
      · clear hbare kc
        go_enter Tryz.func54, Tryz.ntmps54
        go_wp2_with fail
        refine HN.out.mono ?_
        rintro e w1 ⟨rfl, rfl⟩
        go_wp2
        go_ret
        exact ⟨rfl, HLB.out⟩
      · obtain rfl : n = 0 := by omega
        have hq : 0 < m := by omega
        clear hbare kc
        go_enter Tryz.func54, Tryz.ntmps54
        go_wp2_with fail
        refine HN.out.mono ?_
        rintro e w1 ⟨rfl, rfl⟩
        go_wp2
        go_ret
        exact ⟨rfl, HLB.out⟩
    · clear hbare kc
      go_enter Tryz.func54, Tryz.ntmps54
      go_wp2_with fail
      refine HN.out.mono ?_
      rintro e w1 ⟨rfl, rfl⟩
      go_wp2
      go_ret
      exact ⟨rfl, HLB.out⟩

end Go.Proofs.YtlnjhimbgckdcaaGreat

/-
  What the document's Same on prims comes to, as a call.
-/
namespace Go.Proofs.YtlnjhimbgckdcaaGreat
open Go.RowKit

set_option maxRecDepth 100000 in
set_option maxHeartbeats 800000 in
theorem refSameP_any (x y : PrC) (w : World) (hx : PrOk w x) (hy : PrOk w y) :
    Calls Tryz.prog 52 #[prV x, prV y] w (Says (sameP x.v y.v) w) := by
  obtain ⟨⟨kd, nm, to, pl, old, new⟩, A, n, c, B, m, d⟩ := x
  obtain ⟨⟨kd', nm', to', pl', old', new'⟩, A', n', c', B', m', d'⟩ := y
  have hlb : Later w ((w.alloc (.cells #[.int .i64 kd, .string nm, .string to, .int .i64 pl, .slice A n c, .slice B m d] 89)).alloc (.cells #[.int .i64 kd', .string nm', .string to', .int .i64 pl', .slice A' n' c', .slice B' m' d'] 89)) := ((Later.refl w).alloc _).alloc _
  have H1 := Lib.hid (refSame_any A A' n c n' c' old old' _ (hx.old.later hlb) (hy.old.later hlb) hx.omost hy.omost)
  have H2 := Lib.hid (fun (w1 : World) (h : Later w w1) => refSame_any B B' m d m' d' new new' w1 (hx.new.later h) (hy.new.later h) hx.nmost hy.nmost)
  have HLB := Lib.hid hlb
  have HX := Lib.hid hx; have HY := Lib.hid hy
  unfold prV
  dsimp only
  clear hx hy hlb
  by_cases h1 : kd = kd'
  · subst h1
    by_cases h2 : nm = nm'
    · subst h2
      by_cases h3 : to = to'
      · subst h3
        by_cases h4 : pl = pl'
        · subst h4
          have E : Hid (sameP ⟨kd, nm, to, pl, old, new⟩ ⟨kd, nm, to, pl, old', new'⟩ = (sameB old old' && sameB new new')) := by simp [Hid, sameP]
          rw [E.out]
          clear E
          cases h5 : sameB old old'
          · rw [h5] at H1
            rw [Bool.false_and]
            go_enter Tryz.func52, Tryz.ntmps52
            go_wp2_with fail
            refine H1.out.mono ?_
            rintro e w1 ⟨rfl, q, rfl⟩
            go_wp2
            go_ret
            exact ⟨rfl, HLB.out.drewN q⟩
          · rw [h5] at H1
            rw [Bool.true_and]
            generalize sameB new new' = b at H2 ⊢
            go_enter Tryz.func52, Tryz.ntmps52
            go_wp2_with fail
            refine H1.out.mono ?_
            rintro e w1 ⟨rfl, q, rfl⟩
            go_wp2_with fail
            refine (H2.out _ (HLB.out.drewN q)).mono ?_
            rintro e w1 ⟨rfl, q2, rfl⟩
            go_wp2
            go_ret
            exact ⟨rfl, HLB.out.drewN _⟩
        · have E : Hid (sameP ⟨kd, nm, to, pl, old, new⟩ ⟨kd, nm, to, pl', old', new'⟩ = false) := by simp [Hid, sameP, h4]
          rw [E.out]
          clear E
          go_enter Tryz.func52, Tryz.ntmps52
          go_wp2
          go_ret
          exact ⟨rfl, HLB.out⟩
      · have E : Hid (sameP ⟨kd, nm, to, pl, old, new⟩ ⟨kd, nm, to', pl', old', new'⟩ = false) := by simp [Hid, sameP, h3]
        rw [E.out]
        have hb := text_ne h3
        clear E
        go_enter Tryz.func52, Tryz.ntmps52
        go_wp2
        go_ret
        exact ⟨rfl, HLB.out⟩
    · have E : Hid (sameP ⟨kd, nm, to, pl, old, new⟩ ⟨kd, nm', to', pl', old', new'⟩ = false) := by simp [Hid, sameP, h2]
      rw [E.out]
      have hb := text_ne h2
      clear E
      go_enter Tryz.func52, Tryz.ntmps52
      go_wp2
      go_ret
      exact ⟨rfl, HLB.out⟩
  · have E : Hid (sameP ⟨kd, nm, to, pl, old, new⟩ ⟨kd', nm', to', pl', old', new'⟩ = false) := by simp [Hid, sameP, h1]
    rw [E.out]
    clear E
    go_enter Tryz.func52, Tryz.ntmps52
    go_wp2
    go_ret
    exact ⟨rfl, HLB.out⟩

end Go.Proofs.YtlnjhimbgckdcaaGreat

/-
  What calls of the library come to, laid at this program: the names of a map, sorted.
-/
namespace Go.Proofs
open Go.Shelf
def Tryz.laysSort_ren : Go.Shelf.Ren := ⟨fun | 6 => 99 | 8 => 103 | 9 => 102 | 19 => 113 | 20 => 114 | 21 => 104 | 22 => 105 | 23 => 106 | 24 => 107 | 25 => 108 | 26 => 109 | 27 => 110 | 28 => 111 | 29 => 112 | 36 => 115 | 31 => 116 | 32 => 117 | 37 => 118 | 38 => 119 | 39 => 120 | 41 => 121 | n => n, fun | 27 => 56 | 29 => 9 | 3 => 3 | 32 => 117 | 26 => 56 | 0 => 0 | 44 => 122 | 46 => 140 | 4 => 4 | 36 => 132 | 35 => 131 | 41 => 136 | 5 => 5 | 9 => 9 | 53 => 141 | 57 => 145 | 63 => 147 | 64 => 148 | n => n, fun | n => n⟩
theorem Tryz.laysSort : Go.Proofs.SlLaysM.n6 Tryz.prog Tryz.laysSort_ren := {
  mixed := by kernel_rfl
  f6 := ⟨Tryz.f99.name, by decide, Tryz.func99.trans (congrArg some (by kernel_rfl))⟩
  f8 := Tryz.func103.trans (congrArg some (by kernel_rfl))
  f9 := ⟨Tryz.f102.name, by decide, Tryz.func102.trans (congrArg some (by kernel_rfl))⟩
  f19 := Tryz.func113.trans (congrArg some (by kernel_rfl))
  f20 := Tryz.func114.trans (congrArg some (by kernel_rfl))
  f21 := ⟨Tryz.f104.name, by decide, Tryz.func104.trans (congrArg some (by kernel_rfl))⟩
  f22 := ⟨Tryz.f105.name, by decide, Tryz.func105.trans (congrArg some (by kernel_rfl))⟩
  f23 := ⟨Tryz.f106.name, by decide, Tryz.func106.trans (congrArg some (by kernel_rfl))⟩
  f24 := ⟨Tryz.f107.name, by decide, Tryz.func107.trans (congrArg some (by kernel_rfl))⟩
  f25 := ⟨Tryz.f108.name, by decide, Tryz.func108.trans (congrArg some (by kernel_rfl))⟩
  f26 := ⟨Tryz.f109.name, by decide, Tryz.func109.trans (congrArg some (by kernel_rfl))⟩
  f27 := ⟨Tryz.f110.name, by decide, Tryz.func110.trans (congrArg some (by kernel_rfl))⟩
  f28 := ⟨Tryz.f111.name, by decide, Tryz.func111.trans (congrArg some (by kernel_rfl))⟩
  f29 := ⟨Tryz.f112.name, by decide, Tryz.func112.trans (congrArg some (by kernel_rfl))⟩
  f31 := Tryz.func116.trans (congrArg some (by kernel_rfl))
  f32 := Tryz.func117.trans (congrArg some (by kernel_rfl))
  f36 := ⟨Tryz.f115.name, by decide, Tryz.func115.trans (congrArg some (by kernel_rfl))⟩
  f37 := ⟨Tryz.f118.name, by decide, Tryz.func118.trans (congrArg some (by kernel_rfl))⟩
  f38 := ⟨Tryz.f119.name, by decide, Tryz.func119.trans (congrArg some (by kernel_rfl))⟩
  f39 := ⟨Tryz.f120.name, by decide, Tryz.func120.trans (congrArg some (by kernel_rfl))⟩
  f41 := ⟨Tryz.f121.name, by decide, Tryz.func121.trans (congrArg some (by kernel_rfl))⟩
  t0 := Tryz.underlying0
  a0 := Tryz.isAgg0
  z0 := Tryz.sizeOf0
  v0 := Tryz.zeroValue0
  t3 := Tryz.underlying3
  a3 := Tryz.isAgg3
  z3 := Tryz.sizeOf3
  v3 := Tryz.zeroValue3
  t4 := Tryz.underlying4
  a4 := Tryz.isAgg4
  z4 := Tryz.sizeOf4
  v4 := Tryz.zeroValue4
  t5 := Tryz.underlying5
  a5 := Tryz.isAgg5
  z5 := Tryz.sizeOf5
  v5 := Tryz.zeroValue5
  t9 := Tryz.underlying9
  a9 := Tryz.isAgg9
  z9 := Tryz.sizeOf9
  v9 := Tryz.zeroValue9
  t26 := Tryz.underlying56
  a26 := Tryz.isAgg56
  z26 := Tryz.sizeOf56
  v26 := Tryz.zeroValue56
  t27 := Tryz.underlying56
  a27 := Tryz.isAgg56
  z27 := Tryz.sizeOf56
  v27 := Tryz.zeroValue56
  t29 := Tryz.underlying9
  a29 := Tryz.isAgg9
  z29 := Tryz.sizeOf9
  v29 := Tryz.zeroValue9
  t32 := Tryz.underlying117
  a32 := Tryz.isAgg117
  z32 := Tryz.sizeOf117
  v32 := Tryz.zeroValue117
  t35 := Tryz.underlying131
  a35 := Tryz.isAgg131
  z35 := Tryz.sizeOf131
  v35 := Tryz.zeroValue131
  t36 := Tryz.underlying132
  a36 := Tryz.isAgg132
  z36 := Tryz.sizeOf132
  v36 := Tryz.zeroValue132
  t41 := Tryz.underlying136
  a41 := Tryz.isAgg136
  z41 := Tryz.sizeOf136
  v41 := Tryz.zeroValue136
  t44 := Tryz.underlying122
  a44 := Tryz.isAgg122
  z44 := Tryz.sizeOf122
  v44 := Tryz.zeroValue122
  t46 := Tryz.underlying140
  a46 := Tryz.isAgg140
  z46 := Tryz.sizeOf140
  v46 := Tryz.zeroValue140
  t53 := Tryz.underlying141
  a53 := Tryz.isAgg141
  z53 := Tryz.sizeOf141
  v53 := Tryz.zeroValue141
  t57 := Tryz.underlying145
  a57 := Tryz.isAgg145
  z57 := Tryz.sizeOf145
  v57 := Tryz.zeroValue145
  t63 := Tryz.underlying147
  a63 := Tryz.isAgg147
  z63 := Tryz.sizeOf147
  v63 := Tryz.zeroValue147
  t64 := Tryz.underlying148
  a64 := Tryz.isAgg148
  z64 := Tryz.sizeOf148
  v64 := Tryz.zeroValue148 }
open Go.RowKit Go.Maps Go.Sort
end Go.Proofs

/-
  What tree's Names comes to, as a call.
-/
namespace Go.Proofs.YtlnjhimbgckdcaaGreat
open Go.RowKit Go.Maps Go.Sort

theorem before_lt : ∀ a b : List UInt8, bytesBefore a b = true ↔ a < b
  | [], [] => by simp [bytesBefore]
  | [], b :: s => by simp [bytesBefore]
  | a :: r, [] => by simp [bytesBefore]
  | a :: r, b :: s => by
    simp only [bytesBefore, Bool.or_eq_true, decide_eq_true_eq, Bool.and_eq_true, beq_iff_eq, List.cons_lt_cons_iff, before_lt r s]

end Go.Proofs.YtlnjhimbgckdcaaGreat

/-
  What prim's Names comes to, as a call.
-/
namespace Go.Proofs.YtlnjhimbgckdcaaGreat
open Go.RowKit Go.Maps Go.Sort

theorem Row.lit2 (w : World) (o : Obj) (ss : List ByteArray) (t : TypeId) : Row ((w.alloc o).alloc (.cells (ss.map Value.string).toArray t)) (some ⟨w.heap.size + 1, 0, .none⟩) ss.length ss := by
  have := Row.lit (w.alloc o) ss t
  rw [show (w.alloc o).heap.size = w.heap.size + 1 from by simp] at this
  exact this
theorem enc_bytes (s : ByteArray) : encStr (bytes s) = .string s := by
  show Value.string (txt (bytes s)) = _
  rw [txt_bytes]

theorem sorted_two (a b : ByteArray) : ([bytes a, bytes b]).mergeSort (fun x y => decide (x ≤ y)) = (if ltN a b = true then [a, b] else [b, a]).map bytes := by
  by_cases h : ltN a b = true
  · rw [if_pos h]
    refine List.mergeSort_of_pairwise (List.pairwise_cons.2 ⟨fun y hy => ?_, List.pairwise_singleton _ _⟩)
    simp at hy
    subst hy
    simp only [decide_eq_true_eq]
    exact List.le_of_lt ((before_lt _ _).1 h)
  · rw [if_neg h]
    have e : ([bytes a, bytes b]).mergeSort leB = ([bytes b, bytes a]).mergeSort leB := mergeSort_of_perm (List.Perm.swap _ _ _)
    rw [show (fun x y : List UInt8 => decide (x ≤ y)) = leB from rfl, e]
    refine List.mergeSort_of_pairwise (List.pairwise_cons.2 ⟨fun y hy => ?_, List.pairwise_singleton _ _⟩)
    simp at hy
    subst hy
    simp only [leB, decide_eq_true_eq]
    exact List.not_lt.1 fun hl => h ((before_lt _ _).2 hl)

theorem namesP_move (nm to : ByteArray) (pl : Int) (old new : List ByteArray) : namesP ⟨3, nm, to, pl, old, new⟩ = if ltN nm to = true then [nm, to] else [to, nm] := by simp [namesP]
theorem namesP_one (k : Int) (nm to : ByteArray) (pl : Int) (old new : List ByteArray) (h : k ≠ 3) : namesP ⟨k, nm, to, pl, old, new⟩ = [nm] := by simp [namesP, h]

set_option maxRecDepth 100000 in
set_option maxHeartbeats 800000 in
theorem primNames_any (x : PrC) (w : World) : Calls Tryz.prog 93 #[prV x] w (GivesRow (namesP x.v) w) := by
  obtain ⟨⟨kd, nm, to, pl, old, new⟩, A, n, c, B, m, d⟩ := x
  unfold prV
  dsimp only
  by_cases h3 : kd = 3
  · subst h3
    have hb : ((w.alloc (.cells #[.int .i64 3, .string nm, .string to, .int .i64 pl, .slice A n c, .slice B m d] 58)).alloc (.cells #[.string nm, .string to] 9)).heap[w.heap.size + 1]? = some (.cells #[.string nm, .string to] 9 (0, 0)) := heap_alloc2_new w _ _
    have hh := holds_of_block (ss := [bytes nm, bytes to]) hb (by simp [enc_bytes])
    have hs := AnyM.slices_Sort_string Tryz.laysSort (w.heap.size + 1) 0 2 [bytes nm, bytes to] _ hh (by simp) (by simp)
    rw [sorted_two] at hs
    have hl : Later w ((w.alloc (.cells #[.int .i64 3, .string nm, .string to, .int .i64 pl, .slice A n c, .slice B m d] 58)).alloc (.cells #[.string nm, .string to] 9)) := ((Later.refl w).alloc _).alloc _
    rw [namesP_move]
    have hlen : (if ltN nm to = true then [nm, to] else [to, nm]).length = 2 := by split <;> rfl
    generalize (if ltN nm to = true then [nm, to] else [to, nm]) = l at hs hlen ⊢
    have HS := Lib.hid hs; have HB := Lib.hid hb; have HL := Lib.hid hl; have HN := Lib.hid hlen
    clear hs hb hh hl hlen
    go_enter Tryz.func93, Tryz.ntmps93
    go_wp2_with (go_at_call 99; refine HS.out.mono ?_; rintro e w1 ⟨rfl, k1, os1, rfl⟩)
    go_ret
    have h1 := ownsRow_sorted (n := k1) (os := os1) (base := w.heap.size) (g := w.heap.size + 1) (cap := 2) (ss := [bytes nm, bytes to]) (ts := l.map bytes) (by simp [HN.out]) (by omega) HB.out (by simp) (by decide) rfl
    have h2 : (l.map bytes).map encStr = l.map Value.string := by
      rw [List.map_map]
      exact List.map_congr_left fun s _ => enc_bytes s
    rw [h2] at h1
    have hl2 := HL.out.turn (B := w.heap.size + 1) (grownBy_sorted (n := k1) (os := os1) (l.map bytes).toArray) (by omega)
    have h3 : Own 9 w _ (.slice (some ⟨w.heap.size + 1, 0, none⟩) 2 2) l := ⟨by rw [HN.out]; exact h1, hl2⟩
    obtain ⟨A9, c9, hv9, hc9, hr9⟩ := h3.row
    exact ⟨A9, c9, by rw [← hv9]; rfl, hc9, hr9, hl2⟩
  · rw [namesP_one kd nm to pl old new h3]
    go_enter Tryz.func93, Tryz.ntmps93
    go_wp2
    go_ret
    exact ⟨_, _, rfl, Nat.le_refl _, Row.lit2 w _ [nm] 9, ((Later.refl w).alloc _).alloc _⟩

end Go.Proofs.YtlnjhimbgckdcaaGreat

/-
  What the document's Names comes to, as a call.
-/
namespace Go.Proofs.YtlnjhimbgckdcaaGreat
open Go.RowKit Go.Maps

set_option maxRecDepth 100000 in
set_option maxHeartbeats 800000 in
theorem refNamesP_any (x : PrC) (w : World) : Calls Tryz.prog 87 #[prV x] w (GivesRow (namesP x.v) w) := by
  obtain ⟨⟨kd, nm, to, pl, old, new⟩, A, n, c, B, m, d⟩ := x
  unfold prV
  dsimp only
  by_cases h3 : kd = 3
  · subst h3
    rw [namesP_move]
    have hlt := less_is nm to
    by_cases h : ltN nm to = true
    · rw [if_pos h]
      rw [h] at hlt
      go_enter Tryz.func87, Tryz.ntmps87
      go_wp2
      go_ret
      exact ⟨_, _, rfl, Nat.le_refl _, Row.lit2 w _ [nm, to] 9, ((Later.refl w).alloc _).alloc _⟩
    · rw [if_neg h]
      rw [Bool.eq_false_iff.2 h] at hlt
      go_enter Tryz.func87, Tryz.ntmps87
      go_wp2
      go_ret
      exact ⟨_, _, rfl, Nat.le_refl _, Row.lit2 w _ [to, nm] 9, ((Later.refl w).alloc _).alloc _⟩
  · rw [namesP_one kd nm to pl old new h3]
    go_enter Tryz.func87, Tryz.ntmps87
    go_wp2
    go_ret
    exact ⟨_, _, rfl, Nat.le_refl _, Row.lit2 w _ [nm] 9, ((Later.refl w).alloc _).alloc _⟩

end Go.Proofs.YtlnjhimbgckdcaaGreat

/-
  Prims as values, and what the document's calls on them tell (but Invert).
-/
namespace Go.Proofs.YtlnjhimbgckdcaaGreat
open Go.RowKit Go.Maps

def GivesL (l : List ByteArray) (w : World) (e : Ending) (w' : World) : Prop := ∃ v, e = .returned v ∧ Reads w' v l ∧ Later w w'
theorem GivesRow.l {l : List ByteArray} {w w' : World} {e : Ending} (h : GivesRow l w e w') : GivesL l w e w' := by
  obtain ⟨A, c, rfl, hc, hr, hl⟩ := h
  exact ⟨_, rfl, ⟨A, _, c, rfl, hc, hr⟩, hl⟩

section
variable {w : World} {v u : Value} {p q : Pr}
theorem refRight_v (h : PrimAt w v p) : Calls Tryz.prog 54 #[v] w (Says (rightP p) w) := by
  obtain ⟨x, rfl, rfl, hx⟩ := h; exact refRightP_any x w hx
theorem namesP_length (p : Pr) : (namesP p).length ≤ 65536 := by
  unfold namesP
  split
  · simp
  · split <;> simp
end

end Go.Proofs.YtlnjhimbgckdcaaGreat

/-
  What slices.Index, Contains, IndexFunc and ContainsFunc come to, as calls, over rows of texts.
-/
namespace Go.Proofs.YtlnjhimbgckdcaaGreat
open Go.RowKit Go.Maps

theorem mem_getD {l : List ByteArray} {k : Nat} (h : k < l.length) : l.getD k ByteArray.empty ∈ l := by
  simp only [List.getD, List.getElem?_eq_getElem h, Option.getD_some]
  exact List.getElem_mem h
theorem not_mem_of {l : List ByteArray} {p : ByteArray → Prop} (h : ∀ j : Nat, j < l.length → ¬ p (l.getD j ByteArray.empty)) : ¬ ∃ s ∈ l, p s := by
  rintro ⟨s, hs, hp⟩
  obtain ⟨j, hj, rfl⟩ := List.getElem_of_mem hs
  refine h j hj ?_
  simpa only [List.getD, List.getElem?_eq_getElem hj, Option.getD_some] using hp

def FindsAt (Q : Prop) (w : World) (e : Ending) (w' : World) : Prop := (∃ k : Int, e = .returned (.int .i64 k) ∧ (0 ≤ k ↔ Q)) ∧ w = w'

set_option maxHeartbeats 400000 in
theorem index_any (A : Option Addr) (n c : Nat) (l : List ByteArray) (s : ByteArray) (w : World) (hx : Row w A n l) (hn : n ≤ 65536) (Q : Prop) (hQ : Q ↔ ∃ x ∈ l, s = x) :
    Calls Tryz.prog 101 #[.slice A n c, .string s] w (FindsAt Q w) := by
  have HX := Lib.hid hx; have HQ := Lib.hid hQ; clear hx hQ
  go_enter Tryz.func101, Tryz.ntmps101
  go_wp2
  go_loop [5, 8] (fun _ i => ∃ k : Nat, k ≤ n ∧ i = .int .i64 k ∧ Hid (∀ j : Nat, j < k → ¬ s = (l.getD j ByteArray.empty))) (fun _ i => n - (intOf i).toNat)
  case atStart => exact ⟨0, Nat.zero_le _, rfl, fun j hj => absurd hj (Nat.not_lt_zero _)⟩
  case round =>
    obtain ⟨k, hk, rfl, hall⟩ := hrel
    by_cases hlt : k < n
    · obtain ⟨b1, o1, rfl, g1⟩ := HX.out.get hlt
      have hkl : k < l.length := by rw [HX.out.len]; exact hlt
      have HM := Lib.hid (mem_getD hkl)
      generalize hy : l.getD k ByteArray.empty = y at g1 HM
      have HY := Lib.hid hy
      clear hkl hy
      by_cases he : s = y
      · subst he
        clear hall HY
        go_wp2
        go_ret
        exact ⟨⟨k, rfl, fun _ => HQ.out.2 ⟨s, HM.out, rfl⟩, fun _ => by omega⟩, rfl⟩
      · have t1 := text_ne he
        have HA : Hid (∀ j : Nat, j < k + 1 → ¬ s = (l.getD j ByteArray.empty)) := fun j hj => by
          by_cases e : j = k
          · rw [e, HY.out]; exact he
          · exact hall.out j (by omega)
        clear hall HY HM
        go_wp2
        exact ⟨⟨k + 1, by omega, by go_num, HA⟩, by simp [intOf]; omega⟩
    · have E : Hid (¬ ∃ x ∈ l, s = x) := not_mem_of fun j hj => hall.out j (by rw [HX.out.len] at hj; omega)
      clear hall
      go_wp2
      go_ret
      exact ⟨⟨-1, rfl, fun h => absurd h (by omega), fun h => absurd (HQ.out.1 h) E.out⟩, rfl⟩

theorem contains_any (A : Option Addr) (n c : Nat) (l : List ByteArray) (s : ByteArray) (w : World) (hx : Row w A n l) (hn : n ≤ 65536) (b : Bool) (hb : b = true ↔ ∃ x ∈ l, s = x) :
    Calls Tryz.prog 96 #[.slice A n c, .string s] w fun e w' => e = .returned (.bool b) ∧ w = w' := by
  have HI := Lib.hid (index_any A n c l s w hx hn (b = true) hb)
  clear hx hb
  go_enter Tryz.func96, Tryz.ntmps96
  go_wp2_with fail
  refine HI.out.mono ?_
  rintro e w' ⟨⟨k, rfl, hk⟩, rfl⟩
  have e1 : decide (0 ≤ k) = b := by
    rw [Bool.eq_iff_iff, decide_eq_true_eq, hk]
  have E1 := Lib.hid e1
  clear e1 hk HI
  go_wp2
  go_ret
  refine ⟨?_, rfl⟩
  first | exact ret_bool E1.out | (rw [← E1.out]; rfl) | (rw [← E1.out]; simp)

set_option maxHeartbeats 400000 in
theorem meetFn_any (B : Option Addr) (m d : Nat) (r : List ByteArray) (b : Nat) (s : ByteArray) (w : World) (hb : w.cell? ⟨b, 0, none⟩ = some (.slice B m d)) (hy : Row w B m r) (hm : m ≤ 65536) :
    Calls Tryz.prog 95 #[.string s, .pointer (some ⟨b, 0, none⟩)] w fun e w' => e = .returned (.bool (r.any fun x => decide (s = x))) ∧ w = w' := by
  have HC := Lib.hid (contains_any B m d r s w hy hm (r.any fun x => decide (s = x)) (by simp only [List.any_eq_true, decide_eq_true_eq]))
  clear hy
  generalize (r.any fun x => decide (s = x)) = t at HC ⊢
  go_enter Tryz.func95, Tryz.ntmps95
  go_wp2_with fail
  refine HC.out.mono ?_
  rintro e w' ⟨rfl, rfl⟩
  go_wp2
  go_ret
  exact ⟨rfl, rfl⟩

set_option maxHeartbeats 400000 in
theorem indexFunc_any (A : Option Addr) (n c : Nat) (l : List ByteArray) (B : Option Addr) (m d : Nat) (r : List ByteArray) (b : Nat) (w : World) (hx : Row w A n l) (hn : n ≤ 65536) (hb : w.cell? ⟨b, 0, none⟩ = some (.slice B m d)) (hy : Row w B m r) (hm : m ≤ 65536) (Q : Prop) (hQ : Q ↔ ∃ x ∈ l, (r.any fun y => decide (x = y)) = true) :
    Calls Tryz.prog 100 #[.slice A n c, .func (.func 95) #[] #[.pointer (some ⟨b, 0, none⟩)]] w (FindsAt Q w) := by
  have HX := Lib.hid hx
  have HF := Lib.hid (fun s => meetFn_any B m d r b s w hb hy hm)
  have eg : ∀ (args : Array Value) (w : World), (callFunc 95 args).run Tryz.prog w = .ok (.enter 95 args) w := enters_of Tryz.func95 (by kernel_rfl) rfl
  have HQ := Lib.hid hQ
  clear hx hb hy hQ
  go_enter Tryz.func100, Tryz.ntmps100
  go_wp2
  go_loop [5, 8] (fun _ i => ∃ k : Nat, k ≤ n ∧ i = .int .i64 k ∧ Hid (∀ j : Nat, j < k → ¬ (r.any fun y => decide ((l.getD j ByteArray.empty) = y)) = true)) (fun _ i => n - (intOf i).toNat)
  case atStart => exact ⟨0, Nat.zero_le _, rfl, fun j hj => absurd hj (Nat.not_lt_zero _)⟩
  case round =>
    obtain ⟨k, hk, rfl, hall⟩ := hrel
    by_cases hlt : k < n
    · obtain ⟨b1, o1, rfl, g1⟩ := HX.out.get hlt
      have hkl : k < l.length := by rw [HX.out.len]; exact hlt
      have HM := Lib.hid (mem_getD hkl)
      generalize hy : l.getD k ByteArray.empty = y at g1 HM
      have HY := Lib.hid hy
      clear hkl hy
      have hf := HF.out y
      cases he : (r.any fun z => decide (y = z))
      · rw [he] at hf
        have HFy := Lib.hid hf
        have HA : Hid (∀ j : Nat, j < k + 1 → ¬ (r.any fun y => decide ((l.getD j ByteArray.empty) = y)) = true) := fun j hj => by
          by_cases e : j = k
          · rw [e, HY.out, he]; exact Bool.false_ne_true
          · exact hall.out j (by omega)
        clear hall HY HM he hf
        go_wp2_with (go_at_fn 95; refine HFy.out.mono ?_; rintro e w' ⟨rfl, rfl⟩)
        exact ⟨⟨k + 1, by omega, by go_num, HA⟩, by simp [intOf]; omega⟩
      · rw [he] at hf
        have HFy := Lib.hid hf
        have HE := Lib.hid he
        clear hall HY he hf
        go_wp2_with (go_at_fn 95; refine HFy.out.mono ?_; rintro e w' ⟨rfl, rfl⟩)
        go_ret
        exact ⟨⟨k, rfl, fun _ => HQ.out.2 ⟨y, HM.out, HE.out⟩, fun _ => by omega⟩, rfl⟩
    · have E : Hid (¬ ∃ x ∈ l, (r.any fun y => decide (x = y)) = true) := not_mem_of (p := fun x => (r.any fun y => decide (x = y)) = true) fun j hj => hall.out j (by rw [HX.out.len] at hj; omega)
      clear hall
      go_wp2
      go_ret
      exact ⟨⟨-1, rfl, fun h => absurd h (by omega), fun h => absurd (HQ.out.1 h) E.out⟩, rfl⟩

theorem containsFunc_any (A : Option Addr) (n c : Nat) (l : List ByteArray) (B : Option Addr) (m d : Nat) (r : List ByteArray) (b : Nat) (w : World) (hx : Row w A n l) (hn : n ≤ 65536) (hb : w.cell? ⟨b, 0, none⟩ = some (.slice B m d)) (hy : Row w B m r) (hm : m ≤ 65536) :
    Calls Tryz.prog 94 #[.slice A n c, .func (.func 95) #[] #[.pointer (some ⟨b, 0, none⟩)]] w fun e w' => e = .returned (.bool (l.any fun x => r.any fun y => decide (x = y))) ∧ w = w' := by
  have HI := Lib.hid (indexFunc_any A n c l B m d r b w hx hn hb hy hm ((l.any fun x => r.any fun y => decide (x = y)) = true) (by rw [List.any_eq_true]))
  clear hx hb hy
  go_enter Tryz.func94, Tryz.ntmps94
  go_wp2_with fail
  refine HI.out.mono ?_
  rintro e w' ⟨⟨k, rfl, hk⟩, rfl⟩
  have e1 : decide (0 ≤ k) = (l.any fun x => r.any fun y => decide (x = y)) := by
    rw [Bool.eq_iff_iff, decide_eq_true_eq, hk]
  have E1 := Lib.hid e1
  clear e1 hk HI
  go_wp2
  go_ret
  refine ⟨?_, rfl⟩
  first | exact ret_bool E1.out | (rw [← E1.out]; rfl) | (rw [← E1.out]; simp)

end Go.Proofs.YtlnjhimbgckdcaaGreat

/-
  What swap's meet comes to, as a call.
-/
namespace Go.Proofs.YtlnjhimbgckdcaaGreat
open Go.RowKit Go.Maps

theorem two_boxes (w : World) (a b : Array Value) (t : TypeId) : BoxAt ((w.alloc (.cells a t)).alloc (.cells b t)) w.heap.size a t ∧ BoxAt ((w.alloc (.cells a t)).alloc (.cells b t)) (w.heap.size + 1) b t ∧ Later w ((w.alloc (.cells a t)).alloc (.cells b t)) := by
  refine ⟨(BoxAt.made w a t).alloc _, ?_, ((Later.refl w).alloc _).alloc _⟩
  have := BoxAt.made (w.alloc (.cells a t)) b t
  simpa using this
theorem BoxAt.all {w : World} {g : Nat} {x : PrC} {t : TypeId} (h : BoxAt w g (prL x).toArray t) : w.cell? ⟨g, 0, none⟩ = some (.int .i64 x.v.kind) ∧ w.cell? ⟨g, 1, none⟩ = some (.string x.v.name) ∧ w.cell? ⟨g, 2, none⟩ = some (.string x.v.to) ∧ w.cell? ⟨g, 3, none⟩ = some (.int .i64 x.v.place) ∧ w.cell? ⟨g, 4, none⟩ = some (.slice x.A x.n x.c) ∧ w.cell? ⟨g, 5, none⟩ = some (.slice x.B x.m x.d) :=
  ⟨h.cell rfl, h.cell rfl, h.cell rfl, h.cell rfl, h.cell rfl, h.cell rfl⟩

set_option maxRecDepth 100000 in
set_option maxHeartbeats 800000 in
theorem meet_any (x y : PrC) (w : World) : Calls Tryz.prog 86 #[prV x, prV y] w (Says (commonP x.v y.v) w) := by
  obtain ⟨b0, b1, hl⟩ := two_boxes w (prL x).toArray (prL y).toArray 58
  have HN := Lib.hid (fun w' => primNames_any y w')
  have HM := Lib.hid (fun w' => primNames_any x w')
  have hn1 := namesP_length x.v
  have hn2 := namesP_length y.v
  have HE : Hid (commonP x.v y.v = (namesP x.v).any fun a => (namesP y.v).any fun b => decide (a = b)) := rfl
  generalize commonP x.v y.v = cm at HE ⊢
  generalize namesP x.v = l at HM hn1 HE
  generalize namesP y.v = r at HN hn2 HE
  have HB0 := Lib.hid b0; have HL := Lib.hid hl
  clear b0 b1 hl
  unfold prV at HN HM ⊢
  go_enter Tryz.func86, Tryz.ntmps86
  go_wp2_with fail
  refine (HN.out _).mono ?_
  rintro e w1 ⟨A1, c1, rfl, hc1, hr1, hl1⟩
  have b2 := (HB0.out.later hl1).alloc (.cells #[.slice A1 r.length c1] 56)
  obtain ⟨q0, q1, q2, q3, q4, q5⟩ := b2.all
  have hb : Hid ((w1.alloc (.cells #[.slice A1 r.length c1] 56)).cell? ⟨w1.heap.size, 0, none⟩ = some (.slice A1 r.length c1)) := by simp [Hid]
  have HR1 := Lib.hid (hr1.later ((Later.refl w1).alloc (.cells #[.slice A1 r.length c1] 56)))
  have HL1 := Lib.hid ((HL.out.trans hl1).alloc (.cells #[.slice A1 r.length c1] 56))
  clear hr1 hl1 b2
  go_wp2_with fail
  refine (HM.out _).mono ?_
  rintro e w2 ⟨A2, c2, rfl, hc2, hr2, hl2⟩
  have HCF := Lib.hid (containsFunc_any A2 l.length c2 l A1 r.length c1 r w1.heap.size w2 hr2 hn1 (hl2.cell hb.out) (HR1.out.later hl2) hn2)
  rw [← HE.out] at HCF
  have HL2 := Lib.hid (HL1.out.trans hl2)
  clear hr2 hl2 q0 q1 q2 q3 q4 q5
  go_wp2_with fail
  refine HCF.out.mono ?_
  rintro e w3 ⟨rfl, rfl⟩
  go_wp2
  go_ret
  exact ⟨rfl, HL2.out⟩

end Go.Proofs.YtlnjhimbgckdcaaGreat

/-
  A prim that is written into a row of prims.
-/
namespace Go.Proofs.YtlnjhimbgckdcaaGreat
open Go.RowKit Go.Maps

theorem flat_set (v0 v1 v2 v3 v4 v5 : Value) : ∀ {css : List (List Value)}, (∀ cs ∈ css, cs.length = 6) → ∀ {i : Nat}, i < css.length → ((((((css.flatten.set (i * 6) v0).set (i * 6 + 1) v1).set (i * 6 + 2) v2).set (i * 6 + 3) v3).set (i * 6 + 4) v4).set (i * 6 + 5) v5) = (css.set i [v0, v1, v2, v3, v4, v5]).flatten
  | [], _, _, h => absurd h (Nat.not_lt_zero _)
  | c :: css, hk, i, hi => by
    match c, hk c List.mem_cons_self with
    | [a0, a1, a2, a3, a4, a5], _ =>
      cases i with
      | zero => simp
      | succ i =>
        have ih := flat_set v0 v1 v2 v3 v4 v5 (css := css) (fun cs h => hk cs (List.mem_cons_of_mem _ h)) (i := i) (by simpa using hi)
        rw [List.set_cons_succ, List.flatten_cons, List.flatten_cons, ← ih]
        simp only [show (i + 1) * 6 = i * 6 + 6 by omega, show i * 6 + 6 + 1 = i * 6 + 1 + 6 by omega, show i * 6 + 6 + 2 = i * 6 + 2 + 6 by omega, show i * 6 + 6 + 3 = i * 6 + 3 + 6 by omega, show i * 6 + 6 + 4 = i * 6 + 4 + 6 by omega, show i * 6 + 6 + 5 = i * 6 + 5 + 6 by omega]
        rfl
theorem turned_sets (w : World) (g o i : Nat) (v0 v1 v2 v3 v4 v5 : Value) : Turned g w ((((((w.setCell ⟨g, o + i * 6, none⟩ v0).setCell ⟨g, o + i * 6 + 1, none⟩ v1).setCell ⟨g, o + i * 6 + 2, none⟩ v2).setCell ⟨g, o + i * 6 + 3, none⟩ v3).setCell ⟨g, o + i * 6 + 4, none⟩ v4).setCell ⟨g, o + i * 6 + 5, none⟩ v5) :=
  (((((turned_set w g _ v0).trans (turned_set _ g _ v1)).trans (turned_set _ g _ v2)).trans (turned_set _ g _ v3)).trans (turned_set _ g _ v4)).trans (turned_set _ g _ v5)

section
variable {e : TypeId} {w0 w w' : World} {A : Option Addr} {n c g o : Nat} {xs : List PrC}
theorem OwnPs.ps (h : OwnPs e w0 w (.slice A n c) xs) : PsOk w A n xs := by
  obtain ⟨A', c', hv, _, hr⟩ := h.row
  cases hv
  exact hr
theorem OwnPs.size (h : OwnPs e w0 w (.slice A n c) xs) : xs.length = n := h.ps.len
theorem OwnPs.at (h : OwnPs e w0 w (.slice (some ⟨g, o, none⟩) n c) xs) : o = 0 ∧ ∃ cur, w.heap[g]? = some (.cells cur e (0, 0)) ∧ cur.size = c * 6 ∧ n ≤ c ∧ c ≤ maxLen ∧ cur.toList.take (n * 6) = (xs.map prL).flatten := by
  have hs := h.size
  rcases h.own.1.2 with ⟨hv, _⟩ | ⟨g', cap, cur, hv, _, hh, hnc, hm, hc, ht⟩
  · cases hv
  · simp only [List.length_map] at hv hnc ht
    rw [hs] at hv hnc ht
    cases hv
    exact ⟨rfl, cur, hh, hc, hnc, hm, ht⟩
theorem OwnPs.frozen (h : OwnPs e w0 w (.slice (some ⟨g, o, none⟩) n c) xs) (i : Nat) : w.frozen? ⟨g, i, none⟩ = false := by
  obtain ⟨_, cur, hh, _⟩ := h.at
  exact frozen_no hh i
theorem OwnPs.set (h : OwnPs e w0 w (.slice (some ⟨g, o, none⟩) n c) xs) {i : Nat} (hi : i < n) (x : PrC) (hx : PrOk w x) (ha : Away g x) :
    OwnPs e w0 ((((((w.setCell ⟨g, o + i * 6, none⟩ (.int .i64 x.v.kind)).setCell ⟨g, o + i * 6 + 1, none⟩ (.string x.v.name)).setCell ⟨g, o + i * 6 + 2, none⟩ (.string x.v.to)).setCell ⟨g, o + i * 6 + 3, none⟩ (.int .i64 x.v.place)).setCell ⟨g, o + i * 6 + 4, none⟩ (.slice x.A x.n x.c)).setCell ⟨g, o + i * 6 + 5, none⟩ (.slice x.B x.m x.d)) (.slice (some ⟨g, o, none⟩) n c) (xs.set i x) := by
  have hsz := h.size
  obtain ⟨rfl, cur, hh, hcs, hnc, hm, ht⟩ := h.at
  have hb := h.block g rfl
  have htn := turned_sets w g 0 i (.int .i64 x.v.kind) (.string x.v.name) (.string x.v.to) (.int .i64 x.v.place) (.slice x.A x.n x.c) (.slice x.B x.m x.d)
  have hl := h.later.turn htn hb
  have hbox := (((((BoxAt.set (show BoxAt w g cur e from hh) (0 + i * 6) (.int .i64 x.v.kind)).set (0 + i * 6 + 1) (.string x.v.name)).set (0 + i * 6 + 2) (.string x.v.to)).set (0 + i * 6 + 3) (.int .i64 x.v.place)).set (0 + i * 6 + 4) (.slice x.A x.n x.c)).set (0 + i * 6 + 5) (.slice x.B x.m x.d)
  have hlen : (xs.map prL).length = n := by simp [hsz]
  refine ⟨⟨⟨?_, .inr ⟨g, c, _, ?_, hb, hbox, ?_, hm, ?_, ?_⟩⟩, ?_, hl⟩, ?_, ?_⟩
  · rw [flat_length (k := 6) (by intro cs hcs; obtain ⟨y, _, rfl⟩ := List.mem_map.1 hcs; rfl)]
  · simp [hsz]
  · simp [hsz]; exact hnc
  · simpa using hcs
  · simp only [List.length_map, List.length_set, Array.toList_setIfInBounds, List.take_set, hsz, ht, Nat.zero_add]
    rw [flat_set _ _ _ _ _ _ (by intro cs hcs; obtain ⟨y, _, rfl⟩ := List.mem_map.1 hcs; rfl) (by simp [hsz]; exact hi), List.map_set]
    rfl
  · intro cs hcs
    obtain ⟨y, _, rfl⟩ := List.mem_map.1 hcs
    rfl
  · intro y hy
    have h1 : PrOk w y ∧ Away g y := by
      rcases List.mem_or_eq_of_mem_set hy with h2 | rfl
      · exact ⟨h.ok y h2, h.away y h2 g rfl⟩
      · exact ⟨hx, ha⟩
    exact h1.1.off htn h1.2
  · intro y hy g' hg'
    cases hg'
    rcases List.mem_or_eq_of_mem_set hy with h2 | rfl
    · exact h.away y h2 _ rfl
    · exact ha
end

theorem grown_later {w w' : World} (h : Later w w') (r : Option Nat) : w.grownBy w' r := ⟨h.os, h.tape, h.output, h.size, fun i hi _ => h.block i hi⟩
theorem grown_trans {w w' w'' : World} {r : Option Nat} (h : w.grownBy w' r) (k : w'.grownBy w'' r) : w.grownBy w'' r :=
  ⟨k.os.trans h.os, k.tape.trans h.tape, k.output.trans h.output, Nat.le_trans h.size k.size, fun i hi hne => (k.block i (Nat.lt_of_lt_of_le hi h.size) hne).trans (h.block i hi hne)⟩
theorem Later.grown {w0 w w' : World} {v : Value} (h : Later w0 w) (hg : w.grownBy w' v.ownBlock) (hb : ∀ b, v.ownBlock = some b → w0.heap.size ≤ b) : Later w0 w' := Below.grown h hg h.size hb
theorem results_one {P : Program} {fn : Func} {p u : Tmp} {ty : TypeId} (h : fn.results = #[.cell p ty, .tmp u]) (tmps : Array Value) (w : World) (g : Nat) (t : TypeId) (cs : Array Value) (fr : Nat × Nat) (d : TypeDesc) (v : Value)
    (hp : tmps.getD p undef = .pointer (some ⟨g, 0, none⟩)) (hv : tmps.getD u undef = v) (hg : w.heap[g]? = some (.cells cs t fr))
    (hu : P.underlying ty = some d) (hd : (match d with | .struct _ | .array _ _ => true | _ => false) = true) (hi : (P.info? ty).map (·.size) = some cs.size) :
    (results fn tmps).run P w = .ok (.tuple #[.agg cs, v]) w := by
  have hp' : tmps[p]?.getD undef = .pointer (some ⟨g, 0, none⟩) := by simpa using hp
  have hv' : tmps[u]?.getD undef = v := by simpa using hv
  simp [results, h, hp', hv', asAddr, run_loadVar_row w g t ty cs fr d hg hu hd hi]

end Go.Proofs.YtlnjhimbgckdcaaGreat
