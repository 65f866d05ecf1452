import Derived.Test.YtlnjhimbgckdcaaGreatPk23
import Derived.Test.YtlnjhimbgckdcaaGreatPk17
import Derived.Deep.LoopGhost
import Derived.Deep.QuietTactic
import Derived.BigQuiet
import Derived.Lib.Hide
import Derived.Test.YtlnjhimbgckdcaaGreatPk2

/-
  What the statements' own Rows and Olds of patches come to, as calls.
-/
namespace Go.Proofs.YtlnjhimbgckdcaaGreat
open Go.RowKit Go.Maps

theorem Tryz.rpatchInfo : (Tryz.prog.info? 25).map (fun i => (i.zero, i.size, i.bytes)) = some (some (.agg #[.int .i64 0, .string ByteArray.empty, .slice none 0 0, .slice none 0 0]), 4, 72) := by kernel_rfl

set_option maxRecDepth 100000 in
set_option maxHeartbeats 800000 in
theorem rows7_any (A : Option Addr) (n c : Nat) (xs : List PaC) (w : World) (hx : NsOk w A n xs) (hn : n ≤ 65536) :
    Calls Tryz.prog 16 #[.slice A n c] w fun e w' => ∃ v ys, e = .returned v ∧ OwnNs 30 w w' v ys ∧ valsN ys = valsN xs := by
  have hlen := hx.len
  have HX := Lib.hid hx; clear hx
  obtain ⟨i0, hi, hz0, hz1, hz2⟩ := info_parts Tryz.patchInfo
  go_enter Tryz.func16, Tryz.ntmps16
  go_wp2
  go_loopg [3, 8] (n + 1) (fun g s3 s8 wr => ∃ (k : Nat) (v : Value) (ys : List PaC), k ≤ n ∧ n - k ≤ g ∧ s8 = .int .i64 k ∧ s3 = v ∧ ys.length = k ∧ Hid (valsN ys = (valsN xs).take k) ∧ Hid (OwnNs 30 w wr v ys))
  case atStart => exact ⟨0, _, [], Nat.zero_le _, by omega, rfl, rfl, rfl, by simp [Hid, valsN], OwnNs.nil (Later.refl w)⟩
  case round =>
    obtain ⟨k, v, ys, hk, hg, rfl, hv, hyl, hys, hown⟩ := hrel
    obtain rfl := hv.symm
    clear hv
    by_cases hlt : k < n
    · obtain ⟨b, o, x, rfl, hz, hok, g0, g1, g2, g3⟩ := (HX.out.later hown.out.later).get hlt
      have HOX := Lib.hid (HX.out.each x (List.mem_of_getElem? hz))
      have HLB : Hid (Later wr (wr.alloc (.cells #[.int .i64 x.v.id, .string x.v.note, .slice x.D x.nd x.cd, .slice x.L x.nl x.cl] 25))) := (Later.refl wr).alloc _
      have HC := Lib.hid (new7_any x _ (hok.later HLB.out))
      have HTK := Lib.hid (valsN_take hz)
      clear hok hz
      unfold paV at HC
      go_wp2_with fail
      refine HC.out.mono ?_
      rintro e w2 ⟨y, rfl, hy, hoky, hmy, hl2⟩
      have HVY := Lib.hid hy; have HOK := Lib.hid hoky
      have HO1 := Lib.hid ((hown.out.on HLB.out).on hl2 |>.on ((Later.refl w2).alloc (.cells #[.int .i64 y.v.id, .string y.v.note, .slice y.D y.nd y.cd, .slice y.L y.nl y.cl] 30)))
      have HAW : Hid (∀ z ∈ [y], ∀ g, v.ownBlock = some g → AwayN g z) := by
        intro z hz g hgb
        simp at hz; subst hz
        have h1 := hown.out.lt g hgb
        have h2 := HLB.out.le
        exact hmy g (by omega) (HOX.out.away (hown.out.block g hgb))
      clear hl2 hy hoky hmy HC g0 g1 g2 g3
      go_wp2_with (at_builtin; refine wpList_append_ns rfl _ _ 40 rfl i0 _ 72 Tryz.underlying40 hi hz0 hz1 hz2 rfl HO1.out rfl _ _ _ [y] rfl (rowN_one _ _ _) (fun z hz => by simp at hz; subst hz; exact HOK.out.later4 _) HAW.out (by omega) (by omega) ?_; intro v4 w4 hown4 hg4; have HO4 := Lib.hid hown4; clear hown4 hg4)
      go_roundg (n - (k + 1))
      case measure => omega
      case rel => exact ⟨k + 1, v4, ys ++ [y], by omega, Nat.le_refl _, by go_num, rfl, by simp; omega, by show valsN (ys ++ [y]) = _; rw [HTK.out, ← hys.out, ← HVY.out]; simp [valsN], HO4⟩
    · have HE : Hid (valsN ys = valsN xs) := by
        have := hys.out
        rw [List.take_of_length_le (by rw [valsN_length, hlen]; omega)] at this
        exact this
      go_wp2
      go_ret
      exact ⟨v, ys, rfl, hown.out, HE.out⟩

set_option maxRecDepth 100000 in
set_option maxHeartbeats 800000 in
theorem olds7_any (A : Option Addr) (n c : Nat) (xs : List PaC) (w : World) (hx : NsOk w A n xs) (hn : n ≤ 65536) :
    Calls Tryz.prog 19 #[.slice A n c] w fun e w' => ∃ v ys, e = .returned v ∧ OwnNs 25 w w' v ys ∧ valsN ys = valsN xs := by
  have hlen := hx.len
  have HX := Lib.hid hx; clear hx
  obtain ⟨i0, hi, hz0, hz1, hz2⟩ := info_parts Tryz.rpatchInfo
  go_enter Tryz.func19, Tryz.ntmps19
  go_wp2
  go_loopg [3, 8] (n + 1) (fun g s3 s8 wr => ∃ (k : Nat) (v : Value) (ys : List PaC), k ≤ n ∧ n - k ≤ g ∧ s8 = .int .i64 k ∧ s3 = v ∧ ys.length = k ∧ Hid (valsN ys = (valsN xs).take k) ∧ Hid (OwnNs 25 w wr v ys))
  case atStart => exact ⟨0, _, [], Nat.zero_le _, by omega, rfl, rfl, rfl, by simp [Hid, valsN], OwnNs.nil (Later.refl w)⟩
  case round =>
    obtain ⟨k, v, ys, hk, hg, rfl, hv, hyl, hys, hown⟩ := hrel
    obtain rfl := hv.symm
    clear hv
    by_cases hlt : k < n
    · obtain ⟨b, o, x, rfl, hz, hok, g0, g1, g2, g3⟩ := (HX.out.later hown.out.later).get hlt
      have HOX := Lib.hid (HX.out.each x (List.mem_of_getElem? hz))
      have HLB : Hid (Later wr (wr.alloc (.cells #[.int .i64 x.v.id, .string x.v.note, .slice x.D x.nd x.cd, .slice x.L x.nl x.cl] 30))) := (Later.refl wr).alloc _
      have HC := Lib.hid (old7_any x _ (hok.later HLB.out))
      have HTK := Lib.hid (valsN_take hz)
      clear hok hz
      unfold paV at HC
      go_wp2_with fail
      refine HC.out.mono ?_
      rintro e w2 ⟨y, rfl, hy, hoky, hmy, hl2⟩
      have HVY := Lib.hid hy; have HOK := Lib.hid hoky
      have HO1 := Lib.hid ((hown.out.on HLB.out).on hl2 |>.on ((Later.refl w2).alloc (.cells #[.int .i64 y.v.id, .string y.v.note, .slice y.D y.nd y.cd, .slice y.L y.nl y.cl] 25)))
      have HAW : Hid (∀ z ∈ [y], ∀ g, v.ownBlock = some g → AwayN g z) := by
        intro z hz g hgb
        simp at hz; subst hz
        have h1 := hown.out.lt g hgb
        have h2 := HLB.out.le
        exact hmy g (by omega) (HOX.out.away (hown.out.block g hgb))
      clear hl2 hy hoky hmy HC g0 g1 g2 g3
      go_wp2_with (at_builtin; refine wpList_append_ns rfl _ _ 39 rfl i0 _ 72 Tryz.underlying39 hi hz0 hz1 hz2 rfl HO1.out rfl _ _ _ [y] rfl (rowN_one _ _ _) (fun z hz => by simp at hz; subst hz; exact HOK.out.later4 _) HAW.out (by omega) (by omega) ?_; intro v4 w4 hown4 hg4; have HO4 := Lib.hid hown4; clear hown4 hg4)
      go_roundg (n - (k + 1))
      case measure => omega
      case rel => exact ⟨k + 1, v4, ys ++ [y], by omega, Nat.le_refl _, by go_num, rfl, by simp; omega, by show valsN (ys ++ [y]) = _; rw [HTK.out, ← hys.out, ← HVY.out]; simp [valsN], HO4⟩
    · have HE : Hid (valsN ys = valsN xs) := by
        have := hys.out
        rw [List.take_of_length_le (by rw [valsN_length, hlen]; omega)] at this
        exact this
      go_wp2
      go_ret
      exact ⟨v, ys, rfl, hown.out, HE.out⟩

end Go.Proofs.YtlnjhimbgckdcaaGreat

/-
  What the statements' own Many comes to, as a call: what prims weigh.
-/
namespace Go.Proofs.YtlnjhimbgckdcaaGreat
open Go.RowKit

theorem sizesP_take {l : List ByteArray} {k : Nat} (h : k < l.length) : ((l.take (k + 1)).map ByteArray.size).sum = ((l.take k).map ByteArray.size).sum + (l.getD k ByteArray.empty).size := by
  rw [List.take_succ_eq_append_getElem h, List.map_append, List.sum_append]
  simp [List.getD, List.getElem?_eq_getElem h]
theorem sizesP_take_le (l : List ByteArray) (k : Nat) : ((l.take k).map ByteArray.size).sum ≤ (l.map ByteArray.size).sum := by
  have : (l.map ByteArray.size).sum = ((l.take k).map ByteArray.size).sum + ((l.drop k).map ByteArray.size).sum := by
    rw [← List.sum_append, ← List.map_append, List.take_append_drop]
  omega

set_option maxRecDepth 100000 in
set_option maxHeartbeats 1000000 in
theorem manyP_any (A : Option Addr) (n c : Nat) (xs : List PrC) (w : World) (hx : Prims w A n xs) (hn : n ≤ 1048576) (hW : weightPs xs ≤ 4194304) :
    Calls Tryz.prog 39 #[.slice A n c] w fun e w' => e = .returned (.int .i64 (n + weightPs xs : Nat)) ∧ Later w w' := by
  have HX := Lib.hid hx; clear hx
  go_enter Tryz.func39, Tryz.ntmps39
  go_wp2
  go_loopg [3, 14] (n + 1) (fun g s3 s14 wr => ∃ k : Nat, k ≤ n ∧ n - k ≤ g ∧ s14 = .int .i64 k ∧ s3 = .int .i64 (n + weightPs (xs.take k) : Nat) ∧ Later w wr)
  case atStart => exact ⟨0, Nat.zero_le _, by omega, rfl, rfl, Later.refl w⟩
  case round =>
    obtain ⟨k, hk, hg, rfl, rfl, hwr⟩ := hrel
    by_cases hlt : k < n
    · obtain ⟨b, o, x, rfl, hz, g0, g1, g2, g3, g4, g5⟩ := (HX.out.later hwr).get hlt
      have hstep := weightPs_take hz
      have hle := weightPs_take_le xs (k + 1)
      rw [hstep] at hle
      have hcm := (HX.out.later hwr).each x (List.mem_of_getElem? hz)
      have hlen := hcm.old.len
      have hlen2 := hcm.new.len
      have HW := Lib.hid hwr; have HROW := Lib.hid hcm.old; have HROW2 := Lib.hid hcm.new
      have hwt : weightP x.v = x.v.name.size + x.v.to.size + x.n + x.m + (x.v.old.map ByteArray.size).sum + (x.v.new.map ByteArray.size).sum := by unfold weightP; rw [hlen, hlen2]
      rw [hwt] at hle hstep
      have hle2 : n + weightPs (xs.take k) + x.v.name.size + x.v.to.size + x.n + x.m + (x.v.old.map ByteArray.size).sum + (x.v.new.map ByteArray.size).sum ≤ 6000000 := by omega
      have HST := Lib.hid hstep
      clear hle hstep hwt hcm hwr hz
      generalize weightPs (xs.take k) = W0 at HST hle2 ⊢
      generalize x.v.name = nm at *
      generalize x.v.to = to at *
      generalize x.v.old = l at *
      generalize x.v.new = r at *
      generalize x.v.kind = kd at *
      generalize x.v.place = pl at *
      generalize x.n = nl at *
      generalize x.A = Al at *
      generalize x.c = cl at *
      generalize x.m = nr at *
      generalize x.B = Ar at *
      generalize x.d = cr at *
      have hlb : Later wr (wr.alloc (.cells #[.int .i64 kd, .string nm, .string to, .int .i64 pl, .slice Al nl cl, .slice Ar nr cr] 89)) := (Later.refl wr).alloc _
      have HLB := Lib.hid hlb; clear hlb
      have HLEN := Lib.hid hlen; have HLEN2 := Lib.hid hlen2; clear hlen hlen2
      go_wp2
      go_loopg [3, 38] (nl + 1) (fun g s3 s38 wx => ∃ j : Nat, j ≤ nl ∧ nl - j ≤ g ∧ s38 = .int .i64 j ∧ s3 = .int .i64 (n + W0 + nm.size + to.size + nl + nr + ((l.take j).map ByteArray.size).sum : Nat) ∧ wx = wr.alloc (.cells #[.int .i64 kd, .string nm, .string to, .int .i64 pl, .slice Al nl cl, .slice Ar nr cr] 89))
      case atStart => exact ⟨0, Nat.zero_le _, by omega, rfl, by simp; go_num, rfl⟩
      case round =>
        obtain ⟨j, hj, hgj, rfl, rfl, rfl⟩ := hrel
        by_cases hjl : j < nl
        · obtain ⟨b1, o1, rfl, h4⟩ := (HROW.out.later HLB.out).get hjl
          have h1 := sizesP_take (l := l) (k := j) (by rw [HLEN.out]; exact hjl)
          have h2 := sizesP_take_le l (j + 1)
          rw [h1] at h2
          have H1 := Lib.hid h1; clear h1
          generalize l.getD j ByteArray.empty = sx at *
          generalize ((l.take j).map ByteArray.size).sum = S at *
          go_wp2
          go_roundg (nl - (j + 1))
          case measure => omega
          case rel => exact ⟨j + 1, by omega, Nat.le_refl _, by go_num, by rw [H1.out]; go_num, rfl⟩
        · have e : l.take j = l := List.take_of_length_le (by rw [HLEN.out]; omega)
          rw [e]
          clear e
          generalize (l.map ByteArray.size).sum = S1 at *
          go_wp2
          go_loopg [3, 50] (nr + 1) (fun g s3 s50 wx => ∃ j : Nat, j ≤ nr ∧ nr - j ≤ g ∧ s50 = .int .i64 j ∧ s3 = .int .i64 (n + W0 + nm.size + to.size + nl + nr + S1 + ((r.take j).map ByteArray.size).sum : Nat) ∧ wx = wr.alloc (.cells #[.int .i64 kd, .string nm, .string to, .int .i64 pl, .slice Al nl cl, .slice Ar nr cr] 89))
          case atStart => exact ⟨0, Nat.zero_le _, by omega, rfl, by simp, rfl⟩
          case round =>
            obtain ⟨i, hi, hgi, rfl, rfl, rfl⟩ := hrel
            by_cases hil : i < nr
            · obtain ⟨b1, o1, rfl, h4⟩ := (HROW2.out.later HLB.out).get hil
              have h1 := sizesP_take (l := r) (k := i) (by rw [HLEN2.out]; exact hil)
              have h2 := sizesP_take_le r (i + 1)
              rw [h1] at h2
              have H1 := Lib.hid h1; clear h1
              generalize r.getD i ByteArray.empty = sx at *
              generalize ((r.take i).map ByteArray.size).sum = S at *
              go_wp2
              go_roundg (nr - (i + 1))
              case measure => omega
              case rel => exact ⟨i + 1, by omega, Nat.le_refl _, by go_num, by rw [H1.out]; go_num, rfl⟩
            · have e : r.take i = r := List.take_of_length_le (by rw [HLEN2.out]; omega)
              rw [e]
              clear e
              go_wp2
              go_roundg (n - (k + 1))
              case measure => omega
              case rel => exact ⟨k + 1, by omega, Nat.le_refl _, by go_num, by rw [HST.out]; go_num, HW.out.trans HLB.out⟩
    · have e : xs.take k = xs := List.take_of_length_le (by rw [HX.out.len]; omega)
      rw [e]
      have HW := Lib.hid hwr
      clear e hwr
      go_wp2
      go_ret
      exact ⟨rfl, HW.out⟩

end Go.Proofs.YtlnjhimbgckdcaaGreat
