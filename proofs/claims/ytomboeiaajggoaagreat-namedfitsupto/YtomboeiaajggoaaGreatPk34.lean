import Derived.Test.YtomboeiaajggoaaGreatPk11
import Derived.Deep.LoopGhost
import Derived.Deep.QuietTactic
import Derived.BigQuiet
import Derived.Lib.Hide
import Derived.Test.YtomboeiaajggoaaGreatPk33

/-
  What the statements' own New and Old of rows of prims come to: the rows of lines are the same.
-/
namespace Go.Proofs.YtomboeiaajggoaaGreat
open Go.RowKit Go.Maps

set_option maxRecDepth 100000 in
set_option maxHeartbeats 800000 in
theorem lawNewX_any (A : Option Addr) (n c : Nat) (xs : List PrC) (w : World) (hx : PsOk w A n xs) (hn : n ≤ 65536) :
    Calls Tryz.prog 36 #[.slice A n c] w fun e w' => ∃ v, e = .returned v ∧ OwnPs 69 w w' v xs := by
  have HX := Lib.hid hx; clear hx
  obtain ⟨i0, hi, hz0, hz1, hz2⟩ := info_parts Tryz.primInfo
  go_enter Tryz.func36, Tryz.ntmps36
  go_wp2
  go_loopg [3, 8] (n + 1) (fun g s3 s8 wr => ∃ (k : Nat) (v : Value) (ys : List PrC), k ≤ n ∧ n - k ≤ g ∧ s8 = .int .i64 k ∧ s3 = v ∧ ys.length = k ∧ Hid (ys = xs.take k) ∧ Hid (OwnPs 69 w wr v ys))
  case atStart => exact ⟨0, _, [], Nat.zero_le _, by omega, rfl, rfl, rfl, by simp [Hid], OwnPs.nil (Later.refl w)⟩
  case round =>
    obtain ⟨k, v, ys, hk, hg, rfl, hv, hyl, hys, hown⟩ := hrel
    obtain rfl := hv.symm
    clear hv
    by_cases hlt : k < n
    · obtain ⟨b, o, x, rfl, hz, hok, g0, g1, g2, g3, g4, g5⟩ := (HX.out.later hown.out.later).get hlt
      have hok0 := HX.out.each x (List.mem_of_getElem? hz)
      have HLB : Hid (Later wr (wr.alloc (.cells #[.int .i64 x.v.kind, .string x.v.name, .string x.v.to, .int .i64 x.v.place, .slice x.A x.n x.c, .slice x.B x.m x.d] 114))) := (Later.refl wr).alloc _
      have HLC : Hid (Later wr ((wr.alloc (.cells #[.int .i64 x.v.kind, .string x.v.name, .string x.v.to, .int .i64 x.v.place, .slice x.A x.n x.c, .slice x.B x.m x.d] 114)).alloc (.cells #[.int .i64 x.v.kind, .string x.v.name, .string x.v.to, .int .i64 x.v.place, .slice x.A x.n x.c, .slice x.B x.m x.d] 69))) := ((Later.refl wr).alloc _).alloc _
      have HTK := Lib.hid (show xs.take (k + 1) = xs.take k ++ [x] from by obtain ⟨h1, rfl⟩ := List.getElem?_eq_some_iff.1 hz; exact List.take_succ_eq_append_getElem h1); have HOK := Lib.hid hok; have HAW : Hid (∀ y ∈ [x], ∀ g, v.ownBlock = some g → Away g y) := by
        intro y hy g hgb
        simp at hy; subst hy
        exact hok0.away (hown.out.block g hgb)
      have HO1 := Lib.hid (hown.out.on HLC.out)
      have HR1 : Hid (RowK 6 ((wr.alloc (.cells #[.int .i64 x.v.kind, .string x.v.name, .string x.v.to, .int .i64 x.v.place, .slice x.A x.n x.c, .slice x.B x.m x.d] 114)).alloc (.cells #[.int .i64 x.v.kind, .string x.v.name, .string x.v.to, .int .i64 x.v.place, .slice x.A x.n x.c, .slice x.B x.m x.d] 69)) (some ⟨wr.heap.size + 1, 0, .none⟩) 1 ([x].map prL)) := by
        have := row_one (wr.alloc (.cells #[.int .i64 x.v.kind, .string x.v.name, .string x.v.to, .int .i64 x.v.place, .slice x.A x.n x.c, .slice x.B x.m x.d] 114)) x 69
        rw [World.size_alloc] at this
        exact this
      clear hok hz hok0
      go_wp2_with (at_builtin; refine wpList_append_ps rfl _ _ 28 rfl i0 _ 96 Tryz.underlying28 hi hz0 hz1 hz2 rfl HO1.out rfl _ _ _ [x] rfl HR1.out (fun y hy => by simp at hy; subst hy; exact HOK.out.later HLC.out) HAW.out (by omega) (by omega) ?_; intro v4 w4 hown4 hg4; have HO4 := Lib.hid hown4; clear hown4 hg4)
      go_roundg (n - (k + 1))
      case measure => omega
      case rel => exact ⟨k + 1, v4, ys ++ [x], by omega, Nat.le_refl _, by go_num, rfl, by simp; omega, by show ys ++ [x] = _; rw [HTK.out, ← hys.out], HO4⟩
    · have HE : Hid (ys = xs) := by
        have := hys.out
        rw [List.take_of_length_le (by rw [HX.out.len]; omega)] at this
        exact this
      go_wp2
      go_ret
      exact ⟨v, rfl, by rw [← HE.out]; exact hown.out⟩

set_option maxRecDepth 100000 in
set_option maxHeartbeats 800000 in
theorem lawOldX_any (A : Option Addr) (n c : Nat) (xs : List PrC) (w : World) (hx : PsOk w A n xs) (hn : n ≤ 65536) :
    Calls Tryz.prog 40 #[.slice A n c] w fun e w' => ∃ v, e = .returned v ∧ OwnPs 114 w w' v xs := by
  have HX := Lib.hid hx; clear hx
  obtain ⟨i0, hi, hz0, hz1, hz2⟩ := info_parts Tryz.rprimInfo
  go_enter Tryz.func40, Tryz.ntmps40
  go_wp2
  go_loopg [3, 8] (n + 1) (fun g s3 s8 wr => ∃ (k : Nat) (v : Value) (ys : List PrC), k ≤ n ∧ n - k ≤ g ∧ s8 = .int .i64 k ∧ s3 = v ∧ ys.length = k ∧ Hid (ys = xs.take k) ∧ Hid (OwnPs 114 w wr v ys))
  case atStart => exact ⟨0, _, [], Nat.zero_le _, by omega, rfl, rfl, rfl, by simp [Hid], OwnPs.nil (Later.refl w)⟩
  case round =>
    obtain ⟨k, v, ys, hk, hg, rfl, hv, hyl, hys, hown⟩ := hrel
    obtain rfl := hv.symm
    clear hv
    by_cases hlt : k < n
    · obtain ⟨b, o, x, rfl, hz, hok, g0, g1, g2, g3, g4, g5⟩ := (HX.out.later hown.out.later).get hlt
      have hok0 := HX.out.each x (List.mem_of_getElem? hz)
      have HLB : Hid (Later wr (wr.alloc (.cells #[.int .i64 x.v.kind, .string x.v.name, .string x.v.to, .int .i64 x.v.place, .slice x.A x.n x.c, .slice x.B x.m x.d] 69))) := (Later.refl wr).alloc _
      have HLC : Hid (Later wr ((wr.alloc (.cells #[.int .i64 x.v.kind, .string x.v.name, .string x.v.to, .int .i64 x.v.place, .slice x.A x.n x.c, .slice x.B x.m x.d] 69)).alloc (.cells #[.int .i64 x.v.kind, .string x.v.name, .string x.v.to, .int .i64 x.v.place, .slice x.A x.n x.c, .slice x.B x.m x.d] 114))) := ((Later.refl wr).alloc _).alloc _
      have HTK := Lib.hid (show xs.take (k + 1) = xs.take k ++ [x] from by obtain ⟨h1, rfl⟩ := List.getElem?_eq_some_iff.1 hz; exact List.take_succ_eq_append_getElem h1); have HOK := Lib.hid hok; have HAW : Hid (∀ y ∈ [x], ∀ g, v.ownBlock = some g → Away g y) := by
        intro y hy g hgb
        simp at hy; subst hy
        exact hok0.away (hown.out.block g hgb)
      have HO1 := Lib.hid (hown.out.on HLC.out)
      have HR1 : Hid (RowK 6 ((wr.alloc (.cells #[.int .i64 x.v.kind, .string x.v.name, .string x.v.to, .int .i64 x.v.place, .slice x.A x.n x.c, .slice x.B x.m x.d] 69)).alloc (.cells #[.int .i64 x.v.kind, .string x.v.name, .string x.v.to, .int .i64 x.v.place, .slice x.A x.n x.c, .slice x.B x.m x.d] 114)) (some ⟨wr.heap.size + 1, 0, .none⟩) 1 ([x].map prL)) := by
        have := row_one (wr.alloc (.cells #[.int .i64 x.v.kind, .string x.v.name, .string x.v.to, .int .i64 x.v.place, .slice x.A x.n x.c, .slice x.B x.m x.d] 69)) x 114
        rw [World.size_alloc] at this
        exact this
      clear hok hz hok0
      go_wp2_with (at_builtin; refine wpList_append_ps rfl _ _ 23 rfl i0 _ 96 Tryz.underlying23 hi hz0 hz1 hz2 rfl HO1.out rfl _ _ _ [x] rfl HR1.out (fun y hy => by simp at hy; subst hy; exact HOK.out.later HLC.out) HAW.out (by omega) (by omega) ?_; intro v4 w4 hown4 hg4; have HO4 := Lib.hid hown4; clear hown4 hg4)
      go_roundg (n - (k + 1))
      case measure => omega
      case rel => exact ⟨k + 1, v4, ys ++ [x], by omega, Nat.le_refl _, by go_num, rfl, by simp; omega, by show ys ++ [x] = _; rw [HTK.out, ← hys.out], HO4⟩
    · have HE : Hid (ys = xs) := by
        have := hys.out
        rw [List.take_of_length_le (by rw [HX.out.len]; omega)] at this
        exact this
      go_wp2
      go_ret
      exact ⟨v, rfl, by rw [← HE.out]; exact hown.out⟩

end Go.Proofs.YtomboeiaajggoaaGreat
