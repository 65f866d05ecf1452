import Derived.Test.YtlnjhimbgckdcaaGreatPk5
import Derived.Test.YtlnjhimbgckdcaaGreatPk7
import Derived.Deep.LoopGhost
import Derived.Deep.QuietTactic
import Derived.BigQuiet
import Derived.Lib.Hide
import Derived.Test.YtlnjhimbgckdcaaGreatPk19
import Derived.Test.YtlnjhimbgckdcaaGreatPk6
import Derived.Test.YtlnjhimbgckdcaaGreatPk27

/-
  What the document's All comes to, as a call.
-/
namespace Go.Proofs.YtlnjhimbgckdcaaGreat
open Go.RowKit Go.Maps

set_option maxRecDepth 100000 in
set_option maxHeartbeats 1600000 in
theorem refAllP_any (A B : Option Addr) (n c m d : Nat) (xs ys : List PrC) (w : World) (hx : PsOk w A n xs) (hy : PsOk w B m ys) (hn : n <= 65536) (hm : m <= 65536) :
    Calls Tryz.prog 33 #[.slice A n c, .slice B m d] w (Says (sameS (valsP xs) (valsP ys)) w) := by
  have HX := Lib.hid hx; have HY := Lib.hid hy; clear hx hy
  by_cases hnm : n = m
  case neg =>
    have HE : Hid (sameS (valsP xs) (valsP ys) = false) := sameS_length (by rw [valsP_length, valsP_length, HX.out.len, HY.out.len]; exact hnm)
    rw [HE.out]
    have hne : ((n : Int) == (m : Int)) = false := by rw [beq_eq_false_iff_ne]; omega
    go_enter Tryz.func33, Tryz.ntmps33
    go_wp2
    go_ret
    exact ⟨rfl, Later.refl w⟩
  subst hnm
  go_enter Tryz.func33, Tryz.ntmps33
  go_wp2
  go_loopg [5] (n + 1) (fun g s7 wr => ∃ k : Nat, k <= n /\ n - k <= g /\ s7 = .int .i64 k /\ Hid (∀ j (p q : Pr), j < k -> (valsP xs)[j]? = some p -> (valsP ys)[j]? = some q -> sameP p q = true) /\ Hid (Later w wr))
  case atStart => exact ⟨0, Nat.zero_le _, by omega, rfl, fun j p q hj => by omega, Later.refl w⟩
  case round =>
    obtain ⟨k, hk, hg, rfl, hall, hwr⟩ := hrel
    by_cases hlt : k < n
    · obtain ⟨b, o, x, rfl, hz, hok, g0, g1, g2, g3, g4, g5⟩ := (HX.out.later hwr.out).get hlt
      obtain ⟨b', o', y, rfl, hz', hok', k0, k1, k2, k3, k4, k5⟩ := (HY.out.later hwr.out).get hlt
      have HLB : Hid (Later wr (wr)) := Later.refl wr
      have HAT := Lib.hid (valsP_at hz); have HAT' := Lib.hid (valsP_at hz')
      have HR := Lib.hid (fun (w1 : World) (h : Later wr w1) => refSameP_any x y w1 (hok.later h) (hok'.later h))
      clear hok hok' hz hz'
      unfold prV at HR
      cases hr : sameP x.v y.v
      · rw [hr] at HR
        have HNO : Hid (sameS (valsP xs) (valsP ys) = false) := sameS_at HAT.out HAT'.out hr
        rw [HNO.out]
        clear hr
        go_wp2
        go_region_with (go_at_call 52; refine (HR.out _ (by first | exact Later.refl _ | exact (Later.refl _).drew | exact (Later.refl _).drewN _)).mono ?_; rintro e w2 ⟨rfl, hl2⟩; have HL2 : Hid (Later wr w2) := Later.trans (by first | exact Later.refl _ | exact (Later.refl _).drew | exact (Later.refl _).drewN _) hl2; clear hl2)
        all_goals go_wp2
        all_goals go_ret
        all_goals exact ⟨rfl, (hwr.out.trans HL2.out)⟩
      · rw [hr] at HR
        have HNX : Hid (∀ j (p q : Pr), j < k + 1 -> (valsP xs)[j]? = some p -> (valsP ys)[j]? = some q -> sameP p q = true) := fun j p q hj h1 h2 => by
          by_cases e : j = k
          · subst e
            rw [HAT.out] at h1; rw [HAT'.out] at h2
            cases h1; cases h2
            exact hr
          · exact hall.out j p q (by omega) h1 h2
        clear hr
        go_wp2
        go_region_with (go_at_call 52; refine (HR.out _ (by first | exact Later.refl _ | exact (Later.refl _).drew | exact (Later.refl _).drewN _)).mono ?_; rintro e w2 ⟨rfl, hl2⟩; have HL2 : Hid (Later wr w2) := Later.trans (by first | exact Later.refl _ | exact (Later.refl _).drew | exact (Later.refl _).drewN _) hl2; clear hl2)
        all_goals go_wp2
        all_goals go_roundg (n - (k + 1))
        all_goals first | omega | exact ⟨k + 1, by omega, Nat.le_refl _, by go_num, HNX, hwr.out.trans HL2.out⟩
    · have HE : Hid (sameS (valsP xs) (valsP ys) = true) := sameS_all (by rw [valsP_length, valsP_length, HX.out.len, HY.out.len]) fun j p q h1 h2 => hall.out j p q (by
        have := (List.getElem?_eq_some_iff.1 h1).1
        rw [valsP_length, HX.out.len] at this
        omega) h1 h2
      go_wp2
      go_ret
      exact ⟨by rw [HE.out]; rfl, hwr.out⟩


end Go.Proofs.YtlnjhimbgckdcaaGreat

/-
  What the document's own Same of patches comes to, as a call.
-/
namespace Go.Proofs.YtlnjhimbgckdcaaGreat
open Go.RowKit Go.Maps

set_option maxRecDepth 100000 in
set_option maxHeartbeats 1600000 in
theorem refSame7_any (x y : PaC) (w : World) (hx : PaOk w x) (hy : PaOk w y) : Calls Tryz.prog 12 #[paV x, paV y] w (Says (sameN x.v y.v) w) := by
  have HS : Hid (∀ w', Later w w' -> Calls Tryz.prog 33 #[.slice x.L x.nl x.cl, .slice y.L y.nl y.cl] w' (Says (sameS x.v.l y.v.l) w')) := fun w' hl => by
    rw [← hx.is, ← hy.is]
    exact refAllP_any x.L y.L x.nl x.cl y.nl y.cl x.xs y.xs w' (hx.row.later hl) (hy.row.later hl) (by have := hx.lmost; omega) (by have := hy.lmost; omega)
  have HDX : Hid (RowI w x.D x.nd x.v.deps) := hx.deps
  have HDY : Hid (RowI w y.D y.nd y.v.deps) := hy.deps
  have hn := hx.dmost; have hm := hy.dmost
  clear hx hy
  rw [sameN_parts]
  obtain ⟨⟨id, nt, deps, l⟩, D, nd, cd, L, nl, cl, xs⟩ := x
  obtain ⟨⟨id', nt', deps', l'⟩, D', nd', cd', L', nl', cl', ys⟩ := y
  dsimp only at HS HDX HDY hn hm ⊢
  unfold paV
  dsimp only
  by_cases h1 : id = id'
  · subst h1
    by_cases h2 : nt = nt'
    · subst h2
      rw [decide_eq_true (rfl : id = id), decide_eq_true (rfl : nt = nt), Bool.true_and, Bool.true_and]
      by_cases h3 : nd = nd'
      · subst h3
        have HLB : Hid (Later w ((w.alloc (.cells #[.int .i64 id, .string nt, .slice D nd cd, .slice L nl cl] 25)).alloc (.cells #[.int .i64 id, .string nt, .slice D' nd cd', .slice L' nl' cl'] 25))) := ((Later.refl w).alloc _).alloc _
        have HBX : Hid (BoxAt ((w.alloc (.cells #[.int .i64 id, .string nt, .slice D nd cd, .slice L nl cl] 25)).alloc (.cells #[.int .i64 id, .string nt, .slice D' nd cd', .slice L' nl' cl'] 25)) w.heap.size #[.int .i64 id, .string nt, .slice D nd cd, .slice L nl cl] 25) := (BoxAt.made w _ _).alloc _
        have HBY : Hid (BoxAt ((w.alloc (.cells #[.int .i64 id, .string nt, .slice D nd cd, .slice L nl cl] 25)).alloc (.cells #[.int .i64 id, .string nt, .slice D' nd cd', .slice L' nl' cl'] 25)) (w.heap.size + 1) #[.int .i64 id, .string nt, .slice D' nd cd', .slice L' nl' cl'] 25) := by
          have := BoxAt.made (w.alloc (.cells #[.int .i64 id, .string nt, .slice D nd cd, .slice L nl cl] 25)) #[.int .i64 id, .string nt, .slice D' nd cd', .slice L' nl' cl'] 25
          rw [World.size_alloc] at this
          exact this
        replace HDX := Lib.hid (HDX.out.later HLB.out); replace HDY := Lib.hid (HDY.out.later HLB.out)
        go_enter Tryz.func12, Tryz.ntmps12
        go_wp2
        generalize ((w.alloc (.cells #[.int .i64 id, .string nt, .slice D nd cd, .slice L nl cl] 25)).alloc (.cells #[.int .i64 id, .string nt, .slice D' nd cd', .slice L' nl' cl'] 25)) = wb at HLB HBX HBY HDX HDY ⊢
        go_loopg [5] (nd + 1) (fun g s5 wr => ∃ k q : Nat, k <= nd /\ nd - k <= g /\ s5 = .int .i64 k /\ wr = wb.drewN q /\ Hid (deps.take k = deps'.take k))
        case atStart => exact ⟨0, 0, Nat.zero_le _, by omega, rfl, rfl, by simp [Hid]⟩
        case round =>
          obtain ⟨k, q, hk, hg, rfl, rfl, heq⟩ := hrel
          have q2 : wb.cell? ⟨w.heap.size, 2, none⟩ = some (.slice D nd cd) := HBX.out.cell rfl
          have q3 : wb.cell? ⟨w.heap.size, 3, none⟩ = some (.slice L nl cl) := HBX.out.cell rfl
          have r2 : wb.cell? ⟨w.heap.size + 1, 2, none⟩ = some (.slice D' nd cd') := HBY.out.cell rfl
          have r3 : wb.cell? ⟨w.heap.size + 1, 3, none⟩ = some (.slice L' nl' cl') := HBY.out.cell rfl
          by_cases hlt : k < nd
          · obtain ⟨b1, o1, rfl, g1⟩ := HDX.out.get hlt
            obtain ⟨b2, o2, rfl, g2⟩ := HDY.out.get hlt
            generalize hxk : deps.getD k 0 = u at g1
            generalize hyk : deps'.getD k 0 = v at g2
            have X := Lib.hid hxk; clear hxk
            have Y := Lib.hid hyk; clear hyk
            by_cases hxy : u = v
            · subst hxy
              go_wp2_with fail
              go_quiet (fail)
              go_wp2
              go_roundg (nd - (k + 1))
              case measure => omega
              case rel => exact ⟨k + 1, _, by omega, by omega, by go_num, rfl, takeI (by rw [HDX.out.len]; exact hlt) (by rw [HDY.out.len]; exact hlt) heq.out (X.out.trans Y.out.symm)⟩
            · go_wp2_with fail
              go_quiet (fail)
              go_wp2
              go_ret
              refine ⟨?_, (HLB.out.drewN _).drewN _⟩
              rw [decide_eq_false (fun e => hxy (by rw [← X.out, ← Y.out, e]))]
              rfl
          · have hkn : k = nd := by omega
            have E : Hid (deps = deps') := by
              have := heq.out
              rw [hkn, List.take_of_length_le (by rw [HDX.out.len]; omega), List.take_of_length_le (by rw [HDY.out.len]; omega)] at this
              exact this
            have HS3 := Lib.hid (HS.out (wb.drewN q) (HLB.out.drewN q))
            generalize hsb : sameS l l' = b at HS3
            have HSB := Lib.hid hsb
            clear HS heq hsb
            go_wp2_with fail
            refine HS3.out.mono ?_
            rintro e w4 ⟨rfl, hl4⟩
            have HL4 := Lib.hid ((HLB.out.drewN q).trans hl4)
            clear hl4 HS3
            go_wp2
            go_ret
            exact ⟨by rw [decide_eq_true E.out, Bool.true_and, HSB.out]; rfl, HL4.out⟩
      · have hne : ¬ deps = deps' := by
          intro e
          have h4 := HDX.out.len; have h5 := HDY.out.len
          rw [e] at h4
          exact h3 (h4.symm.trans h5)
        rw [decide_eq_false hne, Bool.false_and]
        have h3' : ¬ (nd : Int) = (nd' : Int) := by omega
        go_enter Tryz.func12, Tryz.ntmps12
        go_wp2
        go_ret
        exact ⟨rfl, ((Later.refl w).alloc _).alloc _⟩
    · rw [decide_eq_false h2, Bool.false_and, Bool.and_false]
      have t1 := text_ne h2
      go_enter Tryz.func12, Tryz.ntmps12
      go_wp2
      go_ret
      exact ⟨rfl, ((Later.refl w).alloc _).alloc _⟩
  · rw [decide_eq_false h1, Bool.false_and]
    go_enter Tryz.func12, Tryz.ntmps12
    go_wp2
    go_ret
    exact ⟨rfl, ((Later.refl w).alloc _).alloc _⟩

end Go.Proofs.YtlnjhimbgckdcaaGreat

/-
  What the statements' own New and Old of rows of prims come to: the rows of lines are the same.
-/
namespace Go.Proofs.YtlnjhimbgckdcaaGreat
open Go.RowKit Go.Maps

set_option maxRecDepth 100000 in
set_option maxHeartbeats 800000 in
theorem lawNewX_any (A : Option Addr) (n c : Nat) (xs : List PrC) (w : World) (hx : PsOk w A n xs) (hn : n <= 65536) :
    Calls Tryz.prog 30 #[.slice A n c] w fun e w' => ∃ v, e = .returned v /\ OwnPs 58 w w' v xs := by
  have HX := Lib.hid hx; clear hx
  obtain ⟨i0, hi, hz0, hz1, hz2⟩ := info_parts Tryz.primInfo
  go_enter Tryz.func30, Tryz.ntmps30
  go_wp2
  go_loopg [3, 8] (n + 1) (fun g s3 s8 wr => ∃ (k : Nat) (v : Value) (ys : List PrC), k <= n /\ n - k <= g /\ s8 = .int .i64 k /\ s3 = v /\ ys.length = k /\ Hid (ys = xs.take k) /\ Hid (OwnPs 58 w wr v ys))
  case atStart => exact ⟨0, _, [], Nat.zero_le _, by omega, rfl, rfl, rfl, by simp [Hid], OwnPs.nil (Later.refl w)⟩
  case round =>
    obtain ⟨k, v, ys, hk, hg, rfl, hv, hyl, hys, hown⟩ := hrel
    obtain rfl := hv.symm
    clear hv
    by_cases hlt : k < n
    · obtain ⟨b, o, x, rfl, hz, hok, g0, g1, g2, g3, g4, g5⟩ := (HX.out.later hown.out.later).get hlt
      have hok0 := HX.out.each x (List.mem_of_getElem? hz)
      have HLB : Hid (Later wr (wr.alloc (.cells #[.int .i64 x.v.kind, .string x.v.name, .string x.v.to, .int .i64 x.v.place, .slice x.A x.n x.c, .slice x.B x.m x.d] 89))) := (Later.refl wr).alloc _
      have HLC : Hid (Later wr ((wr.alloc (.cells #[.int .i64 x.v.kind, .string x.v.name, .string x.v.to, .int .i64 x.v.place, .slice x.A x.n x.c, .slice x.B x.m x.d] 89)).alloc (.cells #[.int .i64 x.v.kind, .string x.v.name, .string x.v.to, .int .i64 x.v.place, .slice x.A x.n x.c, .slice x.B x.m x.d] 58))) := ((Later.refl wr).alloc _).alloc _
      have HTK := Lib.hid (show xs.take (k + 1) = xs.take k ++ [x] from by obtain ⟨h1, rfl⟩ := List.getElem?_eq_some_iff.1 hz; exact List.take_succ_eq_append_getElem h1); have HOK := Lib.hid hok; have HAW : Hid (∀ y ∈ [x], ∀ g, v.ownBlock = some g -> Away g y) := by
        intro y hy g hgb
        simp at hy; subst hy
        exact hok0.away (hown.out.block g hgb)
      have HO1 := Lib.hid (hown.out.on HLC.out)
      have HR1 : Hid (RowK 6 ((wr.alloc (.cells #[.int .i64 x.v.kind, .string x.v.name, .string x.v.to, .int .i64 x.v.place, .slice x.A x.n x.c, .slice x.B x.m x.d] 89)).alloc (.cells #[.int .i64 x.v.kind, .string x.v.name, .string x.v.to, .int .i64 x.v.place, .slice x.A x.n x.c, .slice x.B x.m x.d] 58)) (some ⟨wr.heap.size + 1, 0, .none⟩) 1 ([x].map prL)) := by
        have := row_one (wr.alloc (.cells #[.int .i64 x.v.kind, .string x.v.name, .string x.v.to, .int .i64 x.v.place, .slice x.A x.n x.c, .slice x.B x.m x.d] 89)) x 58
        rw [World.size_alloc] at this
        exact this
      clear hok hz hok0
      go_wp2_with (at_builtin; refine wpList_append_ps rfl _ _ 28 rfl i0 _ 96 Tryz.underlying28 hi hz0 hz1 hz2 rfl HO1.out rfl _ _ _ [x] rfl HR1.out (fun y hy => by simp at hy; subst hy; exact HOK.out.later HLC.out) HAW.out (by omega) (by omega) ?_; intro v4 w4 hown4 hg4; have HO4 := Lib.hid hown4; clear hown4 hg4)
      go_roundg (n - (k + 1))
      case measure => omega
      case rel => exact ⟨k + 1, v4, ys ++ [x], by omega, Nat.le_refl _, by go_num, rfl, by simp; omega, by show ys ++ [x] = _; rw [HTK.out, ← hys.out], HO4⟩
    · have HE : Hid (ys = xs) := by
        have := hys.out
        rw [List.take_of_length_le (by rw [HX.out.len]; omega)] at this
        exact this
      go_wp2
      go_ret
      exact ⟨v, rfl, by rw [← HE.out]; exact hown.out⟩

set_option maxRecDepth 100000 in
set_option maxHeartbeats 800000 in
theorem lawOldX_any (A : Option Addr) (n c : Nat) (xs : List PrC) (w : World) (hx : PsOk w A n xs) (hn : n <= 65536) :
    Calls Tryz.prog 34 #[.slice A n c] w fun e w' => ∃ v, e = .returned v /\ OwnPs 89 w w' v xs := by
  have HX := Lib.hid hx; clear hx
  obtain ⟨i0, hi, hz0, hz1, hz2⟩ := info_parts Tryz.rprimInfo
  go_enter Tryz.func34, Tryz.ntmps34
  go_wp2
  go_loopg [3, 8] (n + 1) (fun g s3 s8 wr => ∃ (k : Nat) (v : Value) (ys : List PrC), k <= n /\ n - k <= g /\ s8 = .int .i64 k /\ s3 = v /\ ys.length = k /\ Hid (ys = xs.take k) /\ Hid (OwnPs 89 w wr v ys))
  case atStart => exact ⟨0, _, [], Nat.zero_le _, by omega, rfl, rfl, rfl, by simp [Hid], OwnPs.nil (Later.refl w)⟩
  case round =>
    obtain ⟨k, v, ys, hk, hg, rfl, hv, hyl, hys, hown⟩ := hrel
    obtain rfl := hv.symm
    clear hv
    by_cases hlt : k < n
    · obtain ⟨b, o, x, rfl, hz, hok, g0, g1, g2, g3, g4, g5⟩ := (HX.out.later hown.out.later).get hlt
      have hok0 := HX.out.each x (List.mem_of_getElem? hz)
      have HLB : Hid (Later wr (wr.alloc (.cells #[.int .i64 x.v.kind, .string x.v.name, .string x.v.to, .int .i64 x.v.place, .slice x.A x.n x.c, .slice x.B x.m x.d] 58))) := (Later.refl wr).alloc _
      have HLC : Hid (Later wr ((wr.alloc (.cells #[.int .i64 x.v.kind, .string x.v.name, .string x.v.to, .int .i64 x.v.place, .slice x.A x.n x.c, .slice x.B x.m x.d] 58)).alloc (.cells #[.int .i64 x.v.kind, .string x.v.name, .string x.v.to, .int .i64 x.v.place, .slice x.A x.n x.c, .slice x.B x.m x.d] 89))) := ((Later.refl wr).alloc _).alloc _
      have HTK := Lib.hid (show xs.take (k + 1) = xs.take k ++ [x] from by obtain ⟨h1, rfl⟩ := List.getElem?_eq_some_iff.1 hz; exact List.take_succ_eq_append_getElem h1); have HOK := Lib.hid hok; have HAW : Hid (∀ y ∈ [x], ∀ g, v.ownBlock = some g -> Away g y) := by
        intro y hy g hgb
        simp at hy; subst hy
        exact hok0.away (hown.out.block g hgb)
      have HO1 := Lib.hid (hown.out.on HLC.out)
      have HR1 : Hid (RowK 6 ((wr.alloc (.cells #[.int .i64 x.v.kind, .string x.v.name, .string x.v.to, .int .i64 x.v.place, .slice x.A x.n x.c, .slice x.B x.m x.d] 58)).alloc (.cells #[.int .i64 x.v.kind, .string x.v.name, .string x.v.to, .int .i64 x.v.place, .slice x.A x.n x.c, .slice x.B x.m x.d] 89)) (some ⟨wr.heap.size + 1, 0, .none⟩) 1 ([x].map prL)) := by
        have := row_one (wr.alloc (.cells #[.int .i64 x.v.kind, .string x.v.name, .string x.v.to, .int .i64 x.v.place, .slice x.A x.n x.c, .slice x.B x.m x.d] 58)) x 89
        rw [World.size_alloc] at this
        exact this
      clear hok hz hok0
      go_wp2_with (at_builtin; refine wpList_append_ps rfl _ _ 23 rfl i0 _ 96 Tryz.underlying23 hi hz0 hz1 hz2 rfl HO1.out rfl _ _ _ [x] rfl HR1.out (fun y hy => by simp at hy; subst hy; exact HOK.out.later HLC.out) HAW.out (by omega) (by omega) ?_; intro v4 w4 hown4 hg4; have HO4 := Lib.hid hown4; clear hown4 hg4)
      go_roundg (n - (k + 1))
      case measure => omega
      case rel => exact ⟨k + 1, v4, ys ++ [x], by omega, Nat.le_refl _, by go_num, rfl, by simp; omega, by show ys ++ [x] = _; rw [HTK.out, ← hys.out], HO4⟩
    · have HE : Hid (ys = xs) := by
        have := hys.out
        rw [List.take_of_length_le (by rw [HX.out.len]; omega)] at this
        exact this
      go_wp2
      go_ret
      exact ⟨v, rfl, by rw [← HE.out]; exact hown.out⟩

end Go.Proofs.YtlnjhimbgckdcaaGreat
