import Derived.Test.YtlnjhimbgckdcaaGreatPk18
import Derived.Test.YtlnjhimbgckdcaaGreatPk25
import Derived.Deep.LoopGhost
import Derived.Deep.QuietTactic
import Derived.BigQuiet
import Derived.Lib.Hide
import Derived.Test.YtlnjhimbgckdcaaGreatPk12

/-
  What the document's own Same of patches comes to, as a call.
-/
namespace Go.Proofs.YtlnjhimbgckdcaaGreat
open Go.RowKit Go.Maps

set_option maxRecDepth 100000 in
set_option maxHeartbeats 1600000 in
theorem refSame7_any (x y : PaC) (w : World) (hx : PaOk w x) (hy : PaOk w y) : Calls Tryz.prog 12 #[paV x, paV y] w (Says (sameN x.v y.v) w) := by
  have HS : Hid (∀ w', Later w w' → Calls Tryz.prog 33 #[.slice x.L x.nl x.cl, .slice y.L y.nl y.cl] w' (Says (sameS x.v.l y.v.l) w')) := fun w' hl => by
    rw [← hx.is, ← hy.is]
    exact refAllP_any x.L y.L x.nl x.cl y.nl y.cl x.xs y.xs w' (hx.row.later hl) (hy.row.later hl) (by have := hx.lmost; omega) (by have := hy.lmost; omega)
  have HDX : Hid (RowI w x.D x.nd x.v.deps) := hx.deps
  have HDY : Hid (RowI w y.D y.nd y.v.deps) := hy.deps
  have hn := hx.dmost; have hm := hy.dmost
  clear hx hy
  rw [sameN_parts]
  obtain ⟨⟨id, nt, deps, l⟩, D, nd, cd, L, nl, cl, xs⟩ := x
  obtain ⟨⟨id', nt', deps', l'⟩, D', nd', cd', L', nl', cl', ys⟩ := y
  dsimp only at HS HDX HDY hn hm ⊢
  unfold paV
  dsimp only
  by_cases h1 : id = id'
  · subst h1
    by_cases h2 : nt = nt'
    · subst h2
      rw [decide_eq_true (rfl : id = id), decide_eq_true (rfl : nt = nt), Bool.true_and, Bool.true_and]
      by_cases h3 : nd = nd'
      · subst h3
        have HLB : Hid (Later w ((w.alloc (.cells #[.int .i64 id, .string nt, .slice D nd cd, .slice L nl cl] 25)).alloc (.cells #[.int .i64 id, .string nt, .slice D' nd cd', .slice L' nl' cl'] 25))) := ((Later.refl w).alloc _).alloc _
        have HBX : Hid (BoxAt ((w.alloc (.cells #[.int .i64 id, .string nt, .slice D nd cd, .slice L nl cl] 25)).alloc (.cells #[.int .i64 id, .string nt, .slice D' nd cd', .slice L' nl' cl'] 25)) w.heap.size #[.int .i64 id, .string nt, .slice D nd cd, .slice L nl cl] 25) := (BoxAt.made w _ _).alloc _
        have HBY : Hid (BoxAt ((w.alloc (.cells #[.int .i64 id, .string nt, .slice D nd cd, .slice L nl cl] 25)).alloc (.cells #[.int .i64 id, .string nt, .slice D' nd cd', .slice L' nl' cl'] 25)) (w.heap.size + 1) #[.int .i64 id, .string nt, .slice D' nd cd', .slice L' nl' cl'] 25) := by
          have := BoxAt.made (w.alloc (.cells #[.int .i64 id, .string nt, .slice D nd cd, .slice L nl cl] 25)) #[.int .i64 id, .string nt, .slice D' nd cd', .slice L' nl' cl'] 25
          rw [World.size_alloc] at this
          exact this
        replace HDX := Lib.hid (HDX.out.later HLB.out); replace HDY := Lib.hid (HDY.out.later HLB.out)
        go_enter Tryz.func12, Tryz.ntmps12
        go_wp2
        generalize ((w.alloc (.cells #[.int .i64 id, .string nt, .slice D nd cd, .slice L nl cl] 25)).alloc (.cells #[.int .i64 id, .string nt, .slice D' nd cd', .slice L' nl' cl'] 25)) = wb at HLB HBX HBY HDX HDY ⊢
        go_loopg [5] (nd + 1) (fun g s5 wr => ∃ k q : Nat, k ≤ nd ∧ nd - k ≤ g ∧ s5 = .int .i64 k ∧ wr = wb.drewN q ∧ Hid (deps.take k = deps'.take k))
        case atStart => exact ⟨0, 0, Nat.zero_le _, by omega, rfl, rfl, by simp [Hid]⟩
        case round =>
          obtain ⟨k, q, hk, hg, rfl, rfl, heq⟩ := hrel
          have q2 : wb.cell? ⟨w.heap.size, 2, none⟩ = some (.slice D nd cd) := HBX.out.cell rfl
          have q3 : wb.cell? ⟨w.heap.size, 3, none⟩ = some (.slice L nl cl) := HBX.out.cell rfl
          have r2 : wb.cell? ⟨w.heap.size + 1, 2, none⟩ = some (.slice D' nd cd') := HBY.out.cell rfl
          have r3 : wb.cell? ⟨w.heap.size + 1, 3, none⟩ = some (.slice L' nl' cl') := HBY.out.cell rfl
          by_cases hlt : k < nd
          · obtain ⟨b1, o1, rfl, g1⟩ := HDX.out.get hlt
            obtain ⟨b2, o2, rfl, g2⟩ := HDY.out.get hlt
            generalize hxk : deps.getD k 0 = u at g1
            generalize hyk : deps'.getD k 0 = v at g2
            have X := Lib.hid hxk; clear hxk
            have Y := Lib.hid hyk; clear hyk
            by_cases hxy : u = v
            · subst hxy
              go_wp2_with fail
              go_quiet (fail)
              go_wp2
              go_roundg (nd - (k + 1))
              case measure => omega
              case rel => exact ⟨k + 1, _, by omega, by omega, by go_num, rfl, takeI (by rw [HDX.out.len]; exact hlt) (by rw [HDY.out.len]; exact hlt) heq.out (X.out.trans Y.out.symm)⟩
            · go_wp2_with fail
              go_quiet (fail)
              go_wp2
              go_ret
              refine ⟨?_, (HLB.out.drewN _).drewN _⟩
              rw [decide_eq_false (fun e => hxy (by rw [← X.out, ← Y.out, e]))]
              rfl
          · have hkn : k = nd := by omega
            have E : Hid (deps = deps') := by
              have := heq.out
              rw [hkn, List.take_of_length_le (by rw [HDX.out.len]; omega), List.take_of_length_le (by rw [HDY.out.len]; omega)] at this
              exact this
            have HS3 := Lib.hid (HS.out (wb.drewN q) (HLB.out.drewN q))
            generalize hsb : sameS l l' = b at HS3
            have HSB := Lib.hid hsb
            clear HS heq hsb
            go_wp2_with fail
            refine HS3.out.mono ?_
            rintro e w4 ⟨rfl, hl4⟩
            have HL4 := Lib.hid ((HLB.out.drewN q).trans hl4)
            clear hl4 HS3
            go_wp2
            go_ret
            exact ⟨by rw [decide_eq_true E.out, Bool.true_and, HSB.out]; rfl, HL4.out⟩
      · have hne : ¬ deps = deps' := by
          intro e
          have h4 := HDX.out.len; have h5 := HDY.out.len
          rw [e] at h4
          exact h3 (h4.symm.trans h5)
        rw [decide_eq_false hne, Bool.false_and]
        have h3' : ¬ (nd : Int) = (nd' : Int) := by omega
        go_enter Tryz.func12, Tryz.ntmps12
        go_wp2
        go_ret
        exact ⟨rfl, ((Later.refl w).alloc _).alloc _⟩
    · rw [decide_eq_false h2, Bool.false_and, Bool.and_false]
      have t1 := text_ne h2
      go_enter Tryz.func12, Tryz.ntmps12
      go_wp2
      go_ret
      exact ⟨rfl, ((Later.refl w).alloc _).alloc _⟩
  · rw [decide_eq_false h1, Bool.false_and]
    go_enter Tryz.func12, Tryz.ntmps12
    go_wp2
    go_ret
    exact ⟨rfl, ((Later.refl w).alloc _).alloc _⟩

end Go.Proofs.YtlnjhimbgckdcaaGreat

/-
  What the document's own All of patches comes to, as a call.
-/
namespace Go.Proofs.YtlnjhimbgckdcaaGreat
open Go.RowKit Go.Maps

def rall_region_R (x y : PaC) (ba oa bb ob n ca cb k : Nat) : Nat → Value → World → Prop
  | 0, v, _ => v = .slice (some ⟨ba, oa, none⟩) n ca
  | 1, v, _ => v = .int .i64 (k : Nat)
  | 2, v, _ => v = .pointer (some ⟨ba, oa + k * 4, none⟩)
  | 3, v, _ => v = paV x
  | 4, v, _ => v = .slice (some ⟨bb, ob, none⟩) n cb
  | 5, v, _ => v = .int .i64 (k : Nat)
  | 6, v, _ => v = .pointer (some ⟨bb, ob + k * 4, none⟩)
  | 7, v, _ => v = paV y
  | 8, v, _ => v = .bool (sameN x.v y.v)
  | 9, v, _ => v = .bool (!(sameN x.v y.v))
  | _, _, _ => True
set_option maxRecDepth 100000 in
set_option maxHeartbeats 1600000 in
theorem rall_region {ops : Array Oper} (hn : ops.size = 10) (hg : goesBack ops = true)
    (o0 : OpIs ops 0 (.move (.tmp 0)) (some 17) [])
    (o1 : OpIs ops 1 (.move (.tmp 5)) (some 18) [])
    (o2 : OpIs ops 2 (.indexAddr 39 (.tmp 17) (.tmp 18)) (some 19) [0, 1])
    (o3 : OpIs ops 3 (.load 25 (.tmp 19)) (some 20) [2])
    (o4 : OpIs ops 4 (.move (.tmp 1)) (some 21) [])
    (o5 : OpIs ops 5 (.move (.tmp 5)) (some 22) [])
    (o6 : OpIs ops 6 (.indexAddr 39 (.tmp 21) (.tmp 22)) (some 23) [4, 5])
    (o7 : OpIs ops 7 (.load 25 (.tmp 23)) (some 24) [6])
    (o8 : OpIs ops 8 (.call { callee := .value (.func 12), args := #[.tmp 20, .tmp 24], argTypes := #[25, 25] }) (some 25) [3, 7])
    (o9 : OpIs ops 9 (.unOp .not 4 (.tmp 25)) (some 26) [8])
    {a1 : Act} (hs : 27 ≤ a1.tmps.size) {wx : World} {x y : PaC} {xs ys : List PaC} {ba oa bb ob n ca cb k : Nat} (e0 : a1.eval (.tmp 0) = .slice (some ⟨ba, oa, none⟩) n ca) (e1 : a1.eval (.tmp 1) = .slice (some ⟨bb, ob, none⟩) n cb) (e5 : a1.eval (.tmp 5) = .int .i64 (k : Nat)) (hra : RowK 4 wx (some ⟨ba, oa, none⟩) n (xs.map paL)) (hrb : RowK 4 wx (some ⟨bb, ob, none⟩) n (ys.map paL)) (hx : xs[k]? = some x) (hy : ys[k]? = some y) (okx : PaOk wx x) (oky : PaOk wx y) (hk : k < n)
    {Q : Exit → Act → World → Prop} {id : Nat} (hend : ∀ (a : Act) (w : World), SameOut a1 a [17, 18, 19, 20, 21, 22, 23, 24, 25, 26] → Later wx w → a.eval (.tmp 26) = .bool (!(sameN x.v y.v)) → Q .normal a w) :
    (Code.region id ops true).wp Tryz.prog Q a1 wx := by
  refine region_reads (n := 10) (by kernel_rfl) hg hn [17, 18, 19, 20, 21, 22, 23, 24, 25, 26] (by decide +kernel) rfl (fun d hd => ?_) (rall_region_R x y ba oa bb ob n ca cb k) ?_ ?_
  · have : d < 27 := by
      have h : ∀ d ∈ ([17, 18, 19, 20, 21, 22, 23, 24, 25, 26] : List Nat), d < 27 := by decide +kernel
      exact h d hd
    omega
  · intro l a w i o K ho hi hwait so hl0 F hK
    have hc : i = 0 ∨ i = 1 ∨ i = 2 ∨ i = 3 ∨ i = 4 ∨ i = 5 ∨ i = 6 ∨ i = 7 ∨ i = 8 ∨ i = 9 := by omega
    rcases hc with rfl | rfl | rfl | rfl | rfl | rfl | rfl | rfl | rfl | rfl
    · refine o0.move ?_
      rw [show a.eval (.tmp 0) = .slice (some ⟨ba, oa, none⟩) n ca from ((show _ = a1.eval _ from by simp only [Act.eval, Array.getD_eq_getD_getElem?, so.out 0 (by decide)]).trans e0)]
      exact hK _ _ (Later.refl w) rfl
    · refine o1.move ?_
      rw [show a.eval (.tmp 5) = .int .i64 (k : Nat) from ((show _ = a1.eval _ from by simp only [Act.eval, Array.getD_eq_getD_getElem?, so.out 5 (by decide)]).trans e5)]
      exact hK _ _ (Later.refl w) rfl
    · have ws := o2.waits ho hwait
      have f0 : a.eval (.tmp 17) = .slice (some ⟨ba, oa, none⟩) n ca := by obtain ⟨_, _, _, h⟩ := F 0 (ws 0 (by simp)) (by decide); exact h
      have f1 : a.eval (.tmp 18) = .int .i64 (k : Nat) := by obtain ⟨_, _, _, h⟩ := F 1 (ws 1 (by simp)) (by decide); exact h
      refine o2.indexRN f0 f1 (by omega) ?_
      exact hK _ _ (Later.refl w) rfl
    · have ws := o3.waits ho hwait
      have f2 : a.eval (.tmp 19) = .pointer (some ⟨ba, oa + k * 4, none⟩) := by obtain ⟨_, _, _, h⟩ := F 2 (ws 2 (by simp)) (by decide); exact h
      refine o3.loadRNs f2 (hra.later hl0) hx ?_
      exact hK _ _ (Later.refl w) rfl
    · refine o4.move ?_
      rw [show a.eval (.tmp 1) = .slice (some ⟨bb, ob, none⟩) n cb from ((show _ = a1.eval _ from by simp only [Act.eval, Array.getD_eq_getD_getElem?, so.out 1 (by decide)]).trans e1)]
      exact hK _ _ (Later.refl w) rfl
    · refine o5.move ?_
      rw [show a.eval (.tmp 5) = .int .i64 (k : Nat) from ((show _ = a1.eval _ from by simp only [Act.eval, Array.getD_eq_getD_getElem?, so.out 5 (by decide)]).trans e5)]
      exact hK _ _ (Later.refl w) rfl
    · have ws := o6.waits ho hwait
      have f4 : a.eval (.tmp 21) = .slice (some ⟨bb, ob, none⟩) n cb := by obtain ⟨_, _, _, h⟩ := F 4 (ws 4 (by simp)) (by decide); exact h
      have f5 : a.eval (.tmp 22) = .int .i64 (k : Nat) := by obtain ⟨_, _, _, h⟩ := F 5 (ws 5 (by simp)) (by decide); exact h
      refine o6.indexRN f4 f5 (by omega) ?_
      exact hK _ _ (Later.refl w) rfl
    · have ws := o7.waits ho hwait
      have f6 : a.eval (.tmp 23) = .pointer (some ⟨bb, ob + k * 4, none⟩) := by obtain ⟨_, _, _, h⟩ := F 6 (ws 6 (by simp)) (by decide); exact h
      refine o7.loadRNs f6 (hrb.later hl0) hy ?_
      exact hK _ _ (Later.refl w) rfl
    · have ws := o8.waits ho hwait
      have f3 : a.eval (.tmp 20) = paV x := by obtain ⟨_, _, _, h⟩ := F 3 (ws 3 (by simp)) (by decide); exact h
      have f7 : a.eval (.tmp 24) = paV y := by obtain ⟨_, _, _, h⟩ := F 7 (ws 7 (by simp)) (by decide); exact h
      refine o8.call2 (enters_of Tryz.func12 (by kernel_rfl) rfl) f3 f7 (refSame7_any x y w (okx.later hl0) (oky.later hl0)) ?_
      rintro e w' ⟨rfl, hl'⟩
      exact ⟨_, rfl, hK _ _ hl' rfl⟩
    · have ws := o9.waits ho hwait
      have f8 : a.eval (.tmp 25) = .bool (sameN x.v y.v) := by obtain ⟨_, _, _, h⟩ := F 8 (ws 8 (by simp)) (by decide); exact h
      refine o9.notB f8 ?_
      exact hK _ _ (Later.refl w) rfl
  · intro a w so hl F
    exact hend a w so hl (by obtain ⟨_, _, _, h⟩ := F 9 rfl (by decide); exact h)

theorem valsN_same {xs ys : List PaC} {k : Nat} {x y : PaC} (hx : xs[k]? = some x) (hy : ys[k]? = some y) (h : (valsN xs).take k = (valsN ys).take k) (e : x.v = y.v) : (valsN xs).take (k + 1) = (valsN ys).take (k + 1) := by
  rw [valsN_take hx, valsN_take hy, h, e]
theorem falseOf {b : Bool} {p : Prop} (h : b = true ↔ p) (hn : ¬ p) : b = false := by
  cases b with
  | false => rfl
  | true => exact absurd (h.1 rfl) hn
set_option maxRecDepth 100000 in
set_option maxHeartbeats 1600000 in
theorem refAll7_any (A B : Option Addr) (n c m d : Nat) (xs ys : List PaC) (w : World) (hx : NsOk w A n xs) (hy : NsOk w B m ys) (hn : n ≤ 65536) (hm : m ≤ 65536) (b : Bool) (hb : b = true ↔ valsN xs = valsN ys) : Calls Tryz.prog 18 #[.slice A n c, .slice B m d] w (Says b w) := by
  by_cases hnm : n = m
  · subst hnm
    have hlx := hx.len; have hly := hy.len
    have HX := Lib.hid hx; have HY := Lib.hid hy
    clear hx hy
    go_enter Tryz.func18, Tryz.ntmps18
    go_wp2
    go_loopg [5] (n + 1) (fun g s5 wr => ∃ k : Nat, k ≤ n ∧ n - k ≤ g ∧ s5 = .int .i64 k ∧ Hid (Later w wr) ∧ Hid ((valsN xs).take k = (valsN ys).take k))
    case atStart => exact ⟨0, Nat.zero_le _, by omega, rfl, Later.refl w, by simp [Hid]⟩
    case round =>
      obtain ⟨k, hk, hg, rfl, hwr, heq⟩ := hrel
      by_cases hlt : k < n
      · obtain ⟨ba, oa, x, rfl, hzx, okx, -⟩ := (HX.out.later hwr.out).get hlt
        obtain ⟨bb, ob, y, rfl, hzy, oky, -⟩ := (HY.out.later hwr.out).get hlt
        have hlt' : (k : Int) < (n : Int) := by omega
        have HZX := Lib.hid hzx; have HZY := Lib.hid hzy; have HOX := Lib.hid okx; have HOY := Lib.hid oky
        clear hzx hzy okx oky
        go_upto_region 6 with fail
        refine rall_region rfl (by kernel_rfl) ⟨_, rfl, rfl, rfl, rfl, by kernel_rfl⟩ ⟨_, rfl, rfl, rfl, rfl, by kernel_rfl⟩ ⟨_, rfl, rfl, rfl, rfl, by kernel_rfl⟩ ⟨_, rfl, rfl, rfl, rfl, by kernel_rfl⟩ ⟨_, rfl, rfl, rfl, rfl, by kernel_rfl⟩ ⟨_, rfl, rfl, rfl, rfl, by kernel_rfl⟩ ⟨_, rfl, rfl, rfl, rfl, by kernel_rfl⟩ ⟨_, rfl, rfl, rfl, rfl, by kernel_rfl⟩ ⟨_, rfl, rfl, rfl, rfl, by kernel_rfl⟩ ⟨_, rfl, rfl, rfl, rfl, by kernel_rfl⟩ (of_decide_eq_true rfl) rfl rfl rfl (HX.out.later hwr.out).row (HY.out.later hwr.out).row HZX.out HZY.out HOX.out HOY.out hlt (fun a V so hlv er => ?_)
        have HLV := Lib.hid (hwr.out.trans hlv)
        have ha := so.is
        simp only [List.foldl_cons, List.foldl_nil] at ha
        generalize a.eval (.tmp 17) = v17 at ha
        generalize a.eval (.tmp 18) = v18 at ha
        generalize a.eval (.tmp 19) = v19 at ha
        generalize a.eval (.tmp 20) = v20 at ha
        generalize a.eval (.tmp 21) = v21 at ha
        generalize a.eval (.tmp 22) = v22 at ha
        generalize a.eval (.tmp 23) = v23 at ha
        generalize a.eval (.tmp 24) = v24 at ha
        generalize a.eval (.tmp 25) = v25 at ha
        generalize a.eval (.tmp 26) = v26 at ha er
        clear so hlv HOX HOY
        subst ha
        simp only [Act.put, List.setIfInBounds_toArray, List.set_cons_zero, List.set_cons_succ]
        by_cases he : x.v = y.v
        · rw [sameN_iff.2 he] at er
          subst er
          have HN := Lib.hid (valsN_same HZX.out HZY.out heq.out he)
          simp only [Bool.not_true]
          go_wp2
          go_roundg (n - (k + 1))
          case measure => omega
          case rel => exact ⟨k + 1, by omega, Nat.le_refl _, by go_num, HLV, HN⟩
        · have hf : sameN x.v y.v = false := by
            cases h : sameN x.v y.v with
            | false => rfl
            | true => exact absurd (sameN_iff.1 h) he
          rw [hf] at er
          subst er
          have HN : Hid (¬ valsN xs = valsN ys) := by
            intro e
            have h1 := valsN_at HZX.out; have h2 := valsN_at HZY.out
            rw [e, h2] at h1
            exact he (Option.some.inj h1).symm
          simp only [Bool.not_false]
          go_wp2
          go_ret
          exact ⟨by rw [falseOf hb HN.out]; rfl, HLV.out⟩
      · have HE : Hid (valsN xs = valsN ys) := by
          have := heq.out
          rw [List.take_of_length_le (by rw [valsN_length, hlx]; omega), List.take_of_length_le (by rw [valsN_length, hly]; omega)] at this
          exact this
        go_wp2
        go_ret
        exact ⟨by rw [hb.2 HE.out]; rfl, hwr.out⟩
  · have HN : Hid (¬ valsN xs = valsN ys) := by
      intro e
      have h1 := congrArg List.length e
      rw [valsN_length, valsN_length, hx.len, hy.len] at h1
      exact hnm h1
    have hnm' : ¬ (n : Int) = (m : Int) := by omega
    clear hx hy
    go_enter Tryz.func18, Tryz.ntmps18
    go_wp2
    go_ret
    exact ⟨by rw [falseOf hb HN.out]; rfl, Later.refl w⟩

end Go.Proofs.YtlnjhimbgckdcaaGreat

/-
  A new row of one patch; append onto a row of patches that has no room (its capacity is its length).
-/
namespace Go.Proofs.YtlnjhimbgckdcaaGreat
open Go.RowKit Go.Maps

theorem OwnNs.one {e : TypeId} {w0 w : World} {x : PaC} (hl : Later w0 w) (hx : PaOk w x) : OwnNs e w0 (w.alloc (.cells (paL x).toArray e)) (.slice (some ⟨w.heap.size, 0, none⟩) 1 1) [x] := by
  refine ⟨⟨?_, fun cs hcs => ?_, hl.alloc _⟩, fun y hy => ?_, fun y hy g hg => ?_⟩
  · exact ⟨by simp [paL], .inr ⟨w.heap.size, 1, (paL x).toArray, rfl, hl.size, heap_alloc_new w _, Nat.le_refl _, by decide, rfl, by simp [paL]⟩⟩
  · simp at hcs; subst hcs; rfl
  · simp at hy; subst hy; exact hx.later4 _
  · simp at hy; subst hy
    simp only [Value.ownBlock, Option.some.injEq] at hg
    subst hg
    exact hx.away (Nat.le_refl _)
section
variable {P : Program} {e : TypeId} {w : World} {xs : List PaC}
theorem paL_cells {A : Option Addr} {b o m : Nat} {ys : List PaC} (hr : RowK 4 w A m (ys.map paL)) (hc : ∀ (j i : Nat) cs v, (ys.map paL)[j]? = some cs → cs[i]? = some v → w.cell? ⟨b, o + j * 4 + i, none⟩ = some v) : ∀ j u, (ys.map paL).flatten[j]? = some u → w.cell? ((⟨b, o, none⟩ : Addr).add j) = some u := fun j u hu => by
  have hjl := (List.getElem?_eq_some_iff.1 hu).1
  rw [flat_length hr.2.1] at hjl
  have hq : j / 4 < (ys.map paL).length := (Nat.div_lt_iff_lt_mul (by decide)).2 hjl
  have hjk : j / 4 * 4 + j % 4 = j := by omega
  have hat := flat_at (i := j % 4) hr.2.1 (List.getElem?_eq_getElem hq) (Nat.mod_lt _ (by decide))
  rw [hjk, hu] at hat
  have := hc (j / 4) (j % 4) _ u (List.getElem?_eq_getElem hq) hat.symm
  rw [plain_add, ← hjk, ← Nat.add_assoc]
  exact this
theorem run_append_full_ns (t ty : TypeId) (i : TypeInfo) (z : Value) (bytes : Nat) (ht : P.underlying t = some (.slice e)) (hi : P.info? e = some i) (hz : i.zero = some z) (hsize : i.size = 4) (hby : i.bytes = bytes) (hzs : z.cells.size = 4)
    {A0 : Option Addr} {n cap : Nat} {m : Nat} (hcn : cap < n + m) (hnil : A0 = none → cap = 0) (h0r : RowK 4 w A0 n (xs.map paL)) (h0k : ∀ x ∈ xs, PaOk w x) (A : Option Addr) (c : Nat) (ys : List PaC) (h0 : 0 < m) (hr : RowK 4 w A m (ys.map paL)) (hok : ∀ y ∈ ys, PaOk w y) (hb : n + m ≤ 1000000) (hbb : bytes ≤ 1000) :
    ∃ v' w', (Builtin.append_ #[t, t] ty #[.slice A0 n cap, .slice A m c]).run P w = .ok v' w' ∧ OwnNs e w w' v' (xs ++ ys) := by
  have hbig : (n + m) * bytes ≤ 140737488355328 := Nat.le_trans (Nat.mul_le_mul hb hbb) (by omega)
  have hl := hr.len
  have hl0 := h0r.len
  simp only [List.length_map] at hl hl0
  subst hby
  have hlx : (xs.map paL).flatten.length = n * 4 := by rw [flat_length h0r.2.1]; simp [hl0]
  have hly : (ys.map paL).flatten.length = m * 4 := by rw [flat_length hr.2.1]; simp [hl]
  obtain ⟨b, o, rfl, hc⟩ := hr.2.2 h0
  have fin : ∀ old, OwnNs e w (w.drew.alloc (.cells ((xs.map paL).flatten.toArray ++ (ys.map paL).flatten.toArray ++ Builtin.zeroCells z.cells (grownCap w (n + m) old e - (n + m))) e)) (.slice (some ⟨w.heap.size, 0, none⟩) (n + m) (grownCap w (n + m) old e)) (xs ++ ys) := by
    intro old
    have hge := grownCap_ge w (n + m) old e
    have hcm : grownCap w (n + m) old e ≤ maxLen := grownCap_le_maxLen w (n + m) old e (by simp only [maxLen]; omega)
    have hL : Later w (w.drew.alloc (.cells ((xs.map paL).flatten.toArray ++ (ys.map paL).flatten.toArray ++ Builtin.zeroCells z.cells (grownCap w (n + m) old e - (n + m))) e)) := (Later.refl w).drew.alloc _
    have hlen : ((xs ++ ys).map paL).length = n + m := by simp; omega
    have hall : ∀ x ∈ xs ++ ys, PaOk w x := fun x hx => by
      rcases List.mem_append.1 hx with h | h
      · exact h0k x h
      · exact hok x h
    refine ⟨⟨?_, fun cs hcs => ?_, hL⟩, fun x hx => (hall x hx).later hL, fun x hx g hg => ?_⟩
    · rw [hlen]
      refine ⟨?_, .inr ⟨w.heap.size, _, _, rfl, Nat.le_refl _, heap_alloc_new w.drew _, hge, hcm, ?_, ?_⟩⟩
      · rw [List.map_append, List.flatten_append, List.length_append, hlx, hly, Nat.add_mul]
      · simp only [Array.size_append, List.size_toArray, size_zeroCells, hzs, hlx, hly, ← Nat.add_mul]
        congr 1
        omega
      · simp only [Array.toList_append, List.append_assoc]
        rw [← List.append_assoc, List.map_append, List.flatten_append, show (n + m) * 4 = ((xs.map paL).flatten ++ (ys.map paL).flatten).length from by rw [List.length_append, hlx, hly, Nat.add_mul]]
        exact List.take_left
    · obtain ⟨y, _, rfl⟩ := List.mem_map.1 hcs
      rfl
    · simp only [Value.ownBlock, Option.some.injEq] at hg
      subst hg
      exact (hall x hx).away (Nat.le_refl _)
  cases A0 with
  | none =>
    have hn0 : n = 0 := by
      rcases Nat.eq_zero_or_pos n with h | h
      · exact h
      · obtain ⟨_, _, h, _⟩ := h0r.2.2 h
        cases h
    obtain rfl := hnil rfl
    subst hn0
    obtain rfl : xs = [] := List.eq_nil_of_length_eq_zero hl0
    have hrun := run_append_nil (P := P) w t ty e i z ht hi hz ⟨b, o, none⟩ m c (ys.map paL).flatten (by rw [hly, hsize]) (paL_cells hr hc) h0 (by omega) (by simp only [Nat.zero_add] at hbig; omega)
    have h2 := fin 0
    simp only [Nat.zero_add, List.map_nil, List.flatten_nil, List.nil_append] at h2 hrun ⊢
    refine ⟨_, _, hrun, ?_⟩
    simpa using h2
  | some a =>
    have holds : ∀ j u, (xs.map paL).flatten[j]? = some u → w.cell? (a.add j) = some u := by
      rcases Nat.eq_zero_or_pos n with h | h
      · subst h
        obtain rfl : xs = [] := List.eq_nil_of_length_eq_zero hl0
        intro j u hu
        simp at hu
      · obtain ⟨b0, o0, he, hc0⟩ := h0r.2.2 h
        cases he
        exact paL_cells h0r hc0
    have hrun := run_append_grow (P := P) w t ty e i z ht hi hz a n cap (xs.map paL).flatten (by rw [hlx, hsize]) holds ⟨b, o, none⟩ m c (ys.map paL).flatten (by rw [hly, hsize]) (paL_cells hr hc) hcn (by omega) (growslice_fits hcn hbig)
    exact ⟨_, _, hrun, fin cap⟩
end

end Go.Proofs.YtlnjhimbgckdcaaGreat
