import Derived.Test.YtbhnbkcokhfopaaGreatPk8
import Derived.Test.YtbhnbkcokhfopaaGreatPk4
import Derived.Deep.Cut
import Derived.WalkMore
import Derived.Deep.LoopGhost
import Derived.Deep.QuietTactic
import Derived.BigQuiet
import Derived.Lib.Hide
import Derived.Test.YtbhnbkcokhfopaaGreatChecked
import Derived.OrdersHeld
import Derived.WalkKit
import Derived.Test.YtbhnbkcokhfopaaGreatPk3

/-
  What diff's next comes to, as a call.
-/
namespace Go.Proofs.YtbhnbkcokhfopaaGreat
open Go.RowKit Go.Maps

theorem Tryz.pairSize : (Tryz.prog.info? 55).map (·.size) = some 2 := by kernel_rfl
/-- Two numbers are written into a block. -/
theorem wpList_store_two {ops : Array Oper} {rest : List Oper} {op : Oper} {a : Act} {w : World} {Q : Exit → Act → World → Prop} (hgd : op.guard = none) (hd : op.dst = none) (T : TypeId) (j k : Tmp) (ho : op.op = .store T (.tmp j) (.tmp k)) (hi : (Tryz.prog.info? T).map (·.size) = some 2) (g : Nat) (x y : Int) (hj : a.eval (.tmp j) = .pointer (some ⟨g, 0, none⟩)) (hv : a.eval (.tmp k) = .agg #[.int .i64 x, .int .i64 y])
    {cs : Array Value} {t : TypeId} (hb : BoxAt w g cs t) (hs : cs.size = 2) (h : ∀ w', BoxAt w' g #[.int .i64 x, .int .i64 y] t → Turned g w w' → wpList Tryz.prog ops Q rest a w') : wpList Tryz.prog ops Q (op :: rest) a w := by
  refine wpList_store_row hgd T (.tmp j) (.tmp k) ho g #[.int .i64 x, .int .i64 y] hj hv t cs hb hi hs (by simp [Value.oneCell']) ?_
  rw [hd]
  refine h _ ?_ ?_
  · exact setRow_heap w g cs _ t _ hb
  · exact ⟨rfl, rfl, rfl, by simp, fun i hi hne => setRow_other w g i _ (fun e => hne (by rw [e]))⟩

set_option maxRecDepth 100000 in
set_option maxHeartbeats 3200000 in
theorem next_any (A B C : Option Addr) (n c m d e : Nat) (la lb : List ByteArray) (i k left x y : Nat) (w : World) (ha : Row w A n la) (hb : Row w B m lb) (ht : TabAt w C (n + 1) (m + 1) 0 (tabB la lb)) (hn : n ≤ 65536) (hm : m ≤ 65536)
    (hl : tabB la lb i k = left + 1) (hi : i ≤ n) (hk : k ≤ m) (hx : nextPair la lb (left + 1) i k = some (x, y)) :
    Calls Tryz.prog 42 #[.slice A n c, .slice B m d, .slice C (n + 1) e, .agg #[.int .i64 (i : Nat), .int .i64 (k : Nat)]] w fun e w' => e = .returned (.agg #[.int .i64 (x : Nat), .int .i64 (y : Nat)]) ∧ Later w w' := by
  have hleft := tabB_le la lb i k
  rw [hl, ha.len] at hleft
  have HA := Lib.hid ha; have HB := Lib.hid hb; have HT := Lib.hid ht; have HL := Lib.hid hl; have HX := Lib.hid hx
  clear ha hb ht hl hx
  go_enter Tryz.func42, Tryz.ntmps42
  go_wp2
  go_step3
  go_upto_region 2 with fail
  obtain ⟨b7, b8, b9, hl0⟩ : BoxAt (((w.alloc (.cells #[.int .i64 (i : Nat), .int .i64 (k : Nat)] 55)).alloc (.cells #[.int .i64 0, .int .i64 0] 55)).alloc (.cells #[.int .i64 0, .int .i64 0] 55)) w.heap.size #[.int .i64 (i : Nat), .int .i64 (k : Nat)] 55 ∧ BoxAt (((w.alloc (.cells #[.int .i64 (i : Nat), .int .i64 (k : Nat)] 55)).alloc (.cells #[.int .i64 0, .int .i64 0] 55)).alloc (.cells #[.int .i64 0, .int .i64 0] 55)) (w.heap.size + 1) #[.int .i64 0, .int .i64 0] 55 ∧ BoxAt (((w.alloc (.cells #[.int .i64 (i : Nat), .int .i64 (k : Nat)] 55)).alloc (.cells #[.int .i64 0, .int .i64 0] 55)).alloc (.cells #[.int .i64 0, .int .i64 0] 55)) (w.heap.size + 1 + 1) #[.int .i64 0, .int .i64 0] 55 ∧ Later w (((w.alloc (.cells #[.int .i64 (i : Nat), .int .i64 (k : Nat)] 55)).alloc (.cells #[.int .i64 0, .int .i64 0] 55)).alloc (.cells #[.int .i64 0, .int .i64 0] 55)) := by
    refine ⟨((BoxAt.made w _ _).alloc _).alloc _, BoxAt.alloc ?_ _, ?_, (((Later.refl w).alloc _).alloc _).alloc _⟩
    · have := BoxAt.made (w.alloc (.cells #[.int .i64 (i : Nat), .int .i64 (k : Nat)] 55)) #[.int .i64 0, .int .i64 0] 55
      rw [World.size_alloc] at this
      exact this
    · have := BoxAt.made ((w.alloc (.cells #[.int .i64 (i : Nat), .int .i64 (k : Nat)] 55)).alloc (.cells #[.int .i64 0, .int .i64 0] 55)) #[.int .i64 0, .int .i64 0] 55
      rw [World.size_alloc, World.size_alloc] at this
      exact this
  generalize ((w.alloc (.cells #[.int .i64 (i : Nat), .int .i64 (k : Nat)] 55)).alloc (.cells #[.int .i64 0, .int .i64 0] 55)).alloc (.cells #[.int .i64 0, .int .i64 0] 55) = wx at b7 b8 b9 hl0 ⊢
  have c0 := b7.cell (i := 0) rfl; have c1 := b7.cell (i := 1) rfl
  simp only [List.getElem_toArray, List.getElem_cons_zero, List.getElem_cons_succ] at c0 c1
  obtain ⟨bt, ot, gt, ct, rfl, t1, t2⟩ := (HT.out.later hl0) i (Nat.zero_le _) (by omega)
  replace t2 := t2 k (by omega)
  rw [HL.out] at t2
  have B7 := Lib.hid b7; have B8 := Lib.hid b8; have B9 := Lib.hid b9; have L0 := Lib.hid hl0
  clear b7 b8 b9 hl0
  generalize hO : w.heap.size = O at B7 B8 B9 c0 c1 ⊢
  have HO := Lib.hid hO
  clear hO
  go_wp2
  go_region
  clear c0 c1 t1 t2
  have hl1 : Later wx wx.drew := (Later.refl wx).drew
  replace B7 := Lib.hid (B7.out.later hl1); replace B8 := Lib.hid (B8.out.later hl1); replace B9 := Lib.hid (B9.out.later hl1); replace L0 := Lib.hid (L0.out.trans hl1)
  clear hl1
  generalize wx.drew = wy at B7 B8 B9 L0 ⊢
  have c0 := B7.out.cell (i := 0) rfl; have c1 := B7.out.cell (i := 1) rfl
  simp only [List.getElem_toArray, List.getElem_cons_zero, List.getElem_cons_succ] at c0 c1
  go_wp2
  go_step3
  go_wp2
  clear c0 c1
  go_loopg [11] (n + 1) (fun g s11 wr => ∃ x' : Nat, i ≤ x' ∧ n - x' ≤ g ∧ s11 = .int .i64 (x' : Nat) ∧ Hid (NoneYet la lb (left + 1) i k x' k) ∧ Hid (BoxAt wr O #[.int .i64 (i : Nat), .int .i64 (k : Nat)] 55) ∧ Hid (BoxAt wr (O + 1) #[.int .i64 0, .int .i64 0] 55) ∧ Hid (BoxAt wr (O + 1 + 1) #[.int .i64 0, .int .i64 0] 55) ∧ Hid (Later w wr))
  case atStart => exact ⟨i, Nat.le_refl _, by omega, rfl, NoneYet.start, B7, B8, B9, L0⟩
  case round =>
    obtain ⟨x', hx', hgx, rfl, hno, b7, b8, b9, l0⟩ := hrel
    clear B7 B8 B9 L0
    have hmore := (hno.out.more HL.out).1
    rw [HA.out.len] at hmore
    have c0 := b7.out.cell (i := 0) rfl; have c1 := b7.out.cell (i := 1) rfl
    simp only [List.getElem_toArray, List.getElem_cons_zero, List.getElem_cons_succ] at c0 c1
    go_wp2
    clear c0 c1
    go_loopg [12] (m + 1) (fun g s12 wq => ∃ y' : Nat, k ≤ y' ∧ y' ≤ m ∧ m - y' ≤ g ∧ s12 = .int .i64 (y' : Nat) ∧ Hid (NoneYet la lb (left + 1) i k x' y') ∧ Hid (BoxAt wq O #[.int .i64 (i : Nat), .int .i64 (k : Nat)] 55) ∧ Hid (BoxAt wq (O + 1) #[.int .i64 0, .int .i64 0] 55) ∧ Hid (BoxAt wq (O + 1 + 1) #[.int .i64 0, .int .i64 0] 55) ∧ Hid (Later w wq))
    case atStart => exact ⟨k, Nat.le_refl _, hk, by omega, rfl, hno, b7, b8, b9, l0⟩
    case round =>
      obtain ⟨y', hy', hym, hgy, rfl, hno', q7, q8, q9, q0⟩ := hrel
      clear b7 b8 b9 l0 hno
      by_cases hlt : y' < m
      · obtain ⟨ba, oa, rfl, d1⟩ := (HA.out.later q0.out).get (k := x') (by omega)
        obtain ⟨bb, ob, rfl, d2⟩ := (HB.out.later q0.out).get (k := y') (by omega)
        obtain ⟨bt', ot', gt', ct', e0, t1, t2⟩ := (HT.out.later q0.out) (x' + 1) (Nat.zero_le _) (by omega)
        cases e0
        replace t2 := t2 (y' + 1) (by omega)
        have hbig := tabB_le la lb (x' + 1) (y' + 1)
        rw [HA.out.len] at hbig
        have HG := Lib.hid (good_is (a := la) (b := lb) x' y' (left + 1))
        generalize tabB la lb (x' + 1) (y' + 1) = tv at t2 hbig HG
        by_cases he : la.getD x' ByteArray.empty = lb.getD y' ByteArray.empty
        · have hq : ((la.getD x' ByteArray.empty).toList == (lb.getD y' ByteArray.empty).toList) = true := by rw [text_beq]; simp only [he, decide_true]
          by_cases ht : tv = left
          · have HGO : Hid (goodAt la lb (left + 1) x' y' = true) := by
              show _ = true
              rw [HG.out, he, ht]; simp
            have hxy : (x', y') = (x, y) := Option.some.inj ((next_is hno'.out hx' hy' (by rw [HA.out.len]; omega) (by rw [HB.out.len]; omega) HGO.out).symm.trans HX.out)
            obtain ⟨hx1, hy1⟩ := Prod.mk.inj hxy
            subst hx1
            subst hy1
            clear hxy
            generalize la.getD x' ByteArray.empty = xa at d1 hq
            generalize lb.getD y' ByteArray.empty = xb at d2 hq
            subst ht
            clear he HG HGO
            go_wp2
            go_region
            have hl1 : Later wr wr.drew := (Later.refl wr).drew
            replace q7 := Lib.hid (q7.out.later hl1); replace q8 := Lib.hid (q8.out.later hl1); replace q9 := Lib.hid (q9.out.later hl1); replace q0 := Lib.hid (q0.out.trans hl1)
            clear hl1 d1 d2 t1 t2 hq
            generalize wr.drew = wy at q7 q8 q9 q0 ⊢
            go_wp2_with (with_reducible show wpList _ _ _ ({ dst := none, op := Op.store 55 _ _, type := _, pos := _, after := _, guard := _ } :: _) _ _; refine Hid.out ?_)
            refine Lib.hid (wpList_store_two rfl rfl 55 _ _ rfl Tryz.pairSize (O + 1 + 1) x' y' rfl rfl q9.out rfl ?_)
            intro w3 hb9 ht9
            have HL3 := Lib.hid (q0.out.turn ht9 (by rw [HO.out]; omega))
            have HB8 := Lib.hid (q8.out.other ht9 (by omega))
            have z0 := hb9.cell (i := 0) rfl; have z1 := hb9.cell (i := 1) rfl
            simp only [List.getElem_toArray, List.getElem_cons_zero, List.getElem_cons_succ] at z0 z1
            clear hb9 ht9 q7 q8 q9 q0
            go_wp2_with (with_reducible show wpList _ _ _ ({ dst := none, op := Op.store 55 _ _, type := _, pos := _, after := _, guard := _ } :: _) _ _; refine Hid.out ?_)
            refine Lib.hid (wpList_store_two rfl rfl 55 _ _ rfl Tryz.pairSize (O + 1) x' y' rfl rfl HB8.out rfl ?_)
            intro w4 hb8 ht8
            have HL4 := Lib.hid (HL3.out.turn ht8 (by rw [HO.out]; omega))
            have HB4 := Lib.hid hb8
            clear hb8 ht8 HB8 HL3 z0 z1
            go_wp2
            try rw [Exit.noGoto_ret]
            refine bodyPost_ret (results_cell_row rfl _ _ (O + 1) 55 _ (0, 0) _ rfl HB4.out Tryz.underlying55 rfl Tryz.pairSize) rfl ?_
            exact ⟨rfl, HL4.out⟩
          · have hq2 : ((tv : Int) == (left : Int)) = false := by simp; omega
            have HNX := Lib.hid (hno'.out.step (by rw [HG.out, decide_eq_false (show ¬ tv + 1 = left + 1 from by omega)]; simp))
            generalize la.getD x' ByteArray.empty = xa at d1 hq
            generalize lb.getD y' ByteArray.empty = xb at d2 hq
            clear he HG ht
            go_wp2
            go_region
            go_wp2
            go_roundg (m - (y' + 1))
            case measure => omega
            case rel => exact ⟨y' + 1, by omega, by omega, Nat.le_refl _, by go_num, HNX, q7.out.later (Later.refl _).drew, q8.out.later (Later.refl _).drew, q9.out.later (Later.refl _).drew, q0.out.trans (Later.refl _).drew⟩
        · have hq : ((la.getD x' ByteArray.empty).toList == (lb.getD y' ByteArray.empty).toList) = false := text_ne he
          have HNX := Lib.hid (hno'.out.step (by rw [HG.out, decide_eq_false he]; simp))
          generalize la.getD x' ByteArray.empty = xa at d1 hq
          generalize lb.getD y' ByteArray.empty = xb at d2 hq
          clear he HG
          go_wp2
          go_region
          go_wp2
          go_roundg (m - (y' + 1))
          case measure => omega
          case rel => exact ⟨y' + 1, by omega, by omega, Nat.le_refl _, by go_num, HNX, q7.out.later (Later.refl _).drew, q8.out.later (Later.refl _).drew, q9.out.later (Later.refl _).drew, q0.out.trans (Later.refl _).drew⟩
      · have HNX := Lib.hid (hno'.out.next (by rw [HB.out.len]; omega))
        have hmore2 := (hno'.out.more HL.out).2 (by rw [HB.out.len]; omega)
        rw [HA.out.len] at hmore2
        go_wp2
        go_roundg (n - (x' + 1))
        case measure => omega
        case rel => exact ⟨x' + 1, by omega, Nat.le_refl _, by go_num, HNX, q7, q8, q9, q0⟩

end Go.Proofs.YtbhnbkcokhfopaaGreat

/-
  What diff's Common comes to, as a call.
-/
namespace Go.Proofs.YtbhnbkcokhfopaaGreat
open Go.RowKit Go.Maps

theorem Tryz.pairInfo : (Tryz.prog.info? 55).map (fun i => (i.zero, i.size, i.bytes)) = some (some (.agg #[.int .i64 0, .int .i64 0]), 2, 16) := by kernel_rfl
/-- A row of pairs, in cells. -/
def pairsV (l : List (Nat × Nat)) : List (List Value) := l.map fun p => [.int .i64 (p.1 : Nat), .int .i64 (p.2 : Nat)]
theorem pairsV_append (l : List (Nat × Nat)) (x y : Nat) : pairsV (l ++ [(x, y)]) = pairsV l ++ [[.int .i64 (x : Nat), .int .i64 (y : Nat)]] := by simp [pairsV]
theorem pairsV_length (l : List (Nat × Nat)) : (pairsV l).length = l.length := by simp [pairsV]
/-- What tells a row of pairs of its own. -/
def GivesPairs (t : TypeId) (l : List (Nat × Nat)) (w : World) (e : Ending) (w' : World) : Prop := ∃ v, e = .returned v ∧ OwnK t 2 w w' v (pairsV l)
section
variable {e : TypeId} {k : Nat} {w0 w1 w w' : World} {v : Value} {css : List (List Value)}
theorem OwnK.base (h : OwnK e k w1 w v css) (hl : Later w0 w1) : OwnK e k w0 w v css :=
  ⟨⟨h.1.1, by
    rcases h.1.2 with h1 | ⟨g, cap, cur, h1, h2, h3⟩
    · exact .inl h1
    · exact .inr ⟨g, cap, cur, h1, Nat.le_trans hl.le h2, h3⟩⟩, h.2.1, hl.trans h.2.2⟩
theorem OwnK.off {b : Nat} (h : OwnK e k w0 w v css) (ht : Turned b w w') (hv : v.ownBlock ≠ some b) (hb : w0.heap.size ≤ b) : OwnK e k w0 w' v css :=
  ⟨h.1.kept ht (by
    cases hc : v.ownBlock with
    | none => exact .inl rfl
    | some c => right; rw [hc] at hv; exact hv), h.2.1, h.2.2.turn ht hb⟩
theorem BoxAt.grew {g : Nat} {cs : Array Value} {t : TypeId} {r : Option Nat} (h : BoxAt w g cs t) (hg : w.grownBy w' r) (hne : r ≠ some g) : BoxAt w' g cs t := (hg.block g h.lt (fun e => hne e.symm)).trans h
end

set_option maxRecDepth 100000 in
set_option maxHeartbeats 3200000 in
theorem common_any (A B : Option Addr) (n c m d : Nat) (la lb : List ByteArray) (w : World) (ha : Row w A n la) (hb : Row w B m lb) (hn : n ≤ 65536) (hm : m ≤ 65536) :
    Calls Tryz.prog 19 #[.slice A n c, .slice B m d] w (GivesPairs 55 (commonL la lb) w) := by
  have hna := ha.len; have hnb := hb.len
  by_cases h1 : 200 < n
  · have HE := Lib.hid (common_great (a := la) (b := lb) (.inl (by omega)))
    clear ha hb hna hnb
    go_enter Tryz.func19, Tryz.ntmps19
    go_wp2
    go_ret
    exact ⟨_, rfl, by rw [HE.out]; exact OwnK.nil (Later.refl w)⟩
  · by_cases h2 : 200 < m
    · have HE := Lib.hid (common_great (a := la) (b := lb) (.inr (by omega)))
      clear ha hb hna hnb
      go_enter Tryz.func19, Tryz.ntmps19
      go_wp2
      go_ret
      exact ⟨_, rfl, by rw [HE.out]; exact OwnK.nil (Later.refl w)⟩
    · have HC := Lib.hid (common_small (a := la) (b := lb) (by omega) (by omega))
      have HBH := Lib.hid (behind_any A B n c m d la lb w ha hb hn hm)
      have hle := tabB_le la lb 0 0
      rw [hna] at hle
      have HA := Lib.hid ha; have HB := Lib.hid hb
      clear ha hb hna hnb
      obtain ⟨i0, hi, hz0, hz1, hz2⟩ := info_parts Tryz.pairInfo
      go_enter Tryz.func19, Tryz.ntmps19
      go_wp2_with fail
      refine HBH.out.mono ?_
      rintro e w1 ⟨C, ce, rfl, hce, ht, hl1⟩
      obtain ⟨bt, ot, gt, ct, rfl, t1, t2⟩ := ht 0 (Nat.zero_le _) (by omega)
      replace t2 := t2 0 (by omega)
      rw [Nat.add_zero] at t1
      have HT := Lib.hid ht; have HL1 := Lib.hid hl1
      clear ht hl1 HBH
      generalize htot : tabB la lb 0 0 = tot at t2 HC hle
      have HTOT := Lib.hid htot
      clear htot
      have hbF : BoxAt (w1.alloc (.cells #[.int .i64 0, .int .i64 0] 55)) w1.heap.size #[.int .i64 0, .int .i64 0] 55 := BoxAt.made w1 _ _
      have hlF : Later w1 (w1.alloc (.cells #[.int .i64 0, .int .i64 0] 55)) := (Later.refl w1).alloc _
      replace t1 := hlF.cell t1; replace t2 := hlF.cell t2
      go_wp2_with fail
      generalize w1.alloc (.cells #[.int .i64 0, .int .i64 0] 55) = wF at hbF hlF t1 t2 ⊢
      generalize hgF : w1.heap.size = gF at hbF ⊢
      have HBF := Lib.hid hbF; have HLF := Lib.hid hlF; have HGF := Lib.hid hgF
      clear hbF hlF hgF
      go_wp2
      clear t1 t2
      go_loopg [25, 6] (tot + 1) (fun g s25 s6 wr => ∃ j i k left acc, j + left = tot ∧ left ≤ g ∧ s25 = .int .i64 (j : Nat) ∧ acc.length = j ∧ i ≤ n ∧ k ≤ m ∧ Hid (OwnK 55 2 w1 wr s6 (pairsV acc)) ∧ Hid (acc ++ commonGo la lb left i k = commonL la lb) ∧ Hid (tabB la lb i k = left) ∧ Hid (BoxAt wr gF #[.int .i64 (i : Nat), .int .i64 (k : Nat)] 55) ∧ Hid (s6.ownBlock ≠ some gF))
      case atStart => exact ⟨0, 0, 0, tot, [], by omega, by omega, rfl, rfl, Nat.zero_le _, Nat.zero_le _, OwnK.nil HLF.out, by rw [List.nil_append]; exact HC.out.symm, HTOT.out, HBF, by simp [Hid, Value.ownBlock]⟩
      case round =>
        obtain ⟨j, i, k, left, acc, hj, hg, rfl, hacc, hi', hk', hO, hEq, hT, hBF, hne⟩ := hrel
        clear HBF HLF
        cases left with
        | zero =>
          have HE : Hid (commonL la lb = acc) := by
            have := hEq.out
            simp only [commonGo, List.append_nil] at this
            exact this.symm
          go_wp2
          go_ret
          exact ⟨_, rfl, by rw [HE.out]; exact hO.out.base HL1.out⟩
        | succ left =>
          obtain ⟨x, y, hxy, hix, hky, hxa, hyb, ht2, hgo⟩ := common_next hT.out
          have hl1 := hO.out.later
          rw [HA.out.len] at hxa
          rw [HB.out.len] at hyb
          have HN := Lib.hid (next_any A B (some ⟨bt, ot, none⟩) n c m d ce la lb i k left x y wr (HA.out.later (HL1.out.trans hl1)) (HB.out.later (HL1.out.trans hl1)) (HT.out.later hl1) hn hm hT.out hi' hk' hxy)
          have HEQ2 : Hid ((acc ++ [(x, y)]) ++ commonGo la lb left (x + 1) (y + 1) = commonL la lb) := by
            show _ = _
            rw [← hEq.out, hgo, List.append_assoc]
            rfl
          have HT2 := Lib.hid ht2
          clear hxy ht2 hgo hl1
          have c0 := hBF.out.cell (i := 0) rfl; have c1 := hBF.out.cell (i := 1) rfl
          simp only [List.getElem_toArray, List.getElem_cons_zero, List.getElem_cons_succ] at c0 c1
          go_wp2_with fail
          refine HN.out.mono ?_
          rintro e w2 ⟨rfl, hl2⟩
          clear c0 c1 HN
          have bp : BoxAt ((w2.alloc (.cells #[.int .i64 (x : Nat), .int .i64 (y : Nat)] 55)).alloc (.cells #[.int .i64 (x : Nat), .int .i64 (y : Nat)] 55)) w2.heap.size #[.int .i64 (x : Nat), .int .i64 (y : Nat)] 55 := (BoxAt.made w2 _ _).alloc _
          have hrow : RowK 2 ((w2.alloc (.cells #[.int .i64 (x : Nat), .int .i64 (y : Nat)] 55)).alloc (.cells #[.int .i64 (x : Nat), .int .i64 (y : Nat)] 55)) (some ⟨w2.heap.size + 1, 0, none⟩) 1 [[.int .i64 (x : Nat), .int .i64 (y : Nat)]] := by
            have := RowK.one (w2.alloc (.cells #[.int .i64 (x : Nat), .int .i64 (y : Nat)] 55)) [.int .i64 (x : Nat), .int .i64 (y : Nat)] 55
            rw [World.size_alloc] at this
            exact this
          have hlp : Later w2 ((w2.alloc (.cells #[.int .i64 (x : Nat), .int .i64 (y : Nat)] 55)).alloc (.cells #[.int .i64 (x : Nat), .int .i64 (y : Nat)] 55)) := ((Later.refl w2).alloc _).alloc _
          have hO3 := (hO.out.on hl2).on hlp
          have bF := (hBF.out.later hl2).later hlp
          have hszp : ((w2.alloc (.cells #[.int .i64 (x : Nat), .int .i64 (y : Nat)] 55)).alloc (.cells #[.int .i64 (x : Nat), .int .i64 (y : Nat)] 55)).heap.size = w2.heap.size + 2 := by simp
          have hgp := bF.lt
          have hFp : gF < w2.heap.size := (hBF.out.later hl2).lt
          have HLT := Lib.hid (hO.out.on hl2).1.lt
          have HP := Lib.hid bp; have HR := Lib.hid hrow; have HO3 := Lib.hid hO3; have HF := Lib.hid bF; have HSZ := Lib.hid hszp
          clear bp hrow hlp hO3 bF hszp hgp hl2 hO hBF
          go_wp2_with (at_builtin; refine Hid.out ?_)
          generalize ((w2.alloc (.cells #[.int .i64 (x : Nat), .int .i64 (y : Nat)] 55)).alloc (.cells #[.int .i64 (x : Nat), .int .i64 (y : Nat)] 55)) = w3 at HP HR HO3 HF HSZ ⊢
          refine Lib.hid (wpList_append_rowK5 rfl _ _ 49 rfl i0 _ 16 Tryz.underlying49 hi hz0 hz1 hz2 rfl (by decide) HO3.out rfl _ _ 1 1 _ rfl HR.out (by decide) (by simp [Value.oneCell']) (by rw [pairsV_length]; omega) (by decide) ?_)
          intro v4 w4 ho4 hg4 h5
          have HO4 : Hid (OwnK 55 2 w1 w4 v4 (pairsV (acc ++ [(x, y)]))) := by
            show OwnK _ _ _ _ _ _
            rw [pairsV_append]
            exact ho4
          have bp := HP.out.grew hg4 (fun e => by have := (HLT.out _ e).2; omega)
          have HF4 := Lib.hid (HF.out.grew hg4 hne.out)
          have HNE4 : Hid (v4.ownBlock ≠ some gF) := by
            show _ ≠ _
            rcases h5 with e | e
            · rw [e]; exact hne.out
            · rw [e, HSZ.out]; intro e2; cases e2; omega
          have z0 := bp.cell (i := 0) rfl; have z1 := bp.cell (i := 1) rfl
          simp only [List.getElem_toArray, List.getElem_cons_zero, List.getElem_cons_succ] at z0 z1
          clear bp ho4 hg4 h5 HP HR HO3 HF HSZ HLT
          go_wp2_with (with_reducible show wpList _ _ _ ({ dst := none, op := Op.store 55 _ _, type := _, pos := _, after := _, guard := _ } :: _) _ _; refine Hid.out ?_)
          refine Lib.hid (wpList_store_two rfl rfl 55 _ _ rfl Tryz.pairSize gF ((x + 1 : Nat) : Int) ((y + 1 : Nat) : Int) rfl rfl HF4.out rfl ?_)
          intro w5 hb5 ht5
          have HO5 := Lib.hid (HO4.out.off ht5 HNE4.out (by rw [HGF.out]; exact Nat.le_refl _))
          have HB5 := Lib.hid hb5
          clear hb5 ht5 HO4 HF4 z0 z1
          go_wp2
          go_roundg left
          case measure => omega
          case rel => exact ⟨j + 1, x + 1, y + 1, left, acc ++ [(x, y)], by omega, Nat.le_refl _, by go_num, by simp [hacc], by omega, by omega, HO5, HEQ2, HT2, HB5, HNE4⟩

end Go.Proofs.YtbhnbkcokhfopaaGreat

/-
  A region that draws its order, by what stands behind each set of its operations.
-/
namespace Go.Proofs.YtbhnbkcokhfopaaGreat
open Go.RowKit

/-- An operation more. -/
def more (l : Nat → Bool) (i : Nat) : Nat → Bool := fun j => if j = i then true else l j
theorem more_same (l : Nat → Bool) (i : Nat) : more l i i = true := by simp [more]
theorem more_other (l : Nat → Bool) {i j : Nat} (h : j ≠ i) : more l i j = l j := by simp [more, h]

/-- Each edge that binds goes to an operation ahead. -/
def goesBack (ops : Array Oper) : Bool := (List.range ops.size).all fun i => ((ops[i]?).map (·.after.all fun e => !Region.binds .any e || decide (e.on < i))).getD true
/-- How many are left. -/
def leftN (l : Nat → Bool) : Nat → Nat
  | 0 => 0
  | n + 1 => leftN l n + (if l n then 0 else 1)
theorem left_more (l : Nat → Bool) {i : Nat} : ∀ n, i < n → l i = false → leftN (more l i) n + 1 = leftN l n
  | 0, h, _ => absurd h (Nat.not_lt_zero _)
  | n + 1, h, hi => by
    unfold leftN
    by_cases e : i = n
    · subst e
      have : ∀ k, k ≤ i → leftN (more l i) k = leftN l k := fun k => by
        induction k with
        | zero => intro _; rfl
        | succ k ih => intro hk; unfold leftN; rw [ih (by omega), more_other l (by omega)]
      rw [this i (Nat.le_refl _), more_same, hi]
      simp
    · have := left_more l n (by omega) hi
      rw [more_other l (fun x => e x.symm)]
      omega
theorem left_zero (l : Nat → Bool) : ∀ n, leftN l n = 0 → ∀ i, i < n → l i = true
  | 0, _, i, h => absurd h (Nat.not_lt_zero _)
  | n + 1, h0, i, h => by
    unfold leftN at h0
    by_cases e : i = n
    · subst e
      cases hl : l i
      · rw [hl] at h0; simp at h0
      · rfl
    · exact left_zero l n (by omega) i (by omega)

theorem getD_in {L : Array Bool} {i : Nat} (h : i < L.size) (d : Bool) : L.getD i d = L[i] := by simp [Array.getD, h]
theorem getD_more {L : Array Bool} {i : Nat} (h : i < L.size) : (fun j => (L.setIfInBounds i true).getD j false) = more (fun j => L.getD j false) i := by
  funext j
  unfold more
  by_cases e : j = i
  · subst e
    simp [Array.getD, h]
  · rw [if_neg e]
    by_cases hj : j < L.size
    · simp [Array.getD, hj, Ne.symm e]
    · simp [Array.getD, hj]

theorem ready_parts {ops : Array Oper} {L : Array Bool} (hs : L.size = ops.size) {i : Nat} (h : i ∈ Region.ready .any ops L) : i < ops.size ∧ L.getD i false = false ∧ ∀ o, ops[i]? = some o → ∀ e ∈ o.after, Region.binds .any e = true → L.getD e.on false = true := by
  simp only [Region.ready, List.mem_filter, List.mem_range, Bool.and_eq_true, Bool.not_eq_true'] at h
  obtain ⟨h1, h2, h3⟩ := h
  rw [getD_in (by omega)] at h2
  refine ⟨h1, by rw [getD_in (by omega)]; exact h2, fun o ho e he hb => ?_⟩
  rw [ho] at h3
  simp only [Option.map_some, Option.getD_some, Array.all_eq_true, Bool.or_eq_true, Bool.not_eq_true'] at h3
  obtain ⟨k, hk, rfl⟩ := Array.getElem_of_mem he
  rcases h3 k hk with h | h
  · rw [hb] at h; cases h
  · exact h
theorem ready_none {ops : Array Oper} (hg : goesBack ops = true) {L : Array Bool} (hs : L.size = ops.size) (h : Region.ready .any ops L = []) : ∀ i, i < ops.size → L.getD i false = true := by
  intro i
  induction i using Nat.strongRecOn with
  | ind i ih =>
    intro hi
    cases hl : L.getD i false with
    | true => rfl
    | false =>
      exfalso
      have hm : i ∈ Region.ready .any ops L := by
        simp only [Region.ready, List.mem_filter, List.mem_range, Bool.and_eq_true, Bool.not_eq_true']
        refine ⟨hi, ?_, ?_⟩
        · rw [getD_in (by omega)] at hl ⊢; exact hl
        have h1 := List.all_eq_true.1 hg i (List.mem_range.2 hi)
        rw [Array.getElem?_eq_getElem hi] at h1 ⊢
        simp only [Option.map_some, Option.getD_some, Array.all_eq_true, Bool.or_eq_true, Bool.not_eq_true', decide_eq_true_eq] at h1 ⊢
        intro k hk
        rcases h1 k hk with h2 | h2
        · exact .inl h2
        · exact .inr (ih _ h2 (by omega))
      rw [h] at hm
      cases hm

/-- The region, in whatever order: what stands behind each set of its operations is kept by each that may come. -/
theorem region_inv {P : Program} {ops : Array Oper} {Q : Exit → Act → World → Prop} {id : Nat} {a : Act} {w : World} (hm : P.follows .mixedOrders = true) (hg : goesBack ops = true) (Inv : (Nat → Bool) → Act → World → Prop)
    (hstep : ∀ l a w i o, ops[i]? = some o → l i = false → (∀ e ∈ o.after, Region.binds .any e = true → l e.on = true) → Inv l a w → wpOp P ops Q i (fun a' w' => Inv (more l i) a' w') a w)
    (hend : ∀ l a w, (∀ i, i < ops.size → l i = true) → Inv l a w → Q .normal a w)
    (h0 : Inv (fun _ => false) a { w with drawn := w.drawn + 1 }) : (Code.region id ops true).wp P Q a w := by
  have key : ∀ fuel (L : Array Bool) a w, L.size = ops.size → leftN (fun j => L.getD j false) ops.size ≤ fuel → Inv (fun j => L.getD j false) a w → wpAny P .any ops Q fuel L a w := by
    intro fuel
    induction fuel with
    | zero =>
      intro L a w hs hf h
      have hall := left_zero _ _ (Nat.le_zero.1 hf)
      refine ⟨?_, hend _ _ _ hall h⟩
      cases hr : Region.ready .any ops L with
      | nil => rfl
      | cons i rs =>
        have hi := ready_parts hs (i := i) (by rw [hr]; exact List.mem_cons_self)
        have := hall i hi.1
        rw [hi.2.1] at this
        cases this
    | succ fuel ih =>
      intro L a w hs hf h
      refine ⟨fun hr => hend _ _ _ (ready_none hg hs hr) h, fun i hi => ?_⟩
      obtain ⟨h1, h2, h3⟩ := ready_parts hs hi
      refine wpOp_mono ?_ (hstep _ a w i ops[i] (Array.getElem?_eq_getElem h1) h2 (h3 _ (Array.getElem?_eq_getElem h1)) h)
      intro a' w' h'
      refine ih _ _ _ (by simpa using hs) ?_ ?_
      · rw [getD_more (by omega)]
        have := left_more (fun j => L.getD j false) ops.size h1 h2
        omega
      · rw [getD_more (by omega)]; exact h'
  refine wp_region_any hm (key _ _ _ _ (by simp) ?_ ?_)
  · have : ∀ n (l : Nat → Bool), leftN l n ≤ n := fun n l => by
      induction n with
      | zero => exact Nat.le_refl _
      | succ n ih => unfold leftN; split <;> omega
    exact this _ _
  · have e : (fun j => (Array.replicate ops.size false).getD j false) = fun _ => false := by
      funext j
      simp only [Array.getD]
      split <;> simp
    rw [e]
    exact h0

end Go.Proofs.YtbhnbkcokhfopaaGreat

/-
  The operations of a region that draws its order, one by one; the frame behind them.
-/
namespace Go.Proofs.YtbhnbkcokhfopaaGreat
open Go.RowKit

/-- It waits for these. -/
def needs (o : Oper) (js : List Nat) : Bool := js.all fun j => o.after.any fun e => decide (e.on = j) && Region.binds .any e
/-- Operation i of the region. -/
def OpIs (ops : Array Oper) (i : Nat) (op : Op) (dst : Option Tmp) (js : List Nat) : Prop := ∃ o, ops[i]? = some o ∧ o.op = op ∧ o.dst = dst ∧ o.guard = none ∧ needs o js = true
theorem OpIs.waits {ops : Array Oper} {i : Nat} {op : Op} {dst : Option Tmp} {js : List Nat} (h : OpIs ops i op dst js) {o : Oper} (ho : ops[i]? = some o) {l : Nat → Bool} (hl : ∀ e ∈ o.after, Region.binds .any e = true → l e.on = true) : ∀ j ∈ js, l j = true := by
  obtain ⟨o', h1, -, -, -, h5⟩ := h
  rw [ho] at h1
  cases h1
  intro j hj
  have := List.all_eq_true.1 h5 j hj
  simp only [Array.any_eq_true, Bool.and_eq_true, decide_eq_true_eq] at this
  obtain ⟨k, hk, e1, e2⟩ := this
  rw [← e1]
  exact hl _ (Array.getElem_mem hk) e2

section
variable {P : Program} {ops : Array Oper} {Q : Exit → Act → World → Prop} {K : Act → World → Prop} {i : Nat} {dst : Option Tmp} {js : List Nat} {a : Act} {w : World}
theorem OpIs.go {op : Op} (h : OpIs ops i op dst js) (hk : ∀ o : Oper, o.op = op → o.dst = dst → o.wp P a w K Q) : wpOp P ops Q i K a w := by
  obtain ⟨o, h1, h2, h3, h4, -⟩ := h
  unfold wpOp
  rw [h1]
  dsimp only
  rw [if_pos (by simp [Region.wanted, h4])]
  exact .inl (hk o h2 h3)
theorem OpIs.move {k : Tmp} (h : OpIs ops i (.move (.tmp k)) dst js) (hk : K (a.put dst (a.eval (.tmp k))) w) : wpOp P ops Q i K a w :=
  h.go fun o h1 h2 => by
    unfold Oper.wp execOp
    rw [h1]
    simp only [Sem.run_pure]
    show K _ _
    rw [h2]
    exact hk
theorem OpIs.assign {k : Tmp} (h : OpIs ops i (.assign (.tmp k)) dst js) (hk : K (a.put dst (a.eval (.tmp k))) w) : wpOp P ops Q i K a w :=
  h.go fun o h1 h2 => by
    unfold Oper.wp execOp
    rw [h1]
    simp only [Sem.run_pure]
    show K _ _
    rw [h2]
    exact hk
theorem OpIs.extract {k : Tmp} {n : Nat} {vs : Array Value} {v : Value} (h : OpIs ops i (.extract (.tmp k) n) dst js) (he : a.eval (.tmp k) = .tuple vs) (hv : vs[n]? = some v) (hk : K (a.put dst v) w) : wpOp P ops Q i K a w :=
  h.go fun o h1 h2 => by
    unfold Oper.wp execOp
    rw [h1]
    simp only [he, Instr.extract, hv, Sem.run_bind, Sem.run_pure, Result.andThen_ok]
    show K _ _
    rw [h2]
    exact hk
end

section
variable {ops : Array Oper} {Q : Exit → Act → World → Prop} {K : Act → World → Prop} {i : Nat} {dst : Option Tmp} {js : List Nat} {a : Act} {w : World}
theorem OpIs.load {ty : TypeId} {k : Tmp} {g : Nat} {x : PrC} {t : TypeId} {fs : Array Field} (h : OpIs ops i (.load ty (.tmp k)) dst js) (hu : Tryz.prog.underlying ty = some (.struct fs)) (hi : (Tryz.prog.info? ty).map (·.size) = some 6)
    (he : a.eval (.tmp k) = .pointer (some ⟨g, 0, none⟩)) (hb : BoxAt w g (prL x).toArray t) (hk : K (a.put dst (prV x)) w) : wpOp Tryz.prog ops Q i K a w :=
  h.go fun o h1 h2 => by
    refine wp_load_row ty (.tmp k) h1 g he t (prL x).toArray (0, 0) _ hb hu rfl hi ?_
    rw [h2]
    exact hk
theorem OpIs.call1 {f : FuncId} {k : Tmp} {t : TypeId} {v : Value} {Post : Ending → World → Prop} (h : OpIs ops i (.call { callee := .value (.func f), args := #[.tmp k], argTypes := #[t] }) dst js) (hf : ∀ args w, (callFunc f args).run Tryz.prog w = .ok (.enter f args) w)
    (he : a.eval (.tmp k) = v) (hc : Calls Tryz.prog f #[v] w Post) (hk : ∀ e w', Post e w' → ∃ u, e = .returned u ∧ K (a.put dst u) w') : wpOp Tryz.prog ops Q i K a w :=
  h.go fun o h1 h2 => by
    have hr : (execOp a.eval o).run Tryz.prog w = .ok (.enter f #[v]) w := by
      unfold execOp
      rw [h1]
      simp only [resolve, invoke, Sem.run_bind, List.map_toArray, List.map_cons, List.map_nil, he]
      go_simp
    unfold Oper.wp
    rw [hr]
    show Calls _ _ _ _ _
    refine hc.mono ?_
    intro e w' hp
    obtain ⟨u, rfl, hku⟩ := hk e w' hp
    dsimp only
    rw [h2]
    exact hku
theorem OpIs.call2 {f : FuncId} {k m : Tmp} {t s : TypeId} {v u : Value} {Post : Ending → World → Prop} (h : OpIs ops i (.call { callee := .value (.func f), args := #[.tmp k, .tmp m], argTypes := #[t, s] }) dst js) (hf : ∀ args w, (callFunc f args).run Tryz.prog w = .ok (.enter f args) w)
    (he : a.eval (.tmp k) = v) (he2 : a.eval (.tmp m) = u) (hc : Calls Tryz.prog f #[v, u] w Post) (hk : ∀ e w', Post e w' → ∃ r, e = .returned r ∧ K (a.put dst r) w') : wpOp Tryz.prog ops Q i K a w :=
  h.go fun o h1 h2 => by
    have hr : (execOp a.eval o).run Tryz.prog w = .ok (.enter f #[v, u]) w := by
      unfold execOp
      rw [h1]
      simp only [resolve, invoke, Sem.run_bind, List.map_toArray, List.map_cons, List.map_nil, he, he2]
      go_simp
    unfold Oper.wp
    rw [hr]
    show Calls _ _ _ _ _
    refine hc.mono ?_
    intro e w' hp
    obtain ⟨r, rfl, hku⟩ := hk e w' hp
    dsimp only
    rw [h2]
    exact hku
def zeroL : Array Value := #[.int .i64 0, .string ⟨#[]⟩, .string ⟨#[]⟩, .int .i64 0, .slice none 0 0, .slice none 0 0]
theorem OpIs.alloc (h : OpIs ops i (.alloc 53) dst js) (hk : K (a.put dst (.pointer (some ⟨w.heap.size, 0, none⟩))) (w.alloc (.cells zeroL 53))) : wpOp Tryz.prog ops Q i K a w :=
  h.go fun o h1 h2 => by
    have hr : (execOp a.eval o).run Tryz.prog w = .ok (.value (.pointer (some ⟨w.heap.size, 0, none⟩))) (w.alloc (.cells zeroL 53)) := by
      unfold execOp
      rw [h1]
      go_simp
      rfl
    unfold Oper.wp
    rw [hr]
    show K _ _
    rw [h2]
    exact hk
theorem OpIs.store {j k : Tmp} {g : Nat} {x : PrC} {cs : Array Value} (h : OpIs ops i (.store 53 (.tmp j) (.tmp k)) none js) (hj : a.eval (.tmp j) = .pointer (some ⟨g, 0, none⟩)) (hv : a.eval (.tmp k) = prV x) (hb : BoxAt w g cs 53) (hs : cs.size = 6)
    (hk : ∀ w', BoxAt w' g (prL x).toArray 53 → Turned g w w' → K a w') : wpOp Tryz.prog ops Q i K a w :=
  h.go fun o h1 h2 => by
    match cs, hs with
    | ⟨[x0, x1, x2, x3, x4, x5]⟩, _ =>
      have y0 : w.cell? ⟨g, 0, none⟩ = some x0 := hb.cell rfl
      have y1 : w.cell? ⟨g, 1, none⟩ = some x1 := hb.cell rfl
      have y2 : w.cell? ⟨g, 2, none⟩ = some x2 := hb.cell rfl
      have y3 : w.cell? ⟨g, 3, none⟩ = some x3 := hb.cell rfl
      have y4 : w.cell? ⟨g, 4, none⟩ = some x4 := hb.cell rfl
      have y5 : w.cell? ⟨g, 5, none⟩ = some x5 := hb.cell rfl
      have z0 := hb.frozen 0; have z1 := hb.frozen 1; have z2 := hb.frozen 2; have z3 := hb.frozen 3; have z4 := hb.frozen 4; have z5 := hb.frozen 5
      have hb' := hb.set6 (.int .i64 x.v.kind) (.string x.v.name) (.string x.v.to) (.int .i64 x.v.place) (.slice x.A x.n x.c) (.slice x.B x.m x.d)
      have ht := turned_set6 w g (.int .i64 x.v.kind) (.string x.v.name) (.string x.v.to) (.int .i64 x.v.place) (.slice x.A x.n x.c) (.slice x.B x.m x.d)
      have hr : (execOp a.eval o).run Tryz.prog w = .ok .skip ((((((w.setCell ⟨g, 0, none⟩ (.int .i64 x.v.kind)).setCell ⟨g, 1, none⟩ (.string x.v.name)).setCell ⟨g, 2, none⟩ (.string x.v.to)).setCell ⟨g, 3, none⟩ (.int .i64 x.v.place)).setCell ⟨g, 4, none⟩ (.slice x.A x.n x.c)).setCell ⟨g, 5, none⟩ (.slice x.B x.m x.d)) := by
        clear hb hb' ht hk
        unfold prV at hv
        unfold execOp
        rw [h1]
        dsimp only
        rw [hj, hv]
        go_simp
      unfold Oper.wp
      rw [hr]
      show K _ _
      rw [h2]
      exact hk _ hb' ht
end

theorem eval_put_same' (a : Act) (k : Tmp) (v : Value) (h : k < a.tmps.size) : (a.put (some k) v).eval (.tmp k) = v := by
  simp [Act.put, Act.eval, h]
theorem eval_put_other' (a : Act) {j k : Tmp} (v : Value) (h : j ≠ k) : (a.put (some j) v).eval (.tmp k) = a.eval (.tmp k) := by
  simp [Act.put, Act.eval, h]

/-- The frame is as it was but for these slots. -/
structure SameOut (a1 a : Act) (ds : List Nat) : Prop where
  defers : a.defers = a1.defers
  size : a.tmps.size = a1.tmps.size
  out : ∀ k, k ∉ ds → a.tmps[k]? = a1.tmps[k]?
theorem SameOut.refl (a : Act) (ds : List Nat) : SameOut a a ds := ⟨rfl, rfl, fun _ _ => rfl⟩
theorem SameOut.put {a1 a : Act} {ds : List Nat} (h : SameOut a1 a ds) {k : Nat} (hk : k ∈ ds) (v : Value) : SameOut a1 (a.put (some k) v) ds :=
  ⟨by simp [Act.put, h.defers], by simp [Act.put, h.size], fun j hj => by
    have hne : k ≠ j := fun e => hj (e ▸ hk)
    simp only [Act.put]
    rw [Array.getElem?_setIfInBounds_ne hne]
    exact h.out j hj⟩
theorem SameOut.is {a1 a : Act} {ds : List Nat} (h : SameOut a1 a ds) : a = ds.foldl (fun b k => b.put (some k) (a.eval (.tmp k))) a1 := by
  obtain ⟨h1, h2, h3⟩ := h
  induction ds generalizing a1 with
  | nil =>
    cases a; cases a1
    simp only [List.foldl_nil] at *
    subst h1
    congr 1
    exact Array.ext h2 fun i hi hj => by
      have := h3 i (by simp)
      rw [Array.getElem?_eq_getElem hi, Array.getElem?_eq_getElem hj] at this
      exact Option.some.inj this
  | cons k ds ih =>
    rw [List.foldl_cons]
    refine ih (by simp [Act.put, h1]) (by simp [Act.put, h2]) fun j hj => ?_
    by_cases e : k = j
    · subst e
      simp only [Act.put, Act.eval]
      by_cases hs : k < a1.tmps.size
      · rw [Array.getElem?_setIfInBounds_self_of_lt hs, Array.getElem?_eq_getElem (by omega)]
        simp [Array.getD, h2, hs]
      · rw [Array.getElem?_eq_none (by omega), Array.getElem?_eq_none (by simp; omega)]
    · simp only [Act.put]
      rw [Array.getElem?_setIfInBounds_ne e]
      exact h3 j (by simp [hj, Ne.symm e])

end Go.Proofs.YtbhnbkcokhfopaaGreat

/-
  What tree.New, Named, has and Get come to, as calls.
-/
namespace Go.Proofs.YtbhnbkcokhfopaaGreat
open Go.RowKit Go.Maps

set_option maxHeartbeats 400000 in
theorem has_any (p B : Nat) (nm : ByteArray) (t : Tr) (w : World) (ht : TreeAt w p B t) (hs : nm.size ≤ maxLen) :
    Calls Tryz.prog 44 #[.pointer (some ⟨p, 0, none⟩), .string nm] w fun e w' => e = .returned (.bool (hasT t nm)) ∧ w = w' := by
  obtain ⟨hc, z, hz, rfl⟩ := ht
  rw [hasT_map]
  cases hg : getT z nm with
  | none =>
    have e : hasT z nm = false := hasT_no.2 (getT_none.1 hg)
    have E := Lib.hid e
    have hl := hz.look_no hs hg
    clear e hz hg
    go_enter Tryz.func44, Tryz.ntmps44
    go_wp2
    go_ret
    exact ⟨ret_bool E.out.symm, rfl⟩
  | some x =>
    have e : hasT z nm = true := getT_has hg
    have E := Lib.hid e
    have hl := hz.look_yes hs hg
    clear e hz hg
    go_enter Tryz.func44, Tryz.ntmps44
    go_wp2
    go_ret
    exact ⟨ret_bool E.out.symm, rfl⟩

/-- A new tree. -/
def NewTree (t : Tr) (w : World) (e : Ending) (w' : World) : Prop :=
  ∃ p B, e = .returned (.pointer (some ⟨p, 0, none⟩)) ∧ TreeAt w' p B t ∧ w.heap.size ≤ p ∧ w.heap.size ≤ B ∧ Later w w'

set_option maxHeartbeats 400000 in
theorem new_any (w : World) : Calls Tryz.prog 20 #[] w (NewTree [] w) := by
  have hmm := @run_makeMap Tryz.prog
  go_enter Tryz.func20, Tryz.ntmps20
  go_wp2
  go_ret
  refine ⟨_, _, rfl, ⟨?_, [], (FA.made w).later ((Later.refl _).alloc _), rfl⟩, by simp, Nat.le_refl _, ((Later.refl _).alloc _).alloc _⟩
  simp

end Go.Proofs.YtbhnbkcokhfopaaGreat
