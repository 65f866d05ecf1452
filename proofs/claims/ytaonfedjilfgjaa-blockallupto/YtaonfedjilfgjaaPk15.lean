import Derived.Test.YtaonfedjilfgjaaPk13
import Derived.Test.YtaonfedjilfgjaaPk14
import Derived.Test.YtaonfedjilfgjaaPk12

/-
  The reference's Do at a flush, as a call.
-/
namespace Go.Proofs.Ytaonfedjilfgjaa
open Go.RowKit

/-- What the loop of a flush keeps. -/
structure FsLp (W w : World) (g2 g4 k : Nat) (s : StP) (box : Array Value) (v : Value) : Prop where
  own : OwnK 47 64 W w v ((List.range k).map fun i => Lib.byteCells (atR s i))
  box : CellsAt w g2 box 30
  res : CellsAt w g4 #[.slice none 0 0, .slice none 0 0, .int .i64 0, .int .i64 0, .bool false] 30
  base : Later W w
section
variable {W w w' wm : World} {g2 g4 k : Nat} {s : StP} {box : Array Value} {v v' : Value}
theorem FsLp.later (h : FsLp W w g2 g4 k s box v) (hl : Later w w') : FsLp W w' g2 g4 k s box v := ⟨h.own.on hl, h.box.later hl, h.res.later hl, h.base.trans hl⟩
theorem FsLp.next (h : FsLp W w g2 g4 k s box v) (l : Later w w') (how : OwnK 47 64 W wm v' (((List.range k).map fun i => Lib.byteCells (atR s i)) ++ [Lib.byteCells (atR s k)])) (hgr : w'.grownBy wm v.ownBlock) : FsLp W wm g2 g4 (k + 1) s box v' := by
  have hc1 : Chg (fun q => v.ownBlock = some q) w' wm := Chg.grown hgr fun q hq => .inl hq
  have o1 := h.own.on l
  have b1 := h.box.later l; have r1 := h.res.later l
  refine ⟨?_, b1.chg hc1 (own_ne2 o1 b1), r1.chg hc1 (own_ne2 o1 r1), how.later⟩
  rw [List.range_succ, List.map_append, List.map_singleton]
  exact how
end
section
variable {w : World} {A B : Option Addr} {n m : Nat} {s : StP}
set_option maxRecDepth 100000 in
set_option maxHeartbeats 1600000 in
theorem do_flush (h : StAt w A n B m s) (c e : Nat) (x : OpC) (hk : x.kind = 1) (ho : s.ops ≤ 1000000000) (hf0 : -9223372036854775808 ≤ s.fuse) (hf1 : s.fuse ≤ 9223372036854775807) (hm : m ≤ 900000) (hn : n ≤ 4096) :
    Calls Try.prog 16 #[.agg #[.slice A n c, .slice B m e, .int .i64 (s.ops : Nat), .int .i64 s.fuse, .bool s.down], opV x] w fun e9 w' => ∃ A' n' c' B' m' e', e9 = .returned (.tuple #[.agg #[.slice A' n' c', .slice B' m' e', .int .i64 ((doR s x).1.ops : Nat), .int .i64 (doR s x).1.fuse, .bool (doR s x).1.down], .int .i64 (doR s x).2]) ∧ StAt w' A' n' B' m' (doR s x).1 ∧ Later w w' ∧ (∀ a, A' = some a → A' = A ∨ w.heap.size ≤ a.block) ∧ ∀ a, B' = some a → B' = B ∨ w.heap.size ≤ a.block := by
  obtain ⟨kd, k, A1, n1, c1, bs, F, m1, e1, fs⟩ := x
  dsimp only at hk
  subst hk
  have HS := Lib.hid h
  unfold opV opL
  dsimp only
  have hL : ∀ o1 o2 o3 : Obj, Later w (((w.alloc o1).alloc o2).alloc o3) := fun _ _ _ => (((Later.refl w).alloc _).alloc _).alloc _
  have HL := Lib.hid hL
  clear h hL
  by_cases hd : s.down = true
  · have hdo : doR s ⟨1, k, A1, n1, c1, bs, F, m1, e1, fs⟩ = (s, 100) := by unfold doR; rw [if_neg (by show ¬ ((1 : Int) = 0); decide), if_pos rfl, if_pos hd]
    rw [hdo, hd]
    have HDN := Lib.hid hd
    clear hdo hd
    go_enter Try.func16, Try.ntmps16
    go_wp2
    refine bodyPost_ret (results_cell_two rfl _ _ (w.heap.size + 2) _ _ _ _ rfl (made3 _ _ _ _ _) Try.underlying30 rfl Try.stateSize) rfl ?_
    exact ⟨A, n, c, B, m, e, rfl, HS.out.later (HL.out _ _ _), HL.out _ _ _, fun _ _ => .inl rfl, fun _ _ => .inl rfl⟩
  · replace hd : s.down = false := by simpa using hd
    have hdo : doR s ⟨1, k, A1, n1, c1, bs, F, m1, e1, fs⟩ = (if (countR s).down = true then (countR s, 100) else ({ countR s with l := (List.range n).map (atR s), row := [] }, 0)) := by
      unfold doR
      rw [if_neg (by show ¬ ((1 : Int) = 0); decide), if_pos rfl, if_neg (by rw [hd]; decide), HS.out.len]
    rw [hdo]
    have HC := Lib.hid (fun w0 => count_any (.slice A n c) (.slice B m e) s ⟨_, _, _, rfl⟩ ⟨_, _, _, rfl⟩ ho hf0 hf1 w0)
    rw [hd] at HC
    have HDN := Lib.hid hd
    rw [hd]
    clear hdo hd
    by_cases ht : (countR s).down = true
    · rw [if_pos ht]
      have HT := Lib.hid ht
      clear ht
      go_enter Try.func16, Try.ntmps16
      go_wp2_with fail
      refine (HC.out _).mono ?_
      rintro e5 w4 ⟨rfl, hl4⟩
      have HB4 := Lib.hid (((CellsAt.made w #[.slice A n c, .slice B m e, .int .i64 (s.ops : Nat), .int .i64 s.fuse, .bool false] 30).later (((Later.refl _).alloc _).alloc _)).later hl4)
      have HR4 : Hid (CellsAt w4 (w.heap.size + 1 + 1) #[.slice none 0 0, .slice none 0 0, .int .i64 0, .int .i64 0, .bool false] 30) := (made3 w _ _ #[.slice none 0 0, .slice none 0 0, .int .i64 0, .int .i64 0, .bool false] 30).later hl4
      have HL4 := Lib.hid ((HL.out _ _ _).trans hl4)
      clear hl4 HC HL
      obtain ⟨g4, hg4⟩ : ∃ g, g = w.heap.size + 1 + 1 := ⟨_, rfl⟩
      obtain ⟨g2, hg2⟩ : ∃ g, g = w.heap.size := ⟨_, rfl⟩
      have HG : Hid (w.heap.size ≤ g2 ∧ w.heap.size ≤ g4) := ⟨by omega, by omega⟩
      have HNE : Hid (g4 ≠ g2) := by show _ ≠ _; omega
      rw [← hg4] at HR4
      rw [← hg2] at HB4
      rw [← hg4, ← hg2]
      clear hg2 hg4
      go_wp2_with (with_reducible show wpList _ _ _ ({ dst := none, op := Op.store 30 _ _, type := _, pos := _, after := _, guard := _ } :: _) _ _; refine Hid.out ?_)
      refine Lib.hid (wpList_store_mids rfl rfl _ _ _ rfl g2 0 [.slice A n c, .slice B m e, .int .i64 ((countR s).ops : Nat), .int .i64 (countR s).fuse, .bool (countR s).down] rfl rfl (HB4.out.there (Nat.le_refl _)) Try.stateSize (fun v hv => by
        simp only [List.mem_cons, List.not_mem_nil, or_false] at hv
        rcases hv with rfl | rfl | rfl | rfl | rfl <;> rfl) ?_)
      intro w5 hw5
      have hb5 : CellsAt w5 g2 #[.slice A n c, .slice B m e, .int .i64 ((countR s).ops : Nat), .int .i64 (countR s).fuse, .bool (countR s).down] 30 := by
        have := HB4.out.sets [.slice A n c, .slice B m e, .int .i64 ((countR s).ops : Nat), .int .i64 (countR s).fuse, .bool (countR s).down] (o := 0)
        rw [hw5]
        exact this
      have hch5 : Chg (fun q => q = g2) w4 w5 := by rw [hw5]; exact sets_chg _ _ _
      have hl5 : Later w w5 := hch5.low HL4.out (fun q hq => by rw [hq]; exact HG.out.1)
      have HLP5 : Hid (FsLp w w5 g2 g4 0 s #[.slice A n c, .slice B m e, .int .i64 ((countR s).ops : Nat), .int .i64 (countR s).fuse, .bool (countR s).down] (.slice none 0 0)) := ⟨OwnK.nil hl5, hb5, HR4.out.chg hch5 HNE.out, hl5⟩
      clear hw5 hb5 hch5 hl5 HB4 HR4 HL4
      have q4 : w5.cell? ⟨g2, 4, none⟩ = some (.bool true) := by have := HLP5.out.box.cell (i := 4) rfl; rw [← HT.out]; exact this
      refine Lib.hid ?_
      go_wp2_with (with_reducible show wpList _ _ _ ({ dst := some 60, op := Op.load _ _, type := _, pos := _, after := _, guard := _ } :: _) _ _; refine Hid.out ?_)
      refine Lib.hid (wpList_load_mid rfl _ _ rfl g2 0 rfl [.slice A n c, .slice B m e, .int .i64 ((countR s).ops : Nat), .int .i64 (countR s).fuse, .bool (countR s).down] _ (HLP5.out.box.range (o := 0) (fun i u hi => by rw [Nat.zero_add, List.getElem?_toArray]; exact hi)) Try.underlying30 rfl Try.stateSize ?_)
      refine wpList_store_mids rfl rfl _ _ _ rfl g4 0 [.slice A n c, .slice B m e, .int .i64 ((countR s).ops : Nat), .int .i64 (countR s).fuse, .bool (countR s).down] rfl rfl (HLP5.out.res.there (Nat.le_refl _)) Try.stateSize (fun v hv => by
        simp only [List.mem_cons, List.not_mem_nil, or_false] at hv
        rcases hv with rfl | rfl | rfl | rfl | rfl <;> rfl) ?_
      intro w9 hw9
      have hc9 : CellsAt w9 g4 #[.slice A n c, .slice B m e, .int .i64 ((countR s).ops : Nat), .int .i64 (countR s).fuse, .bool (countR s).down] 30 := by
        have := HLP5.out.res.sets [.slice A n c, .slice B m e, .int .i64 ((countR s).ops : Nat), .int .i64 (countR s).fuse, .bool (countR s).down] (o := 0)
        rw [hw9]
        exact this
      have hch9 : Chg (fun q => q = g4) w5 w9 := by rw [hw9]; exact sets_chg _ _ _
      have hl9 : Later w w9 := hch9.low HLP5.out.base (fun q hq => by rw [hq]; exact HG.out.2)
      clear q4
      have HC9 := Lib.hid hc9; have HL9 := Lib.hid hl9
      clear hc9 hl9 hw9 hch9
      simp only [Act.put, List.setIfInBounds_toArray, List.set_cons_zero, List.set_cons_succ]
      go_wp2
      (try simp only [Exit.inBlock, Exit.then])
      refine bodyPost_ret (results_cell_two rfl _ _ g4 _ _ _ _ rfl HC9.out Try.underlying30 rfl Try.stateSize) rfl ?_
      exact ⟨A, n, c, B, m, e, rfl, (HS.out.later HL9.out).same rfl rfl, HL9.out, fun _ _ => .inl rfl, fun _ _ => .inl rfl⟩
    · rw [if_neg ht]
      replace ht : (countR s).down = false := by simpa using ht
      have HT := Lib.hid ht
      clear ht
      go_enter Try.func16, Try.ntmps16
      go_wp2_with fail
      refine (HC.out _).mono ?_
      rintro e5 w4 ⟨rfl, hl4⟩
      have HB4 := Lib.hid (((CellsAt.made w #[.slice A n c, .slice B m e, .int .i64 (s.ops : Nat), .int .i64 s.fuse, .bool false] 30).later (((Later.refl _).alloc _).alloc _)).later hl4)
      have HR4 : Hid (CellsAt w4 (w.heap.size + 1 + 1) #[.slice none 0 0, .slice none 0 0, .int .i64 0, .int .i64 0, .bool false] 30) := (made3 w _ _ #[.slice none 0 0, .slice none 0 0, .int .i64 0, .int .i64 0, .bool false] 30).later hl4
      have HL4 := Lib.hid ((HL.out _ _ _).trans hl4)
      clear hl4 HC HL
      obtain ⟨g4, hg4⟩ : ∃ g, g = w.heap.size + 1 + 1 := ⟨_, rfl⟩
      obtain ⟨g2, hg2⟩ : ∃ g, g = w.heap.size := ⟨_, rfl⟩
      have HG : Hid (w.heap.size ≤ g2 ∧ w.heap.size ≤ g4) := ⟨by omega, by omega⟩
      have HNE : Hid (g4 ≠ g2) := by show _ ≠ _; omega
      rw [← hg4] at HR4
      rw [← hg2] at HB4
      rw [← hg4, ← hg2]
      clear hg2 hg4
      go_wp2_with (with_reducible show wpList _ _ _ ({ dst := none, op := Op.store 30 _ _, type := _, pos := _, after := _, guard := _ } :: _) _ _; refine Hid.out ?_)
      refine Lib.hid (wpList_store_mids rfl rfl _ _ _ rfl g2 0 [.slice A n c, .slice B m e, .int .i64 ((countR s).ops : Nat), .int .i64 (countR s).fuse, .bool (countR s).down] rfl rfl (HB4.out.there (Nat.le_refl _)) Try.stateSize (fun v hv => by
        simp only [List.mem_cons, List.not_mem_nil, or_false] at hv
        rcases hv with rfl | rfl | rfl | rfl | rfl <;> rfl) ?_)
      intro w5 hw5
      have hb5 : CellsAt w5 g2 #[.slice A n c, .slice B m e, .int .i64 ((countR s).ops : Nat), .int .i64 (countR s).fuse, .bool (countR s).down] 30 := by
        have := HB4.out.sets [.slice A n c, .slice B m e, .int .i64 ((countR s).ops : Nat), .int .i64 (countR s).fuse, .bool (countR s).down] (o := 0)
        rw [hw5]
        exact this
      have hch5 : Chg (fun q => q = g2) w4 w5 := by rw [hw5]; exact sets_chg _ _ _
      have hl5 : Later w w5 := hch5.low HL4.out (fun q hq => by rw [hq]; exact HG.out.1)
      have HLP5 : Hid (FsLp w w5 g2 g4 0 s #[.slice A n c, .slice B m e, .int .i64 ((countR s).ops : Nat), .int .i64 (countR s).fuse, .bool (countR s).down] (.slice none 0 0)) := ⟨OwnK.nil hl5, hb5, HR4.out.chg hch5 HNE.out, hl5⟩
      clear hw5 hb5 hch5 hl5 HB4 HR4 HL4
      have q4 : w5.cell? ⟨g2, 4, none⟩ = some (.bool false) := by have := HLP5.out.box.cell (i := 4) rfl; rw [← HT.out]; exact this
      refine Lib.hid ?_
      go_wp2
      clear q4
      go_loopg [6, 7] (n + 1) (fun g0 s6 s7 wr => ∃ (j : Nat), j ≤ n ∧ n - j ≤ g0 ∧ s7 = .int .i64 (j : Nat) ∧ Hid (FsLp w wr g2 g4 j s #[.slice A n c, .slice B m e, .int .i64 ((countR s).ops : Nat), .int .i64 (countR s).fuse, .bool (countR s).down] s6))
      case atStart => exact ⟨0, Nat.zero_le _, by omega, rfl, HLP5⟩
      case round =>
        clear HLP5
        obtain ⟨j, hj, hg, rfl, hlp⟩ := hrel
        have q0 : wr.cell? ⟨g2, 0, none⟩ = some (.slice A n c) := hlp.out.box.cell rfl
        have q1 : wr.cell? ⟨g2, 1, none⟩ = some (.slice B m e) := hlp.out.box.cell rfl
        have q2 : wr.cell? ⟨g2, 2, none⟩ = some (.int .i64 ((countR s).ops : Nat)) := hlp.out.box.cell rfl
        have q3 : wr.cell? ⟨g2, 3, none⟩ = some (.int .i64 (countR s).fuse) := hlp.out.box.cell rfl
        have q4 : wr.cell? ⟨g2, 4, none⟩ = some (.bool (countR s).down) := hlp.out.box.cell rfl
        by_cases hlt : j < n
        · have HC := Lib.hid (at_any ((HS.out.later hlp.out.base).same (s' := countR s) rfl rfl) (by omega) j hlt (by omega) c e)
          have H64 := Lib.hid (HS.out.atR_length hlt)
          go_wp2_with fail
          refine HC.out.mono ?_
          rintro e5 w6 ⟨rfl, hl6⟩
          have HLP6 := Lib.hid (hlp.out.later hl6)
          clear hlp HC hl6 q0 q1 q2 q3 q4
          go_wp2_with (with_reducible show wpList _ _ _ ({ dst := some 72, op := Op.buildSlice _ _ _, type := _, pos := _, after := _, guard := _ } :: _) _ _; refine Hid.out ?_)
          refine Lib.hid (wpList_block rfl rfl _ _ 72 rfl rfl rfl (atR s j) H64.out (w0 := w) (v := u6) (olds := (List.range j).map fun i => Lib.byteCells (atR s i)) rfl (of_decide_eq_true rfl) rfl HLP6.out.own (by rw [List.length_map, List.length_range]; omega) ?_)
          intro w7 v7 wm l how hgr
          have HEND := Lib.hid (HLP6.out.next l how hgr)
          clear l how hgr HLP6
          simp only [Act.put, List.setIfInBounds_toArray, List.set_cons_zero, List.set_cons_succ]
          go_wp2
          go_roundg (n - (j + 1))
          case measure => omega
          case rel => exact ⟨j + 1, by omega, by omega, by go_num, HEND⟩
        · obtain rfl : j = n := by omega
          obtain ⟨V, cv, e', -, -⟩ := hlp.out.own.row
          rw [List.length_map, List.length_range] at e'
          subst e'
          have z0 : wr.frozen? ⟨g2, 0, none⟩ = false := hlp.out.box.frozen 0
          have z1 : wr.frozen? ⟨g2, 1, none⟩ = false := hlp.out.box.frozen 1
          have hcc : Chg (fun q => q = g2) wr ((wr.setCell ⟨g2, 0, none⟩ (.slice V j cv)).setCell ⟨g2, 1, none⟩ (.slice none 0 0)) := (chg_set _ _ _ _).trans (chg_set _ _ _ _) fun q hq => .inl hq
          have hbl : Later w ((wr.setCell ⟨g2, 0, none⟩ (.slice V j cv)).setCell ⟨g2, 1, none⟩ (.slice none 0 0)) := hcc.low hlp.out.base (fun q hq => by rw [hq]; exact HG.out.1)
          have HB8 : Hid (CellsAt ((wr.setCell ⟨g2, 0, none⟩ (.slice V j cv)).setCell ⟨g2, 1, none⟩ (.slice none 0 0)) g2 #[.slice V j cv, .slice none 0 0, .int .i64 ((countR s).ops : Nat), .int .i64 (countR s).fuse, .bool (countR s).down] 30) := (hlp.out.box.set1 0 _).set1 1 _
          have HR8 := Lib.hid (hlp.out.res.chg hcc HNE.out)
          have HO8 := Lib.hid (hlp.out.own.chg hcc (fun q hq e => own_ne2 hlp.out.own hlp.out.box (by rw [hq, e])) hbl)
          have HL8 := Lib.hid hbl
          have HV : Hid (∀ a, V = some a → w.heap.size ≤ a.block) := fun a ha => (HO8.out.lt a.block (by rw [ha]; rfl)).1
          clear hbl hcc q2 q3 q4 hlp
          go_wp2_with (with_reducible show wpList _ _ _ ({ dst := some 89, op := Op.load _ _, type := _, pos := _, after := _, guard := _ } :: _) _ _; refine Hid.out ?_)
          refine Lib.hid (wpList_load_mid rfl _ _ rfl g2 0 rfl [.slice V j cv, .slice none 0 0, .int .i64 ((countR s).ops : Nat), .int .i64 (countR s).fuse, .bool (countR s).down] _ (HB8.out.range (o := 0) (fun i u hi => by rw [Nat.zero_add, List.getElem?_toArray]; exact hi)) Try.underlying30 rfl Try.stateSize ?_)
          refine wpList_store_mids rfl rfl _ _ _ rfl g4 0 [.slice V j cv, .slice none 0 0, .int .i64 ((countR s).ops : Nat), .int .i64 (countR s).fuse, .bool (countR s).down] rfl rfl (HR8.out.there (Nat.le_refl _)) Try.stateSize (fun v hv => by
            simp only [List.mem_cons, List.not_mem_nil, or_false] at hv
            rcases hv with rfl | rfl | rfl | rfl | rfl <;> rfl) ?_
          intro w9 hw9
          have hc9 : CellsAt w9 g4 #[.slice V j cv, .slice none 0 0, .int .i64 ((countR s).ops : Nat), .int .i64 (countR s).fuse, .bool (countR s).down] 30 := by
            have := HR8.out.sets [.slice V j cv, .slice none 0 0, .int .i64 ((countR s).ops : Nat), .int .i64 (countR s).fuse, .bool (countR s).down] (o := 0)
            rw [hw9]
            exact this
          have hch9 : Chg (fun q => q = g4) ((wr.setCell ⟨g2, 0, none⟩ (.slice V j cv)).setCell ⟨g2, 1, none⟩ (.slice none 0 0)) w9 := by rw [hw9]; exact sets_chg _ _ _
          have hl9 : Later w w9 := hch9.low HL8.out (fun q hq => by rw [hq]; exact HG.out.2)
          have HST : Hid (StAt w9 V j none 0 { countR s with l := (List.range j).map (atR s), row := [] }) := ⟨by
            have hr := HO8.out.chg hch9 (fun q hq e => own_ne2 HO8.out HR8.out (by rw [hq, e])) hl9
            obtain ⟨V', cv', e', -, hrr⟩ := hr.row
            injection e' with e1 e2 e3
            subst e1
            rw [← e2] at hrr
            show RowK 64 w9 V j (((List.range j).map (atR s)).map Lib.byteCells)
            rw [List.map_map]
            exact hrr, RowK.none, (fun b hb => by
            obtain ⟨i, hi, rfl⟩ := List.mem_map.1 hb
            exact HS.out.atR_length (List.mem_range.1 hi)), (fun x hx => by cases hx), fun _ => rfl⟩
          clear HB8 HR8 HO8 HL8
          have HC9 := Lib.hid hc9; have HL9 := Lib.hid hl9
          clear hc9 hl9 hw9 hch9
          simp only [Act.put, List.setIfInBounds_toArray, List.set_cons_zero, List.set_cons_succ]
          go_wp2
          (try simp only [Exit.inBlock, Exit.then])
          refine bodyPost_ret (results_cell_two rfl _ _ g4 _ _ _ _ rfl HC9.out Try.underlying30 rfl Try.stateSize) rfl ?_
          exact ⟨V, j, cv, none, 0, ⟨0, rfl⟩, HST.out, HL9.out, (fun a ha => .inr (HV.out a ha)), fun a ha => by cases ha⟩
end

end Go.Proofs.Ytaonfedjilfgjaa

/-
  The reference's Do at a write, as a call.
-/
namespace Go.Proofs.Ytaonfedjilfgjaa
open Go.RowKit

theorem own_neT {W w : World} {v : Value} {css : List (List Value)} {g k : Nat} {cur : Array Value} {T U : TypeId} (hne : T ≠ U) (h : OwnK T k W w v css) (hc : CellsAt w g cur U) : v.ownBlock ≠ some g := fun e => by
  obtain ⟨cur', h1⟩ := h.typed g e
  have h2 : w.heap[g]? = some (.cells cur U (0, 0)) := hc
  have h3 : w.heap[g]? = some (.cells cur' T (0, 0)) := h1
  rw [h3] at h2
  injection h2 with h2
  injection h2 with _ h2
  exact hne h2
theorem RowK.chg {S : Nat → Prop} {w w' : World} {A : Option Addr} {n k : Nat} {css : List (List Value)} (h : RowK k w A n css) (hc : Chg S w w') (hn : ∀ a, A = some a → ¬ S a.block) : RowK k w' A n css := ⟨h.1, h.2.1, fun h0 => by
  obtain ⟨b, o, e, hcc⟩ := h.2.2 h0
  exact ⟨b, o, e, fun j i cs u hj hi => hc.cell (hcc j i cs u hj hi) (hn ⟨b, o, .none⟩ e)⟩⟩
theorem from_fill {b : Bs} (h : b.length ≤ 64) : fromB b 0 = fillB b := by
  unfold fromB
  rw [List.drop_zero, List.take_of_length_le h]
section
variable {w : World} {A B : Option Addr} {n m : Nat} {s : StP}
set_option maxRecDepth 100000 in
set_option maxHeartbeats 1600000 in
theorem do_write (h : StAt w A n B m s) (c e : Nat) (x : OpC) (hk : x.kind = 0) (hx : OpOk w x) (hn1 : x.n ≤ 100000) (ho : s.ops ≤ 1000000000) (hf0 : -9223372036854775808 ≤ s.fuse) (hf1 : s.fuse ≤ 9223372036854775807) (hm : m ≤ 900000) (_hn : n ≤ 4096) :
    Calls Try.prog 16 #[.agg #[.slice A n c, .slice B m e, .int .i64 (s.ops : Nat), .int .i64 s.fuse, .bool s.down], opV x] w fun e9 w' => ∃ A' n' c' B' m' e', e9 = .returned (.tuple #[.agg #[.slice A' n' c', .slice B' m' e', .int .i64 ((doR s x).1.ops : Nat), .int .i64 (doR s x).1.fuse, .bool (doR s x).1.down], .int .i64 (doR s x).2]) ∧ StAt w' A' n' B' m' (doR s x).1 ∧ Later w w' ∧ (∀ a, A' = some a → A' = A ∨ w.heap.size ≤ a.block) ∧ ∀ a, B' = some a → B' = B ∨ w.heap.size ≤ a.block := by
  obtain ⟨kd, k, A1, n1, c1, bs, F, m1, e1, fs⟩ := x
  dsimp only at hk hn1
  subst hk
  have HS := Lib.hid h
  have hbs := hx.bytes
  have hlen := hbs.len
  have HBS := Lib.hid hbs; have HLEN := Lib.hid hlen
  unfold opV opL
  dsimp only
  have hL : ∀ o1 o2 o3 : Obj, Later w (((w.alloc o1).alloc o2).alloc o3) := fun _ _ _ => (((Later.refl w).alloc _).alloc _).alloc _
  have HL := Lib.hid hL
  dsimp only at hbs hlen
  clear h hL hx hbs
  by_cases hd : s.down = true
  · have hdo : doR s ⟨0, k, A1, n1, c1, bs, F, m1, e1, fs⟩ = (s, 100) := by unfold doR; rw [if_pos rfl, if_pos hd]
    rw [hdo, hd]
    have HDN := Lib.hid hd
    clear hdo hd hlen
    go_enter Try.func16, Try.ntmps16
    go_wp2
    refine bodyPost_ret (results_cell_two rfl _ _ (w.heap.size + 2) _ _ _ _ rfl (made3 _ _ _ _ _) Try.underlying30 rfl Try.stateSize) rfl ?_
    first | exact ⟨A, n, c, B, m, ⟨e, rfl⟩, HS.out.later (HL.out _ _ _), HL.out _ _ _, fun _ _ => .inl rfl, fun _ _ => .inl rfl⟩ | exact ⟨A, n, c, B, m, e, rfl, HS.out.later (HL.out _ _ _), HL.out _ _ _, fun _ _ => .inl rfl, fun _ _ => .inl rfl⟩
  · replace hd : s.down = false := by simpa using hd
    obtain ⟨t, ht0⟩ : ∃ t, t = countR { s with row := s.row ++ [(k, fillB bs)] } := ⟨_, rfl⟩
    have htl : t.l = s.l := by rw [ht0]; rfl
    have htr : t.row = s.row ++ [(k, fillB bs)] := by rw [ht0]; rfl
    have HC : Hid (∀ (vL vR : Value) (w0 : World), (∃ A n c, vL = .slice A n c) → (∃ B m e, vR = .slice B m e) → Calls Try.prog 53 #[.agg #[vL, vR, .int .i64 (s.ops : Nat), .int .i64 s.fuse, .bool false]] w0 fun e w' => e = .returned (.agg #[vL, vR, .int .i64 (t.ops : Nat), .int .i64 t.fuse, .bool t.down]) ∧ Later w0 w') := fun vL vR w0 hL hR => by
      have := count_any vL vR { s with row := s.row ++ [(k, fillB bs)] } hL hR ho hf0 hf1 w0
      rw [← ht0] at this
      rw [← hd]
      exact this
    have hdo : doR s ⟨0, k, A1, n1, c1, bs, F, m1, e1, fs⟩ = (if k < 0 ∨ (n : Int) ≤ k ∨ 64 < n1 then (s, 101) else (t, if t.down = true then 100 else 0)) := by
      rw [ht0]
      unfold doR
      rw [if_pos rfl, if_neg (by rw [hd]; decide), HS.out.len]
      dsimp only
      rw [HLEN.out]
    rw [hdo]
    by_cases hb : k < 0 ∨ (n : Int) ≤ k ∨ 64 < n1
    · rw [if_pos hb, hd]
      have HDN := Lib.hid hd
      clear hdo hd hlen htl htr ht0 HC
      by_cases h1 : k < 0
      · clear hb
        go_enter Try.func16, Try.ntmps16
        go_wp2
        refine bodyPost_ret (results_cell_two rfl _ _ (w.heap.size + 2) _ _ _ _ rfl (made3 _ _ _ _ _) Try.underlying30 rfl Try.stateSize) rfl ?_
        first | exact ⟨A, n, c, B, m, ⟨e, rfl⟩, HS.out.later (HL.out _ _ _), HL.out _ _ _, fun _ _ => .inl rfl, fun _ _ => .inl rfl⟩ | exact ⟨A, n, c, B, m, e, rfl, HS.out.later (HL.out _ _ _), HL.out _ _ _, fun _ _ => .inl rfl, fun _ _ => .inl rfl⟩
      · by_cases h2 : (n : Int) ≤ k
        · clear hb
          go_enter Try.func16, Try.ntmps16
          go_wp2
          refine bodyPost_ret (results_cell_two rfl _ _ (w.heap.size + 2) _ _ _ _ rfl (made3 _ _ _ _ _) Try.underlying30 rfl Try.stateSize) rfl ?_
          first | exact ⟨A, n, c, B, m, ⟨e, rfl⟩, HS.out.later (HL.out _ _ _), HL.out _ _ _, fun _ _ => .inl rfl, fun _ _ => .inl rfl⟩ | exact ⟨A, n, c, B, m, e, rfl, HS.out.later (HL.out _ _ _), HL.out _ _ _, fun _ _ => .inl rfl, fun _ _ => .inl rfl⟩
        · have h3 : (64 : Int) < ((n1 : Nat) : Int) := by omega
          clear hb
          go_enter Try.func16, Try.ntmps16
          go_wp2
          refine bodyPost_ret (results_cell_two rfl _ _ (w.heap.size + 2) _ _ _ _ rfl (made3 _ _ _ _ _) Try.underlying30 rfl Try.stateSize) rfl ?_
          first | exact ⟨A, n, c, B, m, ⟨e, rfl⟩, HS.out.later (HL.out _ _ _), HL.out _ _ _, fun _ _ => .inl rfl, fun _ _ => .inl rfl⟩ | exact ⟨A, n, c, B, m, e, rfl, HS.out.later (HL.out _ _ _), HL.out _ _ _, fun _ _ => .inl rfl, fun _ _ => .inl rfl⟩
    · rw [if_neg hb, hd]
      have h1 : ¬ k < 0 := by omega
      have h2 : ¬ (n : Int) ≤ k := by omega
      have h3 : ¬ (64 : Int) < ((n1 : Nat) : Int) := by omega
      have h64 : bs.length ≤ 64 := by omega
      have HDN := Lib.hid hd
      have HFR := Lib.hid (from_fill h64)
      have HTL := Lib.hid htl; have HTR := Lib.hid htr; have H64 := Lib.hid h64
      clear hdo hd hlen hb h64 htl htr ht0
      by_cases ht : t.down = true
      · rw [if_pos ht]
        have HT := Lib.hid ht
        clear ht
        go_enter Try.func16, Try.ntmps16
        go_wp2_with fail
        have hL1 : Later w (((w.alloc (.cells #[.slice A n c, .slice B m e, .int .i64 (s.ops : Nat), .int .i64 s.fuse, .bool false] 30)).alloc (.cells #[.int .i64 0, .int .i64 k, .slice A1 n1 c1, .slice F m1 e1] 36)).alloc (.cells #[.slice none 0 0, .slice none 0 0, .int .i64 0, .int .i64 0, .bool false] 30)) := HL.out _ _ _
        have hcb : CellsAt (((w.alloc (.cells #[.slice A n c, .slice B m e, .int .i64 (s.ops : Nat), .int .i64 s.fuse, .bool false] 30)).alloc (.cells #[.int .i64 0, .int .i64 k, .slice A1 n1 c1, .slice F m1 e1] 36)).alloc (.cells #[.slice none 0 0, .slice none 0 0, .int .i64 0, .int .i64 0, .bool false] 30)) w.heap.size #[.slice A n c, .slice B m e, .int .i64 (s.ops : Nat), .int .i64 s.fuse, .bool false] 30 := (CellsAt.made w _ _).later (((Later.refl _).alloc _).alloc _)
        have hco : CellsAt (((w.alloc (.cells #[.slice A n c, .slice B m e, .int .i64 (s.ops : Nat), .int .i64 s.fuse, .bool false] 30)).alloc (.cells #[.int .i64 0, .int .i64 k, .slice A1 n1 c1, .slice F m1 e1] 36)).alloc (.cells #[.slice none 0 0, .slice none 0 0, .int .i64 0, .int .i64 0, .bool false] 30)) (w.heap.size + 1) #[.int .i64 0, .int .i64 k, .slice A1 n1 c1, .slice F m1 e1] 36 := (made2 w _ _ _).later ((Later.refl _).alloc _)
        have hcr : CellsAt (((w.alloc (.cells #[.slice A n c, .slice B m e, .int .i64 (s.ops : Nat), .int .i64 s.fuse, .bool false] 30)).alloc (.cells #[.int .i64 0, .int .i64 k, .slice A1 n1 c1, .slice F m1 e1] 36)).alloc (.cells #[.slice none 0 0, .slice none 0 0, .int .i64 0, .int .i64 0, .bool false] 30)) (w.heap.size + 1 + 1) #[.slice none 0 0, .slice none 0 0, .int .i64 0, .int .i64 0, .bool false] 30 := made3 w _ _ _ _
        refine bkDo7 rfl (by kernel_rfl) ⟨_, rfl, rfl, rfl, rfl, by kernel_rfl⟩ ⟨_, rfl, rfl, rfl, rfl, by kernel_rfl⟩ ⟨_, rfl, rfl, rfl, rfl, by kernel_rfl⟩ ⟨_, rfl, rfl, rfl, rfl, by kernel_rfl⟩ ⟨_, rfl, rfl, rfl, rfl, by kernel_rfl⟩ ⟨_, rfl, rfl, rfl, rfl, by kernel_rfl⟩ ⟨_, rfl, rfl, rfl, rfl, by kernel_rfl⟩ ⟨_, rfl, rfl, rfl, rfl, by kernel_rfl⟩ ⟨_, rfl, rfl, rfl, rfl, by kernel_rfl⟩ ⟨_, rfl, rfl, rfl, rfl, by kernel_rfl⟩ ⟨_, rfl, rfl, rfl, rfl, by kernel_rfl⟩ ⟨_, rfl, rfl, rfl, rfl, by kernel_rfl⟩ ⟨_, rfl, rfl, rfl, rfl, by kernel_rfl⟩ ⟨_, rfl, rfl, rfl, rfl, by kernel_rfl⟩ (of_decide_eq_true rfl) (g2 := w.heap.size) (g3 := w.heap.size + 1) (vL := .slice A n c) (vo := .int .i64 (s.ops : Nat)) (vf := .int .i64 s.fuse) (vd := .bool false) (B := B) (m := m) (e := e) (k := k) (A1 := A1) (n1 := n1) (c1 := c1) (bs := bs) (rows := s.row.map rowC) rfl rfl (hcb.cell rfl) (hco.cell rfl) (hco.cell rfl) (HBS.out.later hL1) (by omega) (HS.out.row.later hL1) (fun cs hcs => by
          obtain ⟨y, _, rfl⟩ := List.mem_map.1 hcs
          exact rowC_one y) hm HS.out.nil hcb (fun a w5 w6 v0 v1 so l e44 hx => ?_)
        obtain ⟨wm, how, hlm, hbx, hch⟩ := hx
        obtain ⟨A2, c2, e', -, hrr⟩ := how.row
        have hll : (s.row.map rowC ++ [rowC (k, fromB bs 0)]).length = m + 1 := by rw [List.length_append, List.length_map, HS.out.rlen, List.length_singleton]
        rw [hll] at e' hrr
        subst e'
        have hne2 : ∀ a, A2 = some a → ¬ (a.block = w.heap.size) := fun a ha e => own_neT (by decide) how (hcb.later hlm) (by rw [← e, ha]; rfl)
        have hne4 : ∀ a, A2 = some a → ¬ (a.block = w.heap.size + 1 + 1) := fun a ha e => own_neT (by decide) how (hcr.later hlm) (by rw [← e, ha]; rfl)
        have HV : Hid (∀ a, A2 = some a → w.heap.size ≤ a.block) := fun a ha => Nat.le_trans hL1.le (how.lt a.block (by rw [ha]; rfl)).1
        have HR6 : Hid (RowK 65 w6 A2 (m + 1) (t.row.map rowC)) := by
          show RowK _ _ _ _ _
          rw [HTR.out, List.map_append, List.map_singleton, ← HFR.out]
          exact RowK.chg hrr hch hne2
        have HB6 := Lib.hid hbx
        have HZ6 := Lib.hid ((hcr.later hlm).chg hch (by omega))
        have HL6 : Hid (Later w w6) := hch.low (hL1.trans hlm) (fun q hq => by rw [hq]; exact Nat.le_refl _)
        have ha := so.is
        simp only [List.foldl_cons, List.foldl_nil] at ha
        rw [e44] at ha
        generalize a.eval (.tmp 33) = y33 at ha
        generalize a.eval (.tmp 34) = y34 at ha
        generalize a.eval (.tmp 35) = y35 at ha
        generalize a.eval (.tmp 36) = y36 at ha
        generalize a.eval (.tmp 37) = y37 at ha
        generalize a.eval (.tmp 38) = y38 at ha
        generalize a.eval (.tmp 39) = y39 at ha
        generalize a.eval (.tmp 40) = y40 at ha
        generalize a.eval (.tmp 41) = y41 at ha
        generalize a.eval (.tmp 42) = y42 at ha
        generalize a.eval (.tmp 43) = y43 at ha
        generalize a.eval (.tmp 45) = y45 at ha
        subst ha
        clear so e44 how hrr hll hlm hbx hch hL1 hcb hco hcr HL
        obtain ⟨g4, hg4⟩ : ∃ g, g = w.heap.size + 1 + 1 := ⟨_, rfl⟩
        obtain ⟨g2, hg2⟩ : ∃ g, g = w.heap.size := ⟨_, rfl⟩
        have HG : Hid (w.heap.size ≤ g2 ∧ w.heap.size ≤ g4) := ⟨by omega, by omega⟩
        have HNE : Hid (g4 ≠ g2) := by show _ ≠ _; omega
        rw [← hg4] at HZ6 hne4
        rw [← hg2] at HB6 hne2
        rw [← hg4, ← hg2]
        have HN2 := Lib.hid hne2; have HN4 := Lib.hid hne4
        clear hg2 hg4 hne2 hne4
        simp only [Act.put, List.setIfInBounds_toArray, List.set_cons_zero, List.set_cons_succ]
        have q0 : w6.cell? ⟨g2, 0, none⟩ = some (.slice A n c) := HB6.out.cell rfl
        have q1 : w6.cell? ⟨g2, 1, none⟩ = some (.slice A2 (m + 1) c2) := HB6.out.cell rfl
        have q2 : w6.cell? ⟨g2, 2, none⟩ = some (.int .i64 (s.ops : Nat)) := HB6.out.cell rfl
        have q3 : w6.cell? ⟨g2, 3, none⟩ = some (.int .i64 s.fuse) := HB6.out.cell rfl
        have q4 : w6.cell? ⟨g2, 4, none⟩ = some (.bool false) := HB6.out.cell rfl
        go_wp2_with fail
        refine (HC.out (.slice A n c) (.slice A2 (m + 1) c2) _ ⟨_, _, _, rfl⟩ ⟨_, _, _, rfl⟩).mono ?_
        rintro e5 w7 ⟨rfl, hl7⟩
        have HB7 := Lib.hid (HB6.out.later hl7); have HZ7 := Lib.hid (HZ6.out.later hl7); have HL7 := Lib.hid (HL6.out.trans hl7); have HR7 := Lib.hid (HR6.out.later hl7)
        clear hl7 q0 q1 q2 q3 q4 HB6 HZ6 HL6 HR6 HC
        go_wp2_with (with_reducible show wpList _ _ _ ({ dst := none, op := Op.store _ _ _, type := _, pos := _, after := _, guard := _ } :: _) _ _; refine Hid.out ?_)
        refine Lib.hid (wpList_store_mids rfl rfl _ _ _ rfl g2 0 [.slice A n c, .slice A2 (m + 1) c2, .int .i64 (t.ops : Nat), .int .i64 t.fuse, .bool t.down] rfl rfl (HB7.out.there (Nat.le_refl _)) Try.stateSize (fun v hv => by
          simp only [List.mem_cons, List.not_mem_nil, or_false] at hv
          rcases hv with rfl | rfl | rfl | rfl | rfl <;> rfl) ?_)
        intro w8 hw8
        have HB8 : Hid (CellsAt w8 g2 #[.slice A n c, .slice A2 (m + 1) c2, .int .i64 (t.ops : Nat), .int .i64 t.fuse, .bool t.down] 30) := by
          have := HB7.out.sets [.slice A n c, .slice A2 (m + 1) c2, .int .i64 (t.ops : Nat), .int .i64 t.fuse, .bool t.down] (o := 0)
          rw [hw8]
          exact this
        have hch8 : Chg (fun q => q = g2) w7 w8 := by rw [hw8]; exact sets_chg _ _ _
        have HL8 : Hid (Later w w8) := hch8.low HL7.out (fun q hq => by rw [hq]; exact HG.out.1)
        have HZ8 := Lib.hid (HZ7.out.chg hch8 HNE.out)
        have HR8 := Lib.hid (RowK.chg HR7.out hch8 HN2.out)
        have q4 : w8.cell? ⟨g2, 4, none⟩ = some (.bool true) := by have := HB8.out.cell (i := 4) rfl; rw [← HT.out]; exact this
        clear hw8 hch8 HB7 HZ7 HL7 HR7
        refine Lib.hid ?_
        go_wp2_with (with_reducible show wpList _ _ _ ({ dst := some 50, op := Op.load _ _, type := _, pos := _, after := _, guard := _ } :: _) _ _; refine Hid.out ?_)
        refine Lib.hid (wpList_load_mid rfl _ _ rfl g2 0 rfl [.slice A n c, .slice A2 (m + 1) c2, .int .i64 (t.ops : Nat), .int .i64 t.fuse, .bool t.down] _ (HB8.out.range (o := 0) (fun i u hi => by rw [Nat.zero_add, List.getElem?_toArray]; exact hi)) Try.underlying30 rfl Try.stateSize ?_)
        refine wpList_store_mids rfl rfl _ _ _ rfl g4 0 [.slice A n c, .slice A2 (m + 1) c2, .int .i64 (t.ops : Nat), .int .i64 t.fuse, .bool t.down] rfl rfl (HZ8.out.there (Nat.le_refl _)) Try.stateSize (fun v hv => by
          simp only [List.mem_cons, List.not_mem_nil, or_false] at hv
          rcases hv with rfl | rfl | rfl | rfl | rfl <;> rfl) ?_
        intro w9 hw9
        have hc9 : CellsAt w9 g4 #[.slice A n c, .slice A2 (m + 1) c2, .int .i64 (t.ops : Nat), .int .i64 t.fuse, .bool t.down] 30 := by
          have := HZ8.out.sets [.slice A n c, .slice A2 (m + 1) c2, .int .i64 (t.ops : Nat), .int .i64 t.fuse, .bool t.down] (o := 0)
          rw [hw9]
          exact this
        have hch9 : Chg (fun q => q = g4) w8 w9 := by rw [hw9]; exact sets_chg _ _ _
        have hl9 : Later w w9 := hch9.low HL8.out (fun q hq => by rw [hq]; exact HG.out.2)
        have HST : Hid (StAt w9 A n A2 (m + 1) t) := ⟨by rw [HTL.out]; exact (HS.out.later hl9).l, RowK.chg HR8.out hch9 HN4.out, (by rw [HTL.out]; exact HS.out.sz), (fun y hy => by
          rw [HTR.out] at hy
          rcases List.mem_append.1 hy with hy | hy
          · exact HS.out.rz y hy
          · simp only [List.mem_singleton] at hy
            subst hy
            exact fillB_length H64.out), fun h => by omega⟩
        clear HB8 HZ8 HL8 HR8 q4
        have HC9 := Lib.hid hc9; have HL9 := Lib.hid hl9
        clear hc9 hl9 hw9 hch9
        simp only [Act.put, List.setIfInBounds_toArray, List.set_cons_zero, List.set_cons_succ]
        go_wp2
        (try simp only [Exit.inBlock, Exit.then])
        refine bodyPost_ret (results_cell_two rfl _ _ g4 _ _ _ _ rfl HC9.out Try.underlying30 rfl Try.stateSize) rfl ?_
        exact ⟨A, n, c, A2, m + 1, c2, rfl, HST.out, HL9.out, (fun _ _ => .inl rfl), fun a ha => .inr (HV.out a ha)⟩
      · rw [if_neg ht]
        replace ht : t.down = false := by simpa using ht
        have HT := Lib.hid ht
        clear ht
        go_enter Try.func16, Try.ntmps16
        go_wp2_with fail
        have hL1 : Later w (((w.alloc (.cells #[.slice A n c, .slice B m e, .int .i64 (s.ops : Nat), .int .i64 s.fuse, .bool false] 30)).alloc (.cells #[.int .i64 0, .int .i64 k, .slice A1 n1 c1, .slice F m1 e1] 36)).alloc (.cells #[.slice none 0 0, .slice none 0 0, .int .i64 0, .int .i64 0, .bool false] 30)) := HL.out _ _ _
        have hcb : CellsAt (((w.alloc (.cells #[.slice A n c, .slice B m e, .int .i64 (s.ops : Nat), .int .i64 s.fuse, .bool false] 30)).alloc (.cells #[.int .i64 0, .int .i64 k, .slice A1 n1 c1, .slice F m1 e1] 36)).alloc (.cells #[.slice none 0 0, .slice none 0 0, .int .i64 0, .int .i64 0, .bool false] 30)) w.heap.size #[.slice A n c, .slice B m e, .int .i64 (s.ops : Nat), .int .i64 s.fuse, .bool false] 30 := (CellsAt.made w _ _).later (((Later.refl _).alloc _).alloc _)
        have hco : CellsAt (((w.alloc (.cells #[.slice A n c, .slice B m e, .int .i64 (s.ops : Nat), .int .i64 s.fuse, .bool false] 30)).alloc (.cells #[.int .i64 0, .int .i64 k, .slice A1 n1 c1, .slice F m1 e1] 36)).alloc (.cells #[.slice none 0 0, .slice none 0 0, .int .i64 0, .int .i64 0, .bool false] 30)) (w.heap.size + 1) #[.int .i64 0, .int .i64 k, .slice A1 n1 c1, .slice F m1 e1] 36 := (made2 w _ _ _).later ((Later.refl _).alloc _)
        have hcr : CellsAt (((w.alloc (.cells #[.slice A n c, .slice B m e, .int .i64 (s.ops : Nat), .int .i64 s.fuse, .bool false] 30)).alloc (.cells #[.int .i64 0, .int .i64 k, .slice A1 n1 c1, .slice F m1 e1] 36)).alloc (.cells #[.slice none 0 0, .slice none 0 0, .int .i64 0, .int .i64 0, .bool false] 30)) (w.heap.size + 1 + 1) #[.slice none 0 0, .slice none 0 0, .int .i64 0, .int .i64 0, .bool false] 30 := made3 w _ _ _ _
        refine bkDo7 rfl (by kernel_rfl) ⟨_, rfl, rfl, rfl, rfl, by kernel_rfl⟩ ⟨_, rfl, rfl, rfl, rfl, by kernel_rfl⟩ ⟨_, rfl, rfl, rfl, rfl, by kernel_rfl⟩ ⟨_, rfl, rfl, rfl, rfl, by kernel_rfl⟩ ⟨_, rfl, rfl, rfl, rfl, by kernel_rfl⟩ ⟨_, rfl, rfl, rfl, rfl, by kernel_rfl⟩ ⟨_, rfl, rfl, rfl, rfl, by kernel_rfl⟩ ⟨_, rfl, rfl, rfl, rfl, by kernel_rfl⟩ ⟨_, rfl, rfl, rfl, rfl, by kernel_rfl⟩ ⟨_, rfl, rfl, rfl, rfl, by kernel_rfl⟩ ⟨_, rfl, rfl, rfl, rfl, by kernel_rfl⟩ ⟨_, rfl, rfl, rfl, rfl, by kernel_rfl⟩ ⟨_, rfl, rfl, rfl, rfl, by kernel_rfl⟩ ⟨_, rfl, rfl, rfl, rfl, by kernel_rfl⟩ (of_decide_eq_true rfl) (g2 := w.heap.size) (g3 := w.heap.size + 1) (vL := .slice A n c) (vo := .int .i64 (s.ops : Nat)) (vf := .int .i64 s.fuse) (vd := .bool false) (B := B) (m := m) (e := e) (k := k) (A1 := A1) (n1 := n1) (c1 := c1) (bs := bs) (rows := s.row.map rowC) rfl rfl (hcb.cell rfl) (hco.cell rfl) (hco.cell rfl) (HBS.out.later hL1) (by omega) (HS.out.row.later hL1) (fun cs hcs => by
          obtain ⟨y, _, rfl⟩ := List.mem_map.1 hcs
          exact rowC_one y) hm HS.out.nil hcb (fun a w5 w6 v0 v1 so l e44 hx => ?_)
        obtain ⟨wm, how, hlm, hbx, hch⟩ := hx
        obtain ⟨A2, c2, e', -, hrr⟩ := how.row
        have hll : (s.row.map rowC ++ [rowC (k, fromB bs 0)]).length = m + 1 := by rw [List.length_append, List.length_map, HS.out.rlen, List.length_singleton]
        rw [hll] at e' hrr
        subst e'
        have hne2 : ∀ a, A2 = some a → ¬ (a.block = w.heap.size) := fun a ha e => own_neT (by decide) how (hcb.later hlm) (by rw [← e, ha]; rfl)
        have hne4 : ∀ a, A2 = some a → ¬ (a.block = w.heap.size + 1 + 1) := fun a ha e => own_neT (by decide) how (hcr.later hlm) (by rw [← e, ha]; rfl)
        have HV : Hid (∀ a, A2 = some a → w.heap.size ≤ a.block) := fun a ha => Nat.le_trans hL1.le (how.lt a.block (by rw [ha]; rfl)).1
        have HR6 : Hid (RowK 65 w6 A2 (m + 1) (t.row.map rowC)) := by
          show RowK _ _ _ _ _
          rw [HTR.out, List.map_append, List.map_singleton, ← HFR.out]
          exact RowK.chg hrr hch hne2
        have HB6 := Lib.hid hbx
        have HZ6 := Lib.hid ((hcr.later hlm).chg hch (by omega))
        have HL6 : Hid (Later w w6) := hch.low (hL1.trans hlm) (fun q hq => by rw [hq]; exact Nat.le_refl _)
        have ha := so.is
        simp only [List.foldl_cons, List.foldl_nil] at ha
        rw [e44] at ha
        generalize a.eval (.tmp 33) = y33 at ha
        generalize a.eval (.tmp 34) = y34 at ha
        generalize a.eval (.tmp 35) = y35 at ha
        generalize a.eval (.tmp 36) = y36 at ha
        generalize a.eval (.tmp 37) = y37 at ha
        generalize a.eval (.tmp 38) = y38 at ha
        generalize a.eval (.tmp 39) = y39 at ha
        generalize a.eval (.tmp 40) = y40 at ha
        generalize a.eval (.tmp 41) = y41 at ha
        generalize a.eval (.tmp 42) = y42 at ha
        generalize a.eval (.tmp 43) = y43 at ha
        generalize a.eval (.tmp 45) = y45 at ha
        subst ha
        clear so e44 how hrr hll hlm hbx hch hL1 hcb hco hcr HL
        obtain ⟨g4, hg4⟩ : ∃ g, g = w.heap.size + 1 + 1 := ⟨_, rfl⟩
        obtain ⟨g2, hg2⟩ : ∃ g, g = w.heap.size := ⟨_, rfl⟩
        have HG : Hid (w.heap.size ≤ g2 ∧ w.heap.size ≤ g4) := ⟨by omega, by omega⟩
        have HNE : Hid (g4 ≠ g2) := by show _ ≠ _; omega
        rw [← hg4] at HZ6 hne4
        rw [← hg2] at HB6 hne2
        rw [← hg4, ← hg2]
        have HN2 := Lib.hid hne2; have HN4 := Lib.hid hne4
        clear hg2 hg4 hne2 hne4
        simp only [Act.put, List.setIfInBounds_toArray, List.set_cons_zero, List.set_cons_succ]
        have q0 : w6.cell? ⟨g2, 0, none⟩ = some (.slice A n c) := HB6.out.cell rfl
        have q1 : w6.cell? ⟨g2, 1, none⟩ = some (.slice A2 (m + 1) c2) := HB6.out.cell rfl
        have q2 : w6.cell? ⟨g2, 2, none⟩ = some (.int .i64 (s.ops : Nat)) := HB6.out.cell rfl
        have q3 : w6.cell? ⟨g2, 3, none⟩ = some (.int .i64 s.fuse) := HB6.out.cell rfl
        have q4 : w6.cell? ⟨g2, 4, none⟩ = some (.bool false) := HB6.out.cell rfl
        go_wp2_with fail
        refine (HC.out (.slice A n c) (.slice A2 (m + 1) c2) _ ⟨_, _, _, rfl⟩ ⟨_, _, _, rfl⟩).mono ?_
        rintro e5 w7 ⟨rfl, hl7⟩
        have HB7 := Lib.hid (HB6.out.later hl7); have HZ7 := Lib.hid (HZ6.out.later hl7); have HL7 := Lib.hid (HL6.out.trans hl7); have HR7 := Lib.hid (HR6.out.later hl7)
        clear hl7 q0 q1 q2 q3 q4 HB6 HZ6 HL6 HR6 HC
        go_wp2_with (with_reducible show wpList _ _ _ ({ dst := none, op := Op.store _ _ _, type := _, pos := _, after := _, guard := _ } :: _) _ _; refine Hid.out ?_)
        refine Lib.hid (wpList_store_mids rfl rfl _ _ _ rfl g2 0 [.slice A n c, .slice A2 (m + 1) c2, .int .i64 (t.ops : Nat), .int .i64 t.fuse, .bool t.down] rfl rfl (HB7.out.there (Nat.le_refl _)) Try.stateSize (fun v hv => by
          simp only [List.mem_cons, List.not_mem_nil, or_false] at hv
          rcases hv with rfl | rfl | rfl | rfl | rfl <;> rfl) ?_)
        intro w8 hw8
        have HB8 : Hid (CellsAt w8 g2 #[.slice A n c, .slice A2 (m + 1) c2, .int .i64 (t.ops : Nat), .int .i64 t.fuse, .bool t.down] 30) := by
          have := HB7.out.sets [.slice A n c, .slice A2 (m + 1) c2, .int .i64 (t.ops : Nat), .int .i64 t.fuse, .bool t.down] (o := 0)
          rw [hw8]
          exact this
        have hch8 : Chg (fun q => q = g2) w7 w8 := by rw [hw8]; exact sets_chg _ _ _
        have HL8 : Hid (Later w w8) := hch8.low HL7.out (fun q hq => by rw [hq]; exact HG.out.1)
        have HZ8 := Lib.hid (HZ7.out.chg hch8 HNE.out)
        have HR8 := Lib.hid (RowK.chg HR7.out hch8 HN2.out)
        have q4 : w8.cell? ⟨g2, 4, none⟩ = some (.bool false) := by have := HB8.out.cell (i := 4) rfl; rw [← HT.out]; exact this
        clear hw8 hch8 HB7 HZ7 HL7 HR7
        refine Lib.hid ?_
        go_wp2_with (with_reducible show wpList _ _ _ ({ dst := some 89, op := Op.load _ _, type := _, pos := _, after := _, guard := _ } :: _) _ _; refine Hid.out ?_)
        refine Lib.hid (wpList_load_mid rfl _ _ rfl g2 0 rfl [.slice A n c, .slice A2 (m + 1) c2, .int .i64 (t.ops : Nat), .int .i64 t.fuse, .bool t.down] _ (HB8.out.range (o := 0) (fun i u hi => by rw [Nat.zero_add, List.getElem?_toArray]; exact hi)) Try.underlying30 rfl Try.stateSize ?_)
        refine wpList_store_mids rfl rfl _ _ _ rfl g4 0 [.slice A n c, .slice A2 (m + 1) c2, .int .i64 (t.ops : Nat), .int .i64 t.fuse, .bool t.down] rfl rfl (HZ8.out.there (Nat.le_refl _)) Try.stateSize (fun v hv => by
          simp only [List.mem_cons, List.not_mem_nil, or_false] at hv
          rcases hv with rfl | rfl | rfl | rfl | rfl <;> rfl) ?_
        intro w9 hw9
        have hc9 : CellsAt w9 g4 #[.slice A n c, .slice A2 (m + 1) c2, .int .i64 (t.ops : Nat), .int .i64 t.fuse, .bool t.down] 30 := by
          have := HZ8.out.sets [.slice A n c, .slice A2 (m + 1) c2, .int .i64 (t.ops : Nat), .int .i64 t.fuse, .bool t.down] (o := 0)
          rw [hw9]
          exact this
        have hch9 : Chg (fun q => q = g4) w8 w9 := by rw [hw9]; exact sets_chg _ _ _
        have hl9 : Later w w9 := hch9.low HL8.out (fun q hq => by rw [hq]; exact HG.out.2)
        have HST : Hid (StAt w9 A n A2 (m + 1) t) := ⟨by rw [HTL.out]; exact (HS.out.later hl9).l, RowK.chg HR8.out hch9 HN4.out, (by rw [HTL.out]; exact HS.out.sz), (fun y hy => by
          rw [HTR.out] at hy
          rcases List.mem_append.1 hy with hy | hy
          · exact HS.out.rz y hy
          · simp only [List.mem_singleton] at hy
            subst hy
            exact fillB_length H64.out), fun h => by omega⟩
        clear HB8 HZ8 HL8 HR8 q4
        have HC9 := Lib.hid hc9; have HL9 := Lib.hid hl9
        clear hc9 hl9 hw9 hch9
        simp only [Act.put, List.setIfInBounds_toArray, List.set_cons_zero, List.set_cons_succ]
        go_wp2
        (try simp only [Exit.inBlock, Exit.then])
        refine bodyPost_ret (results_cell_two rfl _ _ g4 _ _ _ _ rfl HC9.out Try.underlying30 rfl Try.stateSize) rfl ?_
        exact ⟨A, n, c, A2, m + 1, c2, rfl, HST.out, HL9.out, (fun _ _ => .inl rfl), fun a ha => .inr (HV.out a ha)⟩
end

end Go.Proofs.Ytaonfedjilfgjaa
