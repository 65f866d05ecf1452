/-
  stands, as a call.
-/
import Derived.Test.YtknjkkdoeanhbaaBkStR
namespace Go.Proofs.Ytknjkkdoeanhbaa
open Go.RowKit

section
variable {W w w' : World} {S : Nat → Prop} {g : Nat} {d : DvP} {A B : Option Addr} {n m : Nat} {s : StP}
set_option maxRecDepth 100000 in
set_option maxHeartbeats 1000000 in
theorem stands_any (hd : DevAt W w S g d) (hs : StAt w A n B m s) (hsm : Same d s n m) (hm : m ≤ 1000000) (hn : n ≤ 100000) (c e : Nat) :
    Calls Try.prog 14 #[.pointer (some ⟨g, 0, none⟩), .agg #[.slice A n c, .slice B m e, .int .i64 (s.ops : Nat), .int .i64 s.fuse, .bool s.down]] w fun e w' => e = .returned (.bool true) ∧ Later w w' := by
  have HD := Lib.hid hd; have HS := Lib.hid hs
  clear hd hs
  go_enter Try.func14, Try.ntmps14
  go_wp2_with fail
  have hla : Later w (w.alloc (.cells #[.slice A n c, .slice B m e, .int .i64 (s.ops : Nat), .int .i64 s.fuse, .bool s.down] 30)) := (Later.refl w).alloc _
  have hbx : CellsAt (w.alloc (.cells #[.slice A n c, .slice B m e, .int .i64 (s.ops : Nat), .int .i64 s.fuse, .bool s.down] 30)) w.heap.size (stL A n c B m e s).toArray 30 := CellsAt.made _ _ _
  refine stands1 rfl (by kernel_rfl) ⟨_, rfl, rfl, rfl, rfl, by kernel_rfl⟩ ⟨_, rfl, rfl, rfl, rfl, by kernel_rfl⟩ ⟨_, rfl, rfl, rfl, rfl, by kernel_rfl⟩ ⟨_, rfl, rfl, rfl, rfl, by kernel_rfl⟩ ⟨_, rfl, rfl, rfl, rfl, by kernel_rfl⟩ ⟨_, rfl, rfl, rfl, rfl, by kernel_rfl⟩ ⟨_, rfl, rfl, rfl, rfl, by kernel_rfl⟩ ⟨_, rfl, rfl, rfl, rfl, by kernel_rfl, by kernel_rfl⟩ ⟨_, rfl, rfl, rfl, rfl, by kernel_rfl, by kernel_rfl⟩ ⟨_, rfl, rfl, rfl, rfl, by kernel_rfl, by kernel_rfl⟩ ⟨_, rfl, rfl, rfl, rfl, by kernel_rfl, by kernel_rfl⟩ ⟨_, rfl, rfl, rfl, rfl, by kernel_rfl, by kernel_rfl⟩ ⟨_, rfl, rfl, rfl, rfl, by kernel_rfl, by kernel_rfl⟩ ⟨_, rfl, rfl, rfl, rfl, by kernel_rfl⟩ ⟨_, rfl, rfl, rfl, rfl, by kernel_rfl⟩ ⟨_, rfl, rfl, rfl, rfl, by kernel_rfl, by kernel_rfl⟩ ⟨_, rfl, rfl, rfl, rfl, by kernel_rfl, by kernel_rfl⟩ ⟨_, rfl, rfl, rfl, rfl, by kernel_rfl, by kernel_rfl⟩ ⟨_, rfl, rfl, rfl, rfl, by kernel_rfl, by kernel_rfl⟩ ⟨_, rfl, rfl, rfl, rfl, by kernel_rfl, by kernel_rfl⟩ ⟨_, rfl, rfl, rfl, rfl, by kernel_rfl⟩ ⟨_, rfl, rfl, rfl, rfl, by kernel_rfl⟩ ⟨_, rfl, rfl, rfl, rfl, by kernel_rfl, by kernel_rfl⟩ ⟨_, rfl, rfl, rfl, rfl, by kernel_rfl, by kernel_rfl⟩ ⟨_, rfl, rfl, rfl, rfl, by kernel_rfl, by kernel_rfl⟩ ⟨_, rfl, rfl, rfl, rfl, by kernel_rfl, by kernel_rfl⟩ ⟨_, rfl, rfl, rfl, rfl, by kernel_rfl, by kernel_rfl⟩ ⟨_, rfl, rfl, rfl, rfl, by kernel_rfl⟩ ⟨_, rfl, rfl, rfl, rfl, by kernel_rfl⟩ ⟨_, rfl, rfl, rfl, rfl, by kernel_rfl, by kernel_rfl⟩ ⟨_, rfl, rfl, rfl, rfl, by kernel_rfl, by kernel_rfl⟩ ⟨_, rfl, rfl, rfl, rfl, by kernel_rfl, by kernel_rfl⟩ ⟨_, rfl, rfl, rfl, rfl, by kernel_rfl, by kernel_rfl⟩ ⟨_, rfl, rfl, rfl, rfl, by kernel_rfl, by kernel_rfl⟩ ⟨_, rfl, rfl, rfl, rfl, by kernel_rfl, by kernel_rfl⟩ ⟨_, rfl, rfl, rfl, rfl, by kernel_rfl⟩ (of_decide_eq_true rfl) (g := g) (g3 := w.heap.size) rfl rfl (HD.out.later hla) (HS.out.later hla) hbx hsm hm hn (fun a w1 so hl1 e46 => ?_)
  have HBX := Lib.hid (hbx.later hl1); have HL := Lib.hid (hla.trans hl1)
  clear hla hbx hl1
  have ha := so.is
  simp only [List.foldl_cons, List.foldl_nil] at ha
  rw [e46] at ha
  generalize a.eval (.tmp 11) = y11 at ha
  generalize a.eval (.tmp 12) = y12 at ha
  generalize a.eval (.tmp 13) = y13 at ha
  generalize a.eval (.tmp 14) = y14 at ha
  generalize a.eval (.tmp 15) = y15 at ha
  generalize a.eval (.tmp 16) = y16 at ha
  generalize a.eval (.tmp 17) = y17 at ha
  generalize a.eval (.tmp 18) = y18 at ha
  generalize a.eval (.tmp 19) = y19 at ha
  generalize a.eval (.tmp 20) = y20 at ha
  generalize a.eval (.tmp 21) = y21 at ha
  generalize a.eval (.tmp 22) = y22 at ha
  generalize a.eval (.tmp 23) = y23 at ha
  generalize a.eval (.tmp 24) = y24 at ha
  generalize a.eval (.tmp 25) = y25 at ha
  generalize a.eval (.tmp 26) = y26 at ha
  generalize a.eval (.tmp 27) = y27 at ha
  generalize a.eval (.tmp 28) = y28 at ha
  generalize a.eval (.tmp 29) = y29 at ha
  generalize a.eval (.tmp 30) = y30 at ha
  generalize a.eval (.tmp 31) = y31 at ha
  generalize a.eval (.tmp 32) = y32 at ha
  generalize a.eval (.tmp 33) = y33 at ha
  generalize a.eval (.tmp 34) = y34 at ha
  generalize a.eval (.tmp 35) = y35 at ha
  generalize a.eval (.tmp 36) = y36 at ha
  generalize a.eval (.tmp 37) = y37 at ha
  generalize a.eval (.tmp 38) = y38 at ha
  generalize a.eval (.tmp 39) = y39 at ha
  generalize a.eval (.tmp 40) = y40 at ha
  generalize a.eval (.tmp 41) = y41 at ha
  generalize a.eval (.tmp 42) = y42 at ha
  generalize a.eval (.tmp 43) = y43 at ha
  generalize a.eval (.tmp 44) = y44 at ha
  generalize a.eval (.tmp 45) = y45 at ha
  subst ha
  clear so e46
  simp only [Act.put, List.setIfInBounds_toArray, List.set_cons_zero, List.set_cons_succ]
  go_wp2
  go_loopg [5] (n + 3) (fun g0 s5 wr => ∃ (z : Int), -1 ≤ z ∧ z ≤ (n : Int) + 1 ∧ ((n : Int) + 1 - z).toNat ≤ g0 ∧ s5 = .int .i64 z ∧ Hid (Later w1 wr))
  case atStart => exact ⟨-1, by omega, by omega, by omega, rfl, Later.refl _⟩
  case round =>
    obtain ⟨z, hz1, hz2, hg, rfl, hl2⟩ := hrel
    have hbw := HBX.out.later hl2.out
    have q0 : wr.cell? ⟨w.heap.size, 0, none⟩ = some (.slice A n c) := hbw.cell rfl
    by_cases hlt : z ≤ (n : Int)
    · by_cases h0 : 0 ≤ z
      · by_cases h1 : z < (n : Int)
        · obtain ⟨k, hzk⟩ : ∃ k : Nat, z = (k : Int) := ⟨z.toNat, by omega⟩
          subst hzk
          have hkn : k < n := by omega
          have hzk : (k : Int) = (k : Int) := rfl
          by_cases hdn : s.down = true
          · have HC := Lib.hid (readDev_any (HD.out.later (HL.out.trans hl2.out)) (k : Int))
            rw [show readE d (k : Int) = 100 by unfold readE; rw [hsm.down, hdn]; rfl, show readB d (k : Int) = [] by unfold readB; rw [hsm.down, hdn]; rfl] at HC
            have HDN := Lib.hid hdn
            clear hbw hdn
            go_wp2_with fail
            clear q0
            refine HC.out.mono ?_
            rintro e5 w5 ⟨v, rfl, hv, hl5⟩
            obtain ⟨Av, cv, rfl, hcv, _, hbv⟩ := own_bs hv
            have HL5 := Lib.hid (hl2.out.trans hl5)
            have HBV := Lib.hid hbv
            clear hv hl5 hbv HC
            have hbw := HBX.out.later HL5.out
            have q0 : w5.cell? ⟨w.heap.size, 0, none⟩ = some (.slice A n c) := hbw.cell rfl
            have q1 : w5.cell? ⟨w.heap.size, 1, none⟩ = some (.slice B m e) := hbw.cell rfl
            have q2 : w5.cell? ⟨w.heap.size, 2, none⟩ = some (.int .i64 (s.ops : Nat)) := hbw.cell rfl
            have q3 : w5.cell? ⟨w.heap.size, 3, none⟩ = some (.int .i64 s.fuse) := hbw.cell rfl
            have q4 : w5.cell? ⟨w.heap.size, 4, none⟩ = some (.bool s.down) := hbw.cell rfl
            clear hbw
            have HC := Lib.hid (at_any (HS.out.later (HL.out.trans HL5.out)) hm k hkn (by omega) c e)
            have HA64 := Lib.hid (HS.out.atR_length hkn)
            go_wp2_with fail
            refine HC.out.mono ?_
            rintro e6 w6 ⟨rfl, hl6⟩
            have HL6 := Lib.hid (HL5.out.trans hl6)
            have HBV6 := Lib.hid (HBV.out.later hl6)
            clear HC hl6 q0 q1 q2 q3 q4
            go_wp2_with (with_reducible show wpList _ _ _ ({ dst := some 10, op := Op.alloc _, type := _, pos := _, after := _, guard := _ } :: _) _ _; refine Hid.out ?_)
            refine Lib.hid (wpList_alloc_new rfl _ rfl _ Try.rblockZero ?_)
            intro w7 hc7 hl7 _
            refine wpList_store_mids rfl rfl _ _ _ rfl w6.heap.size 0 (Lib.byteCells (atR s k)) rfl rfl (hc7.there (by simp only [Value.cells, List.size_toArray]; rw [bc_len, bc_len, HA64.out]; decide)) (by rw [bc_len, HA64.out]; exact Try.rblockSize) (bc_one _) ?_
            intro w8 hw8
            have hc8 : CellsAt w8 w6.heap.size (Lib.byteCells (atR s k)).toArray 55 := by
              have := hc7.sets (Lib.byteCells (atR s k)) (o := 0)
              rw [set_all (by simp only [Value.cells, List.size_toArray]; rw [bc_len, bc_len, HA64.out]; rfl)] at this
              rw [hw8]
              exact this
            have hl8 : Later w6 w8 := by
              rw [hw8]
              exact (sets_chg (g := w6.heap.size) (Lib.byteCells (atR s k)) w7 0).low hl7 (fun q hq => by rw [hq]; exact Nat.le_refl _)
            have HL8 := Lib.hid (HL6.out.trans hl8)
            have HBV8 := Lib.hid (HBV6.out.later hl8)
            have HX8 : Hid (BsAt w8 (some ⟨w6.heap.size, 0, none⟩) 64 (atR s k)) := ⟨HA64.out, fun _ => ⟨_, _, rfl, fun j x hx => by
              rw [Nat.zero_add]
              exact hc8.cell (by rw [List.getElem?_toArray]; unfold Lib.byteCells; rw [List.getElem?_map, hx]; rfl)⟩⟩
            have q4 : w8.cell? ⟨w.heap.size, 4, none⟩ = some (.bool s.down) := (HBX.out.later HL8.out).cell rfl
            rw [HDN.out] at q4
            clear hc7 hl7 hw8 hc8 hl8 HL6 HBV6 HBV HL5
            refine Lib.hid ?_
            have HC := Lib.hid (bytesEqual_any (c := cv) (e := 0) HBV8.out (BsAt.none w8 none))
            rw [show decide (([] : Bs) = ([] : Bs)) = true by simp] at HC
            have HEND : Hid (Later w1 w8) := HL8.out
            clear HBV8 HX8
            go_wp2_with fail
            refine HC.out.mono ?_
            rintro e9 w99 ⟨rfl, e99⟩
            obtain rfl := e99.symm
            clear e99 HC
            go_wp2
            go_roundg ((n : Int) + 1 - ((k : Int) + 1)).toNat
            case measure => omega
            case rel => exact ⟨(k : Int) + 1, by omega, by omega, by omega, by go_num, HEND⟩
          · replace hdn : s.down = false := by simpa using hdn
            have HC := Lib.hid (readDev_any (HD.out.later (HL.out.trans hl2.out)) (k : Int))
            rw [show readE d (k : Int) = 0 by unfold readE; rw [hsm.down, hdn, if_neg (by decide), if_pos (by rw [hsm.len]; omega)], show readB d (k : Int) = atR s k by unfold readB; rw [hsm.down, hdn, if_neg (by decide), if_pos (by rw [hsm.len]; omega), Int.toNat_natCast]; exact hsm.bl k hkn] at HC
            have HDN := Lib.hid hdn
            clear hbw hdn
            go_wp2_with fail
            clear q0
            refine HC.out.mono ?_
            rintro e5 w5 ⟨v, rfl, hv, hl5⟩
            obtain ⟨Av, cv, rfl, hcv, _, hbv⟩ := own_bs hv
            have HL5 := Lib.hid (hl2.out.trans hl5)
            have HBV := Lib.hid hbv
            clear hv hl5 hbv HC
            have hbw := HBX.out.later HL5.out
            have q0 : w5.cell? ⟨w.heap.size, 0, none⟩ = some (.slice A n c) := hbw.cell rfl
            have q1 : w5.cell? ⟨w.heap.size, 1, none⟩ = some (.slice B m e) := hbw.cell rfl
            have q2 : w5.cell? ⟨w.heap.size, 2, none⟩ = some (.int .i64 (s.ops : Nat)) := hbw.cell rfl
            have q3 : w5.cell? ⟨w.heap.size, 3, none⟩ = some (.int .i64 s.fuse) := hbw.cell rfl
            have q4 : w5.cell? ⟨w.heap.size, 4, none⟩ = some (.bool s.down) := hbw.cell rfl
            clear hbw
            have HC := Lib.hid (at_any (HS.out.later (HL.out.trans HL5.out)) hm k hkn (by omega) c e)
            have HA64 := Lib.hid (HS.out.atR_length hkn)
            go_wp2_with fail
            refine HC.out.mono ?_
            rintro e6 w6 ⟨rfl, hl6⟩
            have HL6 := Lib.hid (HL5.out.trans hl6)
            have HBV6 := Lib.hid (HBV.out.later hl6)
            clear HC hl6 q0 q1 q2 q3 q4
            go_wp2_with (with_reducible show wpList _ _ _ ({ dst := some 10, op := Op.alloc _, type := _, pos := _, after := _, guard := _ } :: _) _ _; refine Hid.out ?_)
            refine Lib.hid (wpList_alloc_new rfl _ rfl _ Try.rblockZero ?_)
            intro w7 hc7 hl7 _
            refine wpList_store_mids rfl rfl _ _ _ rfl w6.heap.size 0 (Lib.byteCells (atR s k)) rfl rfl (hc7.there (by simp only [Value.cells, List.size_toArray]; rw [bc_len, bc_len, HA64.out]; decide)) (by rw [bc_len, HA64.out]; exact Try.rblockSize) (bc_one _) ?_
            intro w8 hw8
            have hc8 : CellsAt w8 w6.heap.size (Lib.byteCells (atR s k)).toArray 55 := by
              have := hc7.sets (Lib.byteCells (atR s k)) (o := 0)
              rw [set_all (by simp only [Value.cells, List.size_toArray]; rw [bc_len, bc_len, HA64.out]; rfl)] at this
              rw [hw8]
              exact this
            have hl8 : Later w6 w8 := by
              rw [hw8]
              exact (sets_chg (g := w6.heap.size) (Lib.byteCells (atR s k)) w7 0).low hl7 (fun q hq => by rw [hq]; exact Nat.le_refl _)
            have HL8 := Lib.hid (HL6.out.trans hl8)
            have HBV8 := Lib.hid (HBV6.out.later hl8)
            have HX8 : Hid (BsAt w8 (some ⟨w6.heap.size, 0, none⟩) 64 (atR s k)) := ⟨HA64.out, fun _ => ⟨_, _, rfl, fun j x hx => by
              rw [Nat.zero_add]
              exact hc8.cell (by rw [List.getElem?_toArray]; unfold Lib.byteCells; rw [List.getElem?_map, hx]; rfl)⟩⟩
            have q4 : w8.cell? ⟨w.heap.size, 4, none⟩ = some (.bool s.down) := (HBX.out.later HL8.out).cell rfl
            rw [HDN.out] at q4
            clear hc7 hl7 hw8 hc8 hl8 HL6 HBV6 HBV HL5
            refine Lib.hid ?_
            have HC := Lib.hid (bytesEqual_any (c := cv) (e := 64) HBV8.out HX8.out)
            rw [show decide (atR s k = atR s k) = true by simp] at HC
            have HEND : Hid (Later w1 w8) := HL8.out
            clear HBV8 HX8
            go_wp2_with fail
            refine HC.out.mono ?_
            rintro e9 w99 ⟨rfl, e99⟩
            obtain rfl := e99.symm
            clear e99 HC
            go_wp2
            go_roundg ((n : Int) + 1 - ((k : Int) + 1)).toNat
            case measure => omega
            case rel => exact ⟨(k : Int) + 1, by omega, by omega, by omega, by go_num, HEND⟩
        · by_cases hdn : s.down = true
          · have HC := Lib.hid (readDev_any (HD.out.later (HL.out.trans hl2.out)) z)
            rw [show readE d z = 100 by unfold readE; rw [hsm.down, hdn]; rfl, show readB d z = [] by unfold readB; rw [hsm.down, hdn]; rfl] at HC
            have HDN := Lib.hid hdn
            clear hbw hdn
            go_wp2_with fail
            clear q0
            refine HC.out.mono ?_
            rintro e5 w5 ⟨v, rfl, hv, hl5⟩
            obtain ⟨Av, cv, rfl, hcv, _, hbv⟩ := own_bs hv
            have HL5 := Lib.hid (hl2.out.trans hl5)
            have HBV := Lib.hid hbv
            clear hv hl5 hbv HC
            have hbw := HBX.out.later HL5.out
            have q0 : w5.cell? ⟨w.heap.size, 0, none⟩ = some (.slice A n c) := hbw.cell rfl
            have q1 : w5.cell? ⟨w.heap.size, 1, none⟩ = some (.slice B m e) := hbw.cell rfl
            have q2 : w5.cell? ⟨w.heap.size, 2, none⟩ = some (.int .i64 (s.ops : Nat)) := hbw.cell rfl
            have q3 : w5.cell? ⟨w.heap.size, 3, none⟩ = some (.int .i64 s.fuse) := hbw.cell rfl
            have q4 : w5.cell? ⟨w.heap.size, 4, none⟩ = some (.bool s.down) := hbw.cell rfl
            clear hbw
            rw [HDN.out] at q4
            have HC := Lib.hid (bytesEqual_any (c := cv) (e := 0) HBV.out (BsAt.none w5 none))
            rw [show decide (([] : Bs) = ([] : Bs)) = true by simp] at HC
            have HEND : Hid (Later w1 w5) := HL5.out
            clear HBV q1 q2 q3
            go_wp2_with fail
            refine HC.out.mono ?_
            rintro e9 w99 ⟨rfl, e99⟩
            obtain rfl := e99.symm
            clear e99 HC
            go_wp2
            go_roundg ((n : Int) + 1 - (z + 1)).toNat
            case measure => omega
            case rel => exact ⟨z + 1, by omega, by omega, by omega, by go_num, HEND⟩
          · replace hdn : s.down = false := by simpa using hdn
            have HC := Lib.hid (readDev_any (HD.out.later (HL.out.trans hl2.out)) z)
            rw [show readE d z = 101 by unfold readE; rw [hsm.down, hdn, if_neg (by decide), if_neg (by rw [hsm.len]; omega)], show readB d z = [] by unfold readB; rw [hsm.down, hdn, if_neg (by decide), if_neg (by rw [hsm.len]; omega)]] at HC
            have HDN := Lib.hid hdn
            clear hbw hdn
            go_wp2_with fail
            clear q0
            refine HC.out.mono ?_
            rintro e5 w5 ⟨v, rfl, hv, hl5⟩
            obtain ⟨Av, cv, rfl, hcv, _, hbv⟩ := own_bs hv
            have HL5 := Lib.hid (hl2.out.trans hl5)
            have HBV := Lib.hid hbv
            clear hv hl5 hbv HC
            have hbw := HBX.out.later HL5.out
            have q0 : w5.cell? ⟨w.heap.size, 0, none⟩ = some (.slice A n c) := hbw.cell rfl
            have q1 : w5.cell? ⟨w.heap.size, 1, none⟩ = some (.slice B m e) := hbw.cell rfl
            have q2 : w5.cell? ⟨w.heap.size, 2, none⟩ = some (.int .i64 (s.ops : Nat)) := hbw.cell rfl
            have q3 : w5.cell? ⟨w.heap.size, 3, none⟩ = some (.int .i64 s.fuse) := hbw.cell rfl
            have q4 : w5.cell? ⟨w.heap.size, 4, none⟩ = some (.bool s.down) := hbw.cell rfl
            clear hbw
            rw [HDN.out] at q4
            have HC := Lib.hid (bytesEqual_any (c := cv) (e := 0) HBV.out (BsAt.none w5 none))
            rw [show decide (([] : Bs) = ([] : Bs)) = true by simp] at HC
            have HEND : Hid (Later w1 w5) := HL5.out
            clear HBV q1 q2 q3
            go_wp2_with fail
            refine HC.out.mono ?_
            rintro e9 w99 ⟨rfl, e99⟩
            obtain rfl := e99.symm
            clear e99 HC
            go_wp2
            go_roundg ((n : Int) + 1 - (z + 1)).toNat
            case measure => omega
            case rel => exact ⟨z + 1, by omega, by omega, by omega, by go_num, HEND⟩
      · by_cases hdn : s.down = true
        · have HC := Lib.hid (readDev_any (HD.out.later (HL.out.trans hl2.out)) z)
          rw [show readE d z = 100 by unfold readE; rw [hsm.down, hdn]; rfl, show readB d z = [] by unfold readB; rw [hsm.down, hdn]; rfl] at HC
          have HDN := Lib.hid hdn
          clear hbw hdn
          go_wp2_with fail
          clear q0
          refine HC.out.mono ?_
          rintro e5 w5 ⟨v, rfl, hv, hl5⟩
          obtain ⟨Av, cv, rfl, hcv, _, hbv⟩ := own_bs hv
          have HL5 := Lib.hid (hl2.out.trans hl5)
          have HBV := Lib.hid hbv
          clear hv hl5 hbv HC
          have hbw := HBX.out.later HL5.out
          have q0 : w5.cell? ⟨w.heap.size, 0, none⟩ = some (.slice A n c) := hbw.cell rfl
          have q1 : w5.cell? ⟨w.heap.size, 1, none⟩ = some (.slice B m e) := hbw.cell rfl
          have q2 : w5.cell? ⟨w.heap.size, 2, none⟩ = some (.int .i64 (s.ops : Nat)) := hbw.cell rfl
          have q3 : w5.cell? ⟨w.heap.size, 3, none⟩ = some (.int .i64 s.fuse) := hbw.cell rfl
          have q4 : w5.cell? ⟨w.heap.size, 4, none⟩ = some (.bool s.down) := hbw.cell rfl
          clear hbw
          rw [HDN.out] at q4
          have HC := Lib.hid (bytesEqual_any (c := cv) (e := 0) HBV.out (BsAt.none w5 none))
          rw [show decide (([] : Bs) = ([] : Bs)) = true by simp] at HC
          have HEND : Hid (Later w1 w5) := HL5.out
          clear HBV q1 q2 q3
          go_wp2_with fail
          refine HC.out.mono ?_
          rintro e9 w99 ⟨rfl, e99⟩
          obtain rfl := e99.symm
          clear e99 HC
          go_wp2
          go_roundg ((n : Int) + 1 - (z + 1)).toNat
          case measure => omega
          case rel => exact ⟨z + 1, by omega, by omega, by omega, by go_num, HEND⟩
        · replace hdn : s.down = false := by simpa using hdn
          have HC := Lib.hid (readDev_any (HD.out.later (HL.out.trans hl2.out)) z)
          rw [show readE d z = 101 by unfold readE; rw [hsm.down, hdn, if_neg (by decide), if_neg (by rw [hsm.len]; omega)], show readB d z = [] by unfold readB; rw [hsm.down, hdn, if_neg (by decide), if_neg (by rw [hsm.len]; omega)]] at HC
          have HDN := Lib.hid hdn
          clear hbw hdn
          go_wp2_with fail
          clear q0
          refine HC.out.mono ?_
          rintro e5 w5 ⟨v, rfl, hv, hl5⟩
          obtain ⟨Av, cv, rfl, hcv, _, hbv⟩ := own_bs hv
          have HL5 := Lib.hid (hl2.out.trans hl5)
          have HBV := Lib.hid hbv
          clear hv hl5 hbv HC
          have hbw := HBX.out.later HL5.out
          have q0 : w5.cell? ⟨w.heap.size, 0, none⟩ = some (.slice A n c) := hbw.cell rfl
          have q1 : w5.cell? ⟨w.heap.size, 1, none⟩ = some (.slice B m e) := hbw.cell rfl
          have q2 : w5.cell? ⟨w.heap.size, 2, none⟩ = some (.int .i64 (s.ops : Nat)) := hbw.cell rfl
          have q3 : w5.cell? ⟨w.heap.size, 3, none⟩ = some (.int .i64 s.fuse) := hbw.cell rfl
          have q4 : w5.cell? ⟨w.heap.size, 4, none⟩ = some (.bool s.down) := hbw.cell rfl
          clear hbw
          rw [HDN.out] at q4
          have HC := Lib.hid (bytesEqual_any (c := cv) (e := 0) HBV.out (BsAt.none w5 none))
          rw [show decide (([] : Bs) = ([] : Bs)) = true by simp] at HC
          have HEND : Hid (Later w1 w5) := HL5.out
          clear HBV q1 q2 q3
          go_wp2_with fail
          refine HC.out.mono ?_
          rintro e9 w99 ⟨rfl, e99⟩
          obtain rfl := e99.symm
          clear e99 HC
          go_wp2
          go_roundg ((n : Int) + 1 - (z + 1)).toNat
          case measure => omega
          case rel => exact ⟨z + 1, by omega, by omega, by omega, by go_num, HEND⟩
    · go_wp2
      go_ret
      exact ⟨rfl, HL.out.trans hl2.out⟩
end

end Go.Proofs.Ytknjkkdoeanhbaa
