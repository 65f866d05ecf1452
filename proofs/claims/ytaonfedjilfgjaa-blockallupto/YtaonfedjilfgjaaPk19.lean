import Derived.Test.YtaonfedjilfgjaaPk17
import Derived.Test.YtaonfedjilfgjaaPk9
import Derived.Test.YtaonfedjilfgjaaPk18
import Derived.Lib.SlBytesConst
import Derived.Test.YtaonfedjilfgjaaPk13

/-
  does at all kinds, as a call.
-/
namespace Go.Proofs.Ytaonfedjilfgjaa
open Go.RowKit

/-- What the loop of a copy keeps: the old device is written, the copy stands. -/
structure CyLp (W w0 w : World) (S0 S1 S2 : Nat → Prop) (g g2 k : Nat) (d d1 : DvP) : Prop where
  dev : DevAt W w S1 g d1
  cpy : DevAt W w S2 g2 d
  apart : ∀ q, S2 q → ¬ S1 q
  bl : d1.bl.length = d.bl.length
  ops : d1.ops ≤ d.ops + k
  row : d1.row.length ≤ d.row.length + k
  chg : Chg S0 w0 w
  new : ∀ q, S2 q → w0.heap.size ≤ q
  up : Up S0 S1 w0
theorem none_made (w : World) : BsAt (w.alloc (.cells #[.int .u8 110, .int .u8 111, .int .u8 110, .int .u8 101] 5 (4, 5))) (some ⟨w.heap.size, 0, none⟩) 4 [110, 111, 110, 101] := ⟨rfl, fun _ => ⟨_, _, rfl, fun j x hx => by
  have hh := heap_alloc_new w (.cells #[.int .u8 110, .int .u8 111, .int .u8 110, .int .u8 101] 5 (4, 5))
  match j, hx with
  | 0, hx => simp at hx; subst hx; simp only [World.cell?]; rw [hh]; rfl
  | 1, hx => simp at hx; subst hx; simp only [World.cell?]; rw [hh]; rfl
  | 2, hx => simp at hx; subst hx; simp only [World.cell?]; rw [hh]; rfl
  | 3, hx => simp at hx; subst hx; simp only [World.cell?]; rw [hh]; rfl
  | j + 4, hx => simp at hx⟩⟩
theorem writeP_small (d : DvP) (k : Int) (b : Bs) : (writeP d k b).1.ops ≤ d.ops + 1 ∧ (writeP d k b).1.row.length ≤ d.row.length + 1 ∧ (writeP d k b).1.bl.length = d.bl.length := by
  have h := doQ_small d ⟨0, k, none, 0, 0, b, none, 0, 0, []⟩
  exact h
section
variable {W w0 w w' w2 : World} {S S0 S1 S2 S3 : Nat → Prop} {g g2 k : Nat} {d d1 d3 : DvP}
theorem CyLp.next (h : CyLp W w0 w S0 S1 S2 g g2 k d d1) (hl : Later w w') (hd : DevAt W w2 S3 g d3) (hup : Up S1 S3 w') (hc : Chg S1 w' w2) (h1 : d3.ops ≤ d1.ops + 1) (h2 : d3.row.length ≤ d1.row.length + 1) (h3 : d3.bl.length = d1.bl.length) : CyLp W w0 w2 S0 S3 S2 g g2 (k + 1) d d3 := by
  have hcl := h.cpy.later hl
  have h0 := h.chg.size; have h00 := hl.le
  refine ⟨hd, hcl.chg hc h.apart hd.base, fun q hq e => ?_, h3.trans h.bl, by have := h.ops; omega, by have := h.row; omega, (h.chg.then hl).trans hc h.up, h.new, fun q hq => ?_⟩
  · rcases hup q e with e | e
    · exact h.apart q hq e
    · have := (hcl.low q hq).2
      omega
  · rcases hup q hq with e | e
    · exact h.up q e
    · exact .inr (by omega)
set_option maxRecDepth 100000 in
set_option maxHeartbeats 1600000 in
theorem does10_full (h : DevAt W w S g d) (ho : d.ops ≤ 900000000) (hro : d.row.length ≤ 890000) (x : OpC) (hx : OpOk w x) (hm : x.m ≤ 1000000000) (hF : 0 < x.m → ∀ a, x.F = some a → ¬ S a.block) :
    Calls Try.prog 17 #[.pointer (some ⟨g, 0, none⟩), opV x] w fun e w' => ∃ S' g', e = .returned (.tuple #[.pointer (some ⟨g', 0, none⟩), .int .i64 (doB d x).2]) ∧ DevAt W w' S' g' (doB d x).1 ∧ Up S S' w ∧ Chg S w w' := by
  by_cases hk3 : x.kind = 3
  · obtain ⟨kd, k, A, n, c, bs, F, m, e, fs⟩ := x
    dsimp only at hk3 hm hF
    subst hk3
    have e1 : doB d ⟨3, k, A, n, c, bs, F, m, e, fs⟩ = (crashP d fs, 0) := rfl
    rw [e1]
    unfold opV opL
    dsimp only
    have hl : Later w (w.alloc (.cells #[.int .i64 3, .int .i64 k, .slice A n c, .slice F m e] 36)) := (Later.refl w).alloc _
    have HC := Lib.hid (crashDev_any (h.later hl) (by omega) e (hx.forms.later hl) hm hx.range hF)
    have HL := Lib.hid hl
    clear h hx hl e1 hF
    go_enter Try.func17, Try.ntmps17
    go_wp2_with fail
    refine HC.out.mono ?_
    rintro e1 w1 ⟨rfl, hd, hc⟩
    have HD := Lib.hid hd
    clear hd
    go_wp2
    go_ret2
    exact ⟨S, g, rfl, HD.out, fun q hq => .inl hq, (Chg.later HL.out).trans hc fun q hq => .inl hq⟩
  · by_cases hk4 : x.kind = 4
    · obtain ⟨kd, k, A, n, c, bs, F, m, e, fs⟩ := x
      dsimp only at hk3 hk4 hm hF
      subst hk4
      have e1 : doB d ⟨4, k, A, n, c, bs, F, m, e, fs⟩ = (d, 0) := rfl
      rw [e1]
      unfold opV opL
      dsimp only
      have hl : Later w (w.alloc (.cells #[.int .i64 4, .int .i64 k, .slice A n c, .slice F m e] 36)) := (Later.refl w).alloc _
      have HD := Lib.hid (h.later hl)
      have HC := Lib.hid (copyDev_any HD.out (by omega))
      have HL := Lib.hid hl
      have hbl := h.ok.most
      clear h hx hl e1 hF hk3
      go_enter Try.func17, Try.ntmps17
      go_wp2_with fail
      refine HC.out.mono ?_
      rintro e1 w1 ⟨g2, S2, rfl, hd2, hl1, hnew⟩
      have HLP : Hid (CyLp W w w1 S S S2 g g2 0 d d) := ⟨HD.out.later hl1, hd2, fun q hq e => by
        have h1 := (HD.out.low q e).2
        have h2 := hnew q hq
        omega, rfl, Nat.le_refl _, Nat.le_refl _, Chg.later (HL.out.trans hl1), fun q hq => Nat.le_trans HL.out.le (hnew q hq), fun q hq => .inl hq⟩
      have HC := Lib.hid (countDev_any HLP.out.dev)
      clear hd2 hl1 hnew HD HL
      go_wp2_with fail
      refine HC.out.mono ?_
      rintro e1 w99 ⟨rfl, e9⟩
      obtain rfl := e9.symm
      clear e9 HC
      go_wp2
      go_loopg [42] (d.bl.length + 1) (fun g0 s42 wr => ∃ (j : Nat) (d1 : DvP) (S1 : Nat → Prop), j ≤ d.bl.length ∧ d.bl.length - j ≤ g0 ∧ s42 = .int .i64 (j : Nat) ∧ Hid (CyLp W w wr S S1 S2 g g2 j d d1))
      case atStart => exact ⟨0, d, S, Nat.zero_le _, by omega, rfl, HLP⟩
      case round =>
        clear HLP
        obtain ⟨j, d1, S1, hj, hg, rfl, hlp⟩ := hrel
        by_cases hlt : j < d.bl.length
        · have kc := fun (w : World) (C : Array Value) (n c : Nat) => Lib.run_convert_bytes_const (P := Try.prog) w 33 5 C n c Try.underlying33 Try.underlying5
          have hla : Later wr (wr.alloc (.cells #[.int .u8 110, .int .u8 111, .int .u8 110, .int .u8 101] 5 (4, 5))) := (Later.refl wr).alloc _
          have HC := Lib.hid (writeDev_any (hlp.out.dev.later hla) (by have := hlp.out.ops; omega) (by have := hlp.out.row; omega) (j : Int) _ 4 4 [110, 111, 110, 101] (none_made wr))
          have HLA := Lib.hid hla
          have HSM := Lib.hid (writeP_small d1 (j : Int) [110, 111, 110, 101])
          clear hla
          go_wp2_with fail
          clear kc
          refine HC.out.mono ?_
          rintro e1 w3 ⟨S3, rfl, hd3, hup3, hc3⟩
          have HEND := Lib.hid (hlp.out.next HLA.out hd3 hup3 hc3 HSM.out.1 HSM.out.2.1 HSM.out.2.2)
          clear hd3 hup3 hc3 hlp HLA HSM HC
          go_wp2
          go_roundg (d.bl.length - (j + 1))
          case measure => omega
          case rel => exact ⟨j + 1, _, S3, by omega, by omega, by go_num, HEND⟩
        · have hla : Later wr (wr.alloc (.cells #[.int .i64 1] 3)) := (Later.refl wr).alloc _
          have HC := Lib.hid (crashDev_any (hlp.out.dev.later hla) (by have := hlp.out.row; omega) 1 (ints_made wr 1) (by decide) (fun z hz => by simp at hz; subst hz; decide) (fun _ a ha => by
            cases ha
            intro e
            have := (hlp.out.dev.low _ e).2
            exact absurd this (Nat.lt_irrefl _)))
          have HLA := Lib.hid hla
          clear hla
          go_wp2_with fail
          refine HC.out.mono ?_
          rintro e1 w3 ⟨rfl, hd3, hc3⟩
          have HEND : Hid (DevAt W w3 S2 g2 d ∧ Chg S w w3) := ⟨(hlp.out.cpy.later HLA.out).chg hc3 hlp.out.apart hd3.base, (hlp.out.chg.then HLA.out).trans hc3 hlp.out.up⟩
          have HNW := Lib.hid hlp.out.new
          clear hd3 hc3 hlp HC HLA
          go_wp2
          go_ret2
          exact ⟨S2, g2, rfl, HEND.out.1, fun q hq => .inr (HNW.out q hq), HEND.out.2⟩
    · have e1 : doB d x = doQ d x := by unfold doB; rw [if_neg hk3]
      rw [e1]
      exact (does10_all h (by omega) (by omega) x hx hk3 hk4).mono fun e w' ⟨S', h1, h2, h3, h4⟩ => ⟨S', g, h1, h2, h3, h4⟩
end

end Go.Proofs.Ytaonfedjilfgjaa

/-
  stands, as a call.
-/
namespace Go.Proofs.Ytaonfedjilfgjaa
open Go.RowKit

section
variable {W w w' : World} {S : Nat → Prop} {g : Nat} {d : DvP} {A B : Option Addr} {n m : Nat} {s : StP}
set_option maxRecDepth 100000 in
set_option maxHeartbeats 1000000 in
theorem stands_any (hd : DevAt W w S g d) (hs : StAt w A n B m s) (hsm : Same d s n m) (hm : m ≤ 1000000) (hn : n ≤ 100000) (c e : Nat) :
    Calls Try.prog 15 #[.pointer (some ⟨g, 0, none⟩), .agg #[.slice A n c, .slice B m e, .int .i64 (s.ops : Nat), .int .i64 s.fuse, .bool s.down]] w fun e w' => e = .returned (.bool true) ∧ Later w w' := by
  have HD := Lib.hid hd; have HS := Lib.hid hs
  clear hd hs
  go_enter Try.func15, Try.ntmps15
  go_wp2_with fail
  have hla : Later w (w.alloc (.cells #[.slice A n c, .slice B m e, .int .i64 (s.ops : Nat), .int .i64 s.fuse, .bool s.down] 30)) := (Later.refl w).alloc _
  have hbx : CellsAt (w.alloc (.cells #[.slice A n c, .slice B m e, .int .i64 (s.ops : Nat), .int .i64 s.fuse, .bool s.down] 30)) w.heap.size (stL A n c B m e s).toArray 30 := CellsAt.made _ _ _
  refine stands1 rfl (by kernel_rfl) ⟨_, rfl, rfl, rfl, rfl, by kernel_rfl⟩ ⟨_, rfl, rfl, rfl, rfl, by kernel_rfl⟩ ⟨_, rfl, rfl, rfl, rfl, by kernel_rfl⟩ ⟨_, rfl, rfl, rfl, rfl, by kernel_rfl⟩ ⟨_, rfl, rfl, rfl, rfl, by kernel_rfl⟩ ⟨_, rfl, rfl, rfl, rfl, by kernel_rfl⟩ ⟨_, rfl, rfl, rfl, rfl, by kernel_rfl⟩ ⟨_, rfl, rfl, rfl, rfl, by kernel_rfl, by kernel_rfl⟩ ⟨_, rfl, rfl, rfl, rfl, by kernel_rfl, by kernel_rfl⟩ ⟨_, rfl, rfl, rfl, rfl, by kernel_rfl, by kernel_rfl⟩ ⟨_, rfl, rfl, rfl, rfl, by kernel_rfl, by kernel_rfl⟩ ⟨_, rfl, rfl, rfl, rfl, by kernel_rfl, by kernel_rfl⟩ ⟨_, rfl, rfl, rfl, rfl, by kernel_rfl, by kernel_rfl⟩ ⟨_, rfl, rfl, rfl, rfl, by kernel_rfl⟩ ⟨_, rfl, rfl, rfl, rfl, by kernel_rfl⟩ ⟨_, rfl, rfl, rfl, rfl, by kernel_rfl, by kernel_rfl⟩ ⟨_, rfl, rfl, rfl, rfl, by kernel_rfl, by kernel_rfl⟩ ⟨_, rfl, rfl, rfl, rfl, by kernel_rfl, by kernel_rfl⟩ ⟨_, rfl, rfl, rfl, rfl, by kernel_rfl, by kernel_rfl⟩ ⟨_, rfl, rfl, rfl, rfl, by kernel_rfl, by kernel_rfl⟩ ⟨_, rfl, rfl, rfl, rfl, by kernel_rfl⟩ ⟨_, rfl, rfl, rfl, rfl, by kernel_rfl⟩ ⟨_, rfl, rfl, rfl, rfl, by kernel_rfl, by kernel_rfl⟩ ⟨_, rfl, rfl, rfl, rfl, by kernel_rfl, by kernel_rfl⟩ ⟨_, rfl, rfl, rfl, rfl, by kernel_rfl, by kernel_rfl⟩ ⟨_, rfl, rfl, rfl, rfl, by kernel_rfl, by kernel_rfl⟩ ⟨_, rfl, rfl, rfl, rfl, by kernel_rfl, by kernel_rfl⟩ ⟨_, rfl, rfl, rfl, rfl, by kernel_rfl⟩ ⟨_, rfl, rfl, rfl, rfl, by kernel_rfl⟩ ⟨_, rfl, rfl, rfl, rfl, by kernel_rfl, by kernel_rfl⟩ ⟨_, rfl, rfl, rfl, rfl, by kernel_rfl, by kernel_rfl⟩ ⟨_, rfl, rfl, rfl, rfl, by kernel_rfl, by kernel_rfl⟩ ⟨_, rfl, rfl, rfl, rfl, by kernel_rfl, by kernel_rfl⟩ ⟨_, rfl, rfl, rfl, rfl, by kernel_rfl, by kernel_rfl⟩ ⟨_, rfl, rfl, rfl, rfl, by kernel_rfl, by kernel_rfl⟩ ⟨_, rfl, rfl, rfl, rfl, by kernel_rfl⟩ (of_decide_eq_true rfl) (g := g) (g3 := w.heap.size) rfl rfl (HD.out.later hla) (HS.out.later hla) hbx hsm hm hn (fun a w1 so hl1 e46 => ?_)
  have HBX := Lib.hid (hbx.later hl1); have HL := Lib.hid (hla.trans hl1)
  clear hla hbx hl1
  have ha := so.is
  simp only [List.foldl_cons, List.foldl_nil] at ha
  rw [e46] at ha
  generalize a.eval (.tmp 11) = y11 at ha
  generalize a.eval (.tmp 12) = y12 at ha
  generalize a.eval (.tmp 13) = y13 at ha
  generalize a.eval (.tmp 14) = y14 at ha
  generalize a.eval (.tmp 15) = y15 at ha
  generalize a.eval (.tmp 16) = y16 at ha
  generalize a.eval (.tmp 17) = y17 at ha
  generalize a.eval (.tmp 18) = y18 at ha
  generalize a.eval (.tmp 19) = y19 at ha
  generalize a.eval (.tmp 20) = y20 at ha
  generalize a.eval (.tmp 21) = y21 at ha
  generalize a.eval (.tmp 22) = y22 at ha
  generalize a.eval (.tmp 23) = y23 at ha
  generalize a.eval (.tmp 24) = y24 at ha
  generalize a.eval (.tmp 25) = y25 at ha
  generalize a.eval (.tmp 26) = y26 at ha
  generalize a.eval (.tmp 27) = y27 at ha
  generalize a.eval (.tmp 28) = y28 at ha
  generalize a.eval (.tmp 29) = y29 at ha
  generalize a.eval (.tmp 30) = y30 at ha
  generalize a.eval (.tmp 31) = y31 at ha
  generalize a.eval (.tmp 32) = y32 at ha
  generalize a.eval (.tmp 33) = y33 at ha
  generalize a.eval (.tmp 34) = y34 at ha
  generalize a.eval (.tmp 35) = y35 at ha
  generalize a.eval (.tmp 36) = y36 at ha
  generalize a.eval (.tmp 37) = y37 at ha
  generalize a.eval (.tmp 38) = y38 at ha
  generalize a.eval (.tmp 39) = y39 at ha
  generalize a.eval (.tmp 40) = y40 at ha
  generalize a.eval (.tmp 41) = y41 at ha
  generalize a.eval (.tmp 42) = y42 at ha
  generalize a.eval (.tmp 43) = y43 at ha
  generalize a.eval (.tmp 44) = y44 at ha
  generalize a.eval (.tmp 45) = y45 at ha
  subst ha
  clear so e46
  simp only [Act.put, List.setIfInBounds_toArray, List.set_cons_zero, List.set_cons_succ]
  go_wp2
  go_loopg [5] (n + 3) (fun g0 s5 wr => ∃ (z : Int), -1 ≤ z ∧ z ≤ (n : Int) + 1 ∧ ((n : Int) + 1 - z).toNat ≤ g0 ∧ s5 = .int .i64 z ∧ Hid (Later w1 wr))
  case atStart => exact ⟨-1, by omega, by omega, by omega, rfl, Later.refl _⟩
  case round =>
    obtain ⟨z, hz1, hz2, hg, rfl, hl2⟩ := hrel
    have hbw := HBX.out.later hl2.out
    have q0 : wr.cell? ⟨w.heap.size, 0, none⟩ = some (.slice A n c) := hbw.cell rfl
    by_cases hlt : z ≤ (n : Int)
    · by_cases h0 : 0 ≤ z
      · by_cases h1 : z < (n : Int)
        · obtain ⟨k, hzk⟩ : ∃ k : Nat, z = (k : Int) := ⟨z.toNat, by omega⟩
          subst hzk
          have hkn : k < n := by omega
          have hzk : (k : Int) = (k : Int) := rfl
          by_cases hdn : s.down = true
          · have HC := Lib.hid (readDev_any (HD.out.later (HL.out.trans hl2.out)) (k : Int))
            rw [show readE d (k : Int) = 100 by unfold readE; rw [hsm.down, hdn]; rfl, show readB d (k : Int) = [] by unfold readB; rw [hsm.down, hdn]; rfl] at HC
            have HDN := Lib.hid hdn
            clear hbw hdn
            go_wp2_with fail
            clear q0
            refine HC.out.mono ?_
            rintro e5 w5 ⟨v, rfl, hv, hl5⟩
            obtain ⟨Av, cv, rfl, hcv, _, hbv⟩ := own_bs hv
            have HL5 := Lib.hid (hl2.out.trans hl5)
            have HBV := Lib.hid hbv
            clear hv hl5 hbv HC
            have hbw := HBX.out.later HL5.out
            have q0 : w5.cell? ⟨w.heap.size, 0, none⟩ = some (.slice A n c) := hbw.cell rfl
            have q1 : w5.cell? ⟨w.heap.size, 1, none⟩ = some (.slice B m e) := hbw.cell rfl
            have q2 : w5.cell? ⟨w.heap.size, 2, none⟩ = some (.int .i64 (s.ops : Nat)) := hbw.cell rfl
            have q3 : w5.cell? ⟨w.heap.size, 3, none⟩ = some (.int .i64 s.fuse) := hbw.cell rfl
            have q4 : w5.cell? ⟨w.heap.size, 4, none⟩ = some (.bool s.down) := hbw.cell rfl
            clear hbw
            have HC := Lib.hid (at_any (HS.out.later (HL.out.trans HL5.out)) hm k hkn (by omega) c e)
            have HA64 := Lib.hid (HS.out.atR_length hkn)
            go_wp2_with fail
            refine HC.out.mono ?_
            rintro e6 w6 ⟨rfl, hl6⟩
            have HL6 := Lib.hid (HL5.out.trans hl6)
            have HBV6 := Lib.hid (HBV.out.later hl6)
            clear HC hl6 q0 q1 q2 q3 q4
            go_wp2_with (with_reducible show wpList _ _ _ ({ dst := some 10, op := Op.alloc _, type := _, pos := _, after := _, guard := _ } :: _) _ _; refine Hid.out ?_)
            refine Lib.hid (wpList_alloc_new rfl _ rfl _ Try.rblockZero ?_)
            intro w7 hc7 hl7 _
            refine wpList_store_mids rfl rfl _ _ _ rfl w6.heap.size 0 (Lib.byteCells (atR s k)) rfl rfl (hc7.there (by simp only [Value.cells, List.size_toArray]; rw [bc_len, bc_len, HA64.out]; decide)) (by rw [bc_len, HA64.out]; exact Try.rblockSize) (bc_one _) ?_
            intro w8 hw8
            have hc8 : CellsAt w8 w6.heap.size (Lib.byteCells (atR s k)).toArray 47 := by
              have := hc7.sets (Lib.byteCells (atR s k)) (o := 0)
              rw [set_all (by simp only [Value.cells, List.size_toArray]; rw [bc_len, bc_len, HA64.out]; rfl)] at this
              rw [hw8]
              exact this
            have hl8 : Later w6 w8 := by
              rw [hw8]
              exact (sets_chg (g := w6.heap.size) (Lib.byteCells (atR s k)) w7 0).low hl7 (fun q hq => by rw [hq]; exact Nat.le_refl _)
            have HL8 := Lib.hid (HL6.out.trans hl8)
            have HBV8 := Lib.hid (HBV6.out.later hl8)
            have HX8 : Hid (BsAt w8 (some ⟨w6.heap.size, 0, none⟩) 64 (atR s k)) := ⟨HA64.out, fun _ => ⟨_, _, rfl, fun j x hx => by
              rw [Nat.zero_add]
              exact hc8.cell (by rw [List.getElem?_toArray]; unfold Lib.byteCells; rw [List.getElem?_map, hx]; rfl)⟩⟩
            have q4 : w8.cell? ⟨w.heap.size, 4, none⟩ = some (.bool s.down) := (HBX.out.later HL8.out).cell rfl
            rw [HDN.out] at q4
            clear hc7 hl7 hw8 hc8 hl8 HL6 HBV6 HBV HL5
            refine Lib.hid ?_
            have HC := Lib.hid (bytesEqual_any (c := cv) (e := 0) HBV8.out (BsAt.none w8 none))
            rw [show decide (([] : Bs) = ([] : Bs)) = true by simp] at HC
            have HEND : Hid (Later w1 w8) := HL8.out
            clear HBV8 HX8
            go_wp2_with fail
            refine HC.out.mono ?_
            rintro e9 w99 ⟨rfl, e99⟩
            obtain rfl := e99.symm
            clear e99 HC
            go_wp2
            go_roundg ((n : Int) + 1 - ((k : Int) + 1)).toNat
            case measure => omega
            case rel => exact ⟨(k : Int) + 1, by omega, by omega, by omega, by go_num, HEND⟩
          · replace hdn : s.down = false := by simpa using hdn
            have HC := Lib.hid (readDev_any (HD.out.later (HL.out.trans hl2.out)) (k : Int))
            rw [show readE d (k : Int) = 0 by unfold readE; rw [hsm.down, hdn, if_neg (by decide), if_pos (by rw [hsm.len]; omega)], show readB d (k : Int) = atR s k by unfold readB; rw [hsm.down, hdn, if_neg (by decide), if_pos (by rw [hsm.len]; omega), Int.toNat_natCast]; exact hsm.bl k hkn] at HC
            have HDN := Lib.hid hdn
            clear hbw hdn
            go_wp2_with fail
            clear q0
            refine HC.out.mono ?_
            rintro e5 w5 ⟨v, rfl, hv, hl5⟩
            obtain ⟨Av, cv, rfl, hcv, _, hbv⟩ := own_bs hv
            have HL5 := Lib.hid (hl2.out.trans hl5)
            have HBV := Lib.hid hbv
            clear hv hl5 hbv HC
            have hbw := HBX.out.later HL5.out
            have q0 : w5.cell? ⟨w.heap.size, 0, none⟩ = some (.slice A n c) := hbw.cell rfl
            have q1 : w5.cell? ⟨w.heap.size, 1, none⟩ = some (.slice B m e) := hbw.cell rfl
            have q2 : w5.cell? ⟨w.heap.size, 2, none⟩ = some (.int .i64 (s.ops : Nat)) := hbw.cell rfl
            have q3 : w5.cell? ⟨w.heap.size, 3, none⟩ = some (.int .i64 s.fuse) := hbw.cell rfl
            have q4 : w5.cell? ⟨w.heap.size, 4, none⟩ = some (.bool s.down) := hbw.cell rfl
            clear hbw
            have HC := Lib.hid (at_any (HS.out.later (HL.out.trans HL5.out)) hm k hkn (by omega) c e)
            have HA64 := Lib.hid (HS.out.atR_length hkn)
            go_wp2_with fail
            refine HC.out.mono ?_
            rintro e6 w6 ⟨rfl, hl6⟩
            have HL6 := Lib.hid (HL5.out.trans hl6)
            have HBV6 := Lib.hid (HBV.out.later hl6)
            clear HC hl6 q0 q1 q2 q3 q4
            go_wp2_with (with_reducible show wpList _ _ _ ({ dst := some 10, op := Op.alloc _, type := _, pos := _, after := _, guard := _ } :: _) _ _; refine Hid.out ?_)
            refine Lib.hid (wpList_alloc_new rfl _ rfl _ Try.rblockZero ?_)
            intro w7 hc7 hl7 _
            refine wpList_store_mids rfl rfl _ _ _ rfl w6.heap.size 0 (Lib.byteCells (atR s k)) rfl rfl (hc7.there (by simp only [Value.cells, List.size_toArray]; rw [bc_len, bc_len, HA64.out]; decide)) (by rw [bc_len, HA64.out]; exact Try.rblockSize) (bc_one _) ?_
            intro w8 hw8
            have hc8 : CellsAt w8 w6.heap.size (Lib.byteCells (atR s k)).toArray 47 := by
              have := hc7.sets (Lib.byteCells (atR s k)) (o := 0)
              rw [set_all (by simp only [Value.cells, List.size_toArray]; rw [bc_len, bc_len, HA64.out]; rfl)] at this
              rw [hw8]
              exact this
            have hl8 : Later w6 w8 := by
              rw [hw8]
              exact (sets_chg (g := w6.heap.size) (Lib.byteCells (atR s k)) w7 0).low hl7 (fun q hq => by rw [hq]; exact Nat.le_refl _)
            have HL8 := Lib.hid (HL6.out.trans hl8)
            have HBV8 := Lib.hid (HBV6.out.later hl8)
            have HX8 : Hid (BsAt w8 (some ⟨w6.heap.size, 0, none⟩) 64 (atR s k)) := ⟨HA64.out, fun _ => ⟨_, _, rfl, fun j x hx => by
              rw [Nat.zero_add]
              exact hc8.cell (by rw [List.getElem?_toArray]; unfold Lib.byteCells; rw [List.getElem?_map, hx]; rfl)⟩⟩
            have q4 : w8.cell? ⟨w.heap.size, 4, none⟩ = some (.bool s.down) := (HBX.out.later HL8.out).cell rfl
            rw [HDN.out] at q4
            clear hc7 hl7 hw8 hc8 hl8 HL6 HBV6 HBV HL5
            refine Lib.hid ?_
            have HC := Lib.hid (bytesEqual_any (c := cv) (e := 64) HBV8.out HX8.out)
            rw [show decide (atR s k = atR s k) = true by simp] at HC
            have HEND : Hid (Later w1 w8) := HL8.out
            clear HBV8 HX8
            go_wp2_with fail
            refine HC.out.mono ?_
            rintro e9 w99 ⟨rfl, e99⟩
            obtain rfl := e99.symm
            clear e99 HC
            go_wp2
            go_roundg ((n : Int) + 1 - ((k : Int) + 1)).toNat
            case measure => omega
            case rel => exact ⟨(k : Int) + 1, by omega, by omega, by omega, by go_num, HEND⟩
        · by_cases hdn : s.down = true
          · have HC := Lib.hid (readDev_any (HD.out.later (HL.out.trans hl2.out)) z)
            rw [show readE d z = 100 by unfold readE; rw [hsm.down, hdn]; rfl, show readB d z = [] by unfold readB; rw [hsm.down, hdn]; rfl] at HC
            have HDN := Lib.hid hdn
            clear hbw hdn
            go_wp2_with fail
            clear q0
            refine HC.out.mono ?_
            rintro e5 w5 ⟨v, rfl, hv, hl5⟩
            obtain ⟨Av, cv, rfl, hcv, _, hbv⟩ := own_bs hv
            have HL5 := Lib.hid (hl2.out.trans hl5)
            have HBV := Lib.hid hbv
            clear hv hl5 hbv HC
            have hbw := HBX.out.later HL5.out
            have q0 : w5.cell? ⟨w.heap.size, 0, none⟩ = some (.slice A n c) := hbw.cell rfl
            have q1 : w5.cell? ⟨w.heap.size, 1, none⟩ = some (.slice B m e) := hbw.cell rfl
            have q2 : w5.cell? ⟨w.heap.size, 2, none⟩ = some (.int .i64 (s.ops : Nat)) := hbw.cell rfl
            have q3 : w5.cell? ⟨w.heap.size, 3, none⟩ = some (.int .i64 s.fuse) := hbw.cell rfl
            have q4 : w5.cell? ⟨w.heap.size, 4, none⟩ = some (.bool s.down) := hbw.cell rfl
            clear hbw
            rw [HDN.out] at q4
            have HC := Lib.hid (bytesEqual_any (c := cv) (e := 0) HBV.out (BsAt.none w5 none))
            rw [show decide (([] : Bs) = ([] : Bs)) = true by simp] at HC
            have HEND : Hid (Later w1 w5) := HL5.out
            clear HBV q1 q2 q3
            go_wp2_with fail
            refine HC.out.mono ?_
            rintro e9 w99 ⟨rfl, e99⟩
            obtain rfl := e99.symm
            clear e99 HC
            go_wp2
            go_roundg ((n : Int) + 1 - (z + 1)).toNat
            case measure => omega
            case rel => exact ⟨z + 1, by omega, by omega, by omega, by go_num, HEND⟩
          · replace hdn : s.down = false := by simpa using hdn
            have HC := Lib.hid (readDev_any (HD.out.later (HL.out.trans hl2.out)) z)
            rw [show readE d z = 101 by unfold readE; rw [hsm.down, hdn, if_neg (by decide), if_neg (by rw [hsm.len]; omega)], show readB d z = [] by unfold readB; rw [hsm.down, hdn, if_neg (by decide), if_neg (by rw [hsm.len]; omega)]] at HC
            have HDN := Lib.hid hdn
            clear hbw hdn
            go_wp2_with fail
            clear q0
            refine HC.out.mono ?_
            rintro e5 w5 ⟨v, rfl, hv, hl5⟩
            obtain ⟨Av, cv, rfl, hcv, _, hbv⟩ := own_bs hv
            have HL5 := Lib.hid (hl2.out.trans hl5)
            have HBV := Lib.hid hbv
            clear hv hl5 hbv HC
            have hbw := HBX.out.later HL5.out
            have q0 : w5.cell? ⟨w.heap.size, 0, none⟩ = some (.slice A n c) := hbw.cell rfl
            have q1 : w5.cell? ⟨w.heap.size, 1, none⟩ = some (.slice B m e) := hbw.cell rfl
            have q2 : w5.cell? ⟨w.heap.size, 2, none⟩ = some (.int .i64 (s.ops : Nat)) := hbw.cell rfl
            have q3 : w5.cell? ⟨w.heap.size, 3, none⟩ = some (.int .i64 s.fuse) := hbw.cell rfl
            have q4 : w5.cell? ⟨w.heap.size, 4, none⟩ = some (.bool s.down) := hbw.cell rfl
            clear hbw
            rw [HDN.out] at q4
            have HC := Lib.hid (bytesEqual_any (c := cv) (e := 0) HBV.out (BsAt.none w5 none))
            rw [show decide (([] : Bs) = ([] : Bs)) = true by simp] at HC
            have HEND : Hid (Later w1 w5) := HL5.out
            clear HBV q1 q2 q3
            go_wp2_with fail
            refine HC.out.mono ?_
            rintro e9 w99 ⟨rfl, e99⟩
            obtain rfl := e99.symm
            clear e99 HC
            go_wp2
            go_roundg ((n : Int) + 1 - (z + 1)).toNat
            case measure => omega
            case rel => exact ⟨z + 1, by omega, by omega, by omega, by go_num, HEND⟩
      · by_cases hdn : s.down = true
        · have HC := Lib.hid (readDev_any (HD.out.later (HL.out.trans hl2.out)) z)
          rw [show readE d z = 100 by unfold readE; rw [hsm.down, hdn]; rfl, show readB d z = [] by unfold readB; rw [hsm.down, hdn]; rfl] at HC
          have HDN := Lib.hid hdn
          clear hbw hdn
          go_wp2_with fail
          clear q0
          refine HC.out.mono ?_
          rintro e5 w5 ⟨v, rfl, hv, hl5⟩
          obtain ⟨Av, cv, rfl, hcv, _, hbv⟩ := own_bs hv
          have HL5 := Lib.hid (hl2.out.trans hl5)
          have HBV := Lib.hid hbv
          clear hv hl5 hbv HC
          have hbw := HBX.out.later HL5.out
          have q0 : w5.cell? ⟨w.heap.size, 0, none⟩ = some (.slice A n c) := hbw.cell rfl
          have q1 : w5.cell? ⟨w.heap.size, 1, none⟩ = some (.slice B m e) := hbw.cell rfl
          have q2 : w5.cell? ⟨w.heap.size, 2, none⟩ = some (.int .i64 (s.ops : Nat)) := hbw.cell rfl
          have q3 : w5.cell? ⟨w.heap.size, 3, none⟩ = some (.int .i64 s.fuse) := hbw.cell rfl
          have q4 : w5.cell? ⟨w.heap.size, 4, none⟩ = some (.bool s.down) := hbw.cell rfl
          clear hbw
          rw [HDN.out] at q4
          have HC := Lib.hid (bytesEqual_any (c := cv) (e := 0) HBV.out (BsAt.none w5 none))
          rw [show decide (([] : Bs) = ([] : Bs)) = true by simp] at HC
          have HEND : Hid (Later w1 w5) := HL5.out
          clear HBV q1 q2 q3
          go_wp2_with fail
          refine HC.out.mono ?_
          rintro e9 w99 ⟨rfl, e99⟩
          obtain rfl := e99.symm
          clear e99 HC
          go_wp2
          go_roundg ((n : Int) + 1 - (z + 1)).toNat
          case measure => omega
          case rel => exact ⟨z + 1, by omega, by omega, by omega, by go_num, HEND⟩
        · replace hdn : s.down = false := by simpa using hdn
          have HC := Lib.hid (readDev_any (HD.out.later (HL.out.trans hl2.out)) z)
          rw [show readE d z = 101 by unfold readE; rw [hsm.down, hdn, if_neg (by decide), if_neg (by rw [hsm.len]; omega)], show readB d z = [] by unfold readB; rw [hsm.down, hdn, if_neg (by decide), if_neg (by rw [hsm.len]; omega)]] at HC
          have HDN := Lib.hid hdn
          clear hbw hdn
          go_wp2_with fail
          clear q0
          refine HC.out.mono ?_
          rintro e5 w5 ⟨v, rfl, hv, hl5⟩
          obtain ⟨Av, cv, rfl, hcv, _, hbv⟩ := own_bs hv
          have HL5 := Lib.hid (hl2.out.trans hl5)
          have HBV := Lib.hid hbv
          clear hv hl5 hbv HC
          have hbw := HBX.out.later HL5.out
          have q0 : w5.cell? ⟨w.heap.size, 0, none⟩ = some (.slice A n c) := hbw.cell rfl
          have q1 : w5.cell? ⟨w.heap.size, 1, none⟩ = some (.slice B m e) := hbw.cell rfl
          have q2 : w5.cell? ⟨w.heap.size, 2, none⟩ = some (.int .i64 (s.ops : Nat)) := hbw.cell rfl
          have q3 : w5.cell? ⟨w.heap.size, 3, none⟩ = some (.int .i64 s.fuse) := hbw.cell rfl
          have q4 : w5.cell? ⟨w.heap.size, 4, none⟩ = some (.bool s.down) := hbw.cell rfl
          clear hbw
          rw [HDN.out] at q4
          have HC := Lib.hid (bytesEqual_any (c := cv) (e := 0) HBV.out (BsAt.none w5 none))
          rw [show decide (([] : Bs) = ([] : Bs)) = true by simp] at HC
          have HEND : Hid (Later w1 w5) := HL5.out
          clear HBV q1 q2 q3
          go_wp2_with fail
          refine HC.out.mono ?_
          rintro e9 w99 ⟨rfl, e99⟩
          obtain rfl := e99.symm
          clear e99 HC
          go_wp2
          go_roundg ((n : Int) + 1 - (z + 1)).toNat
          case measure => omega
          case rel => exact ⟨z + 1, by omega, by omega, by omega, by go_num, HEND⟩
    · go_wp2
      go_ret
      exact ⟨rfl, HL.out.trans hl2.out⟩
end

end Go.Proofs.Ytaonfedjilfgjaa
