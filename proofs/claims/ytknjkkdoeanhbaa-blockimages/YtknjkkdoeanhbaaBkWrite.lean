/-
  The device's Write, as a call.
-/
import Derived.Test.YtknjkkdoeanhbaaBkRead
import Derived.Test.YtknjkkdoeanhbaaBkWrR
namespace Go.Proofs.Ytknjkkdoeanhbaa
open Go.RowKit

section
variable {W w : World} {S : Nat → Prop} {g : Nat} {d : DvP}
set_option maxRecDepth 100000 in
set_option maxHeartbeats 800000 in
theorem write_put (h : DevAt W w S g d) (ho : d.ops ≤ 1000000000) (hro : d.row.length ≤ 900000) (k : Nat) (hk : k < d.bl.length) (hdn : d.down = false) (A : Option Addr) (n c : Nat) (bs : Bs) (hbs : BsAt w A n bs) (hn : n ≤ 64) :
    Calls Try.prog 30 #[.pointer (some ⟨g, 0, none⟩), .int .i64 (k : Nat), .slice A n c] w fun e w' => ∃ S', e = .returned (.int .i64 (opE d)) ∧ DevAt W w' S' g (opP (putP d k bs)) ∧ Up S S' w ∧ Chg S w w' := by
  have HHA := Lib.hid (has_any h k)
  rw [show decide (0 ≤ (k : Int) ∧ (k : Int) < (d.bl.length : Int)) = true by simp; omega] at HHA
  obtain ⟨b, cc, B, m, c2, hb, h1, hc, h2, hm, hc2, hr2, sb, bg, s2⟩ := h.parts
  have q0 := hb.cell (i := 0) rfl; have q1 := hb.cell (i := 1) rfl; have q5 := hb.cell (i := 5) rfl
  have z1 := hb.frozen 1
  simp only [List.getElem_toArray, List.getElem_cons_zero, List.getElem_cons_succ] at q0 q1 q5
  have hmost := h.ok.most
  have HH := Lib.hid h; have H1 := Lib.hid h1; have H2 := Lib.hid h2; have HB := Lib.hid hb; have HS := Lib.hid s2
  have HRG : Hid (w.rangeAt b (k * 64) (Lib.byteCells (d.bl.getD k []))) := h1.range (j := k) (by simp [blL, List.getD, hk])
  have hlk : (d.bl.getD k []).length = 64 := by simp only [List.getD, List.getElem?_eq_getElem hk, Option.getD_some]; exact h.ok.size _ (List.getElem_mem hk)
  have HLK := Lib.hid hlk
  clear h h1 h2 s2 hb hr2 hm hlk
  generalize hwas : d.bl.getD k [] = was at HRG HLK
  have HWAS := Lib.hid hwas
  clear hwas
  have HBL : Hid (bs.length ≤ 64) := by show _ ≤ _; rw [hbs.len]; exact hn
  have hgt : ((n : Int) > 64) = False := by simp; omega
  go_enter Try.func30, Try.ntmps30
  go_wp2_with fail
  refine HHA.out.mono ?_
  rintro e w1 ⟨rfl, rfl⟩
  go_wp2_with (with_reducible show wpList _ _ _ ({ dst := some 28, op := Op.load 73 _, type := _, pos := _, after := _, guard := _ } :: _) _ _; refine Hid.out ?_)
  refine Lib.hid (wpList_load_mid rfl _ _ rfl b (k * 64) rfl (Lib.byteCells was) _ HRG.out Try.underlying73 rfl (by rw [bc_len, HLK.out]; exact Try.cellSize) ?_)
  refine wpList_build_of rfl _ _ rfl [(0, .int .i64 (k : Nat)), (1, .agg (Lib.byteCells was).toArray)] _ (by simp only [List.map_toArray, List.map_cons, List.map_nil]; rfl) (built_write k was HLK.out) ?_
  refine wpList_alloc_new rfl _ rfl _ Try.writeZero ?_
  intro w2 hc2' hl2 hs2
  refine wpList_store_mids rfl rfl _ _ _ rfl w1.heap.size 0 (wrL ⟨k, was, zeros 64⟩) rfl rfl (hc2'.there (by rw [wrL_len ⟨HLK.out, zeros_length 64⟩]; simp only [Value.cells, List.size_toArray]; rw [wrL_len ⟨zeros_length 64, zeros_length 64⟩]; decide)) (by rw [wrL_len ⟨HLK.out, zeros_length 64⟩]; exact Try.writeSize) (wrL_one _) ?_
  intro w3 hw3
  have hl3 : Later w1 w3 := by
    rw [hw3]
    exact (sets_chg (g := w1.heap.size) (wrL ⟨k, was, zeros 64⟩) w2 0).low hl2 (fun k hk => by rw [hk]; exact Nat.le_refl _)
  have hc3 : CellsAt w3 w1.heap.size (wrL ⟨k, was, zeros 64⟩).toArray 75 := by
    have := hc2'.sets (wrL ⟨k, was, zeros 64⟩) (o := 0)
    rw [set_all (by simp only [Value.cells, List.size_toArray]; rw [wrL_len ⟨HLK.out, zeros_length 64⟩, wrL_len ⟨zeros_length 64, zeros_length 64⟩])] at this
    rw [hw3]
    exact this
  have HL3 := Lib.hid hl3; have HC3 := Lib.hid hc3
  have HB3 := Lib.hid (hbs.later hl3)
  have p0 := hl3.cell q0; have p1 := hl3.cell q1
  clear hw3 hl2 hs2 hc2' hl3 hc3 q0 q5 hbs HRG
  generalize hgw : w1.heap.size = gw at HC3 ⊢
  have HGW := Lib.hid hgw
  clear hgw
  have HCN : Hid ((Lib.byteCells bs).length = Nat.min n 64) := by
    show _ = _
    rw [bc_len, HB3.out.len]
    exact (Nat.min_eq_left hn).symm
  have HTH : Hid (w3.there gw 65 (Lib.byteCells bs).length) := HC3.out.there (by
    have := bc_len bs
    have := HB3.out.len
    simp only [List.size_toArray]
    rw [wrL_len ⟨HLK.out, zeros_length 64⟩]
    omega)
  go_wp2_with (with_reducible show wpList _ _ _ ({ dst := some 33, op := Op.call _, type := _, pos := _, after := _, guard := _ } :: _) _ _; refine Hid.out ?_)
  refine Lib.hid (wpList_copy_mid rfl _ _ _ _ rfl 5 Try.underlying33 Try.byteSize (some ⟨gw, 65, none⟩) A 64 64 n c rfl rfl gw 65 (Lib.byteCells bs) HCN.out (fun hp => ⟨rfl, HB3.out.src hp⟩) HTH.out (bc_one _) ?_)
  intro w4 hw4
  have hl4 : Later w1 w4 := by
    rw [hw4]
    exact (sets_chg (g := gw) (Lib.byteCells bs) w3 65).low HL3.out (fun k hk => by rw [hk, ← HGW.out]; exact Nat.le_refl _)
  have hc4 : CellsAt w4 gw (wrL ⟨k, was, fillB bs⟩).toArray 75 := by
    have := HC3.out.sets (Lib.byteCells bs) (o := 65)
    rw [set_is HLK.out (by rw [HB3.out.len]; exact hn) (zeros_length 64)] at this
    rw [hw4]
    unfold fillB
    rw [← zeros_drop]
    exact this
  have HFL : Hid ((fillB bs).length = 64) := fillB_length (by rw [HB3.out.len]; exact hn)
  have HL4 := Lib.hid hl4; have HC4 := Lib.hid hc4
  clear hw4 hl4 hc4 HC3 HTH HCN HB3 p0 p1
  have p0 := HL4.out.cell (HB.out.cell (i := 0) rfl)
  simp only [List.getElem_toArray, List.getElem_cons_zero] at p0
  go_wp2_with fail
  refine wp_region_still_tail 8 (by kernel_rfl) (by kernel_rfl) ?_
  simp only [List.take_succ_cons, List.take_zero, List.drop_succ_cons, List.drop_zero]
  still_step
  still_step
  still_step
  still_step
  still_step
  still_step
  refine wpStill_load_mid rfl _ _ rfl gw 65 rfl (Lib.byteCells (fillB bs)) _ ?_ Try.underlying73 rfl (by rw [bc_len, HFL.out]; exact Try.cellSize) ?_
  · exact (HC4.out.later ((Later.refl w4).drew)).range (o := 65) (fun j u hj => by rw [arr_get, wrL_is HLK.out]; exact hj)
  still_step
  refine wpStill_nil ?_
  have hl4d : Later w1 w4.drew := HL4.out.drew
  have h14 := H1.out.on hl4d
  refine (show wpList _ _ _ _ _ w4.drew from ?_)
  refine wpList_store_mids rfl rfl _ _ _ rfl b (k * 64) (Lib.byteCells (fillB bs)) rfl rfl (by
      have := h14.there (j := k) (p := 0) (q := 64) (by simpa [blL] using hk) (by decide)
      rw [bc_len, HFL.out]
      exact this) (by rw [bc_len, HFL.out]; exact Try.cellSize) (bc_one _) ?_
  intro w5 hw5
  have h15 : OwnK 73 64 W w5 (.slice (some ⟨b, 0, none⟩) d.bl.length cc) (blL (putP d k bs)) := by
    have := h14.setAll (j := k) (vs := Lib.byteCells (fillB bs)) (by simpa [blL] using hk) (by rw [bc_len]; exact HFL.out)
    rw [hw5]
    unfold blL putP
    rw [List.map_set]
    exact this
  have hch5 : Chg (fun q => q = b) w4.drew w5 := by rw [hw5]; exact sets_chg _ _ _
  have hch15 : Chg (fun q => q = b) w1 w5 := (Chg.later hl4d).trans hch5 (fun q hq => .inl hq)
  have hb5 := HB.out.chg hch15 (fun e => bg e.symm)
  have h25 := H2.out.chg hch15 (fun q hq e => (HS.out q hq).2.2 e) h15.2.2
  have hgb : gw ≠ b := fun e => by have h1 := (H1.out.lt b rfl).2; have h2 := HGW.out; omega
  have hc5 := (HC4.out.later (Later.refl w4).drew).chg hch5 hgb
  have HC5 := Lib.hid hc5; have HB5 := Lib.hid hb5; have H15 := Lib.hid h15; have H25 := Lib.hid h25; have HCH5 := Lib.hid hch15
  have hsz5 : w1.heap.size < w5.heap.size := by have := hc5.lt; have := HGW.out; omega
  have q1' := hb5.cell (i := 1) rfl
  have z1' := hb5.frozen 1
  simp only [List.getElem_toArray, List.getElem_cons_zero, List.getElem_cons_succ] at q1'
  clear hw5 h14 hl4d h15 hch5 hch15 hb5 h25 hc5 HC4 p0 q1 z1
  go_wp2_with fail
  have hwl : (wrL ⟨k, was, fillB bs⟩).length = 129 := wrL_len ⟨HLK.out, HFL.out⟩
  refine bkWr8 rfl (by kernel_rfl) ⟨_, rfl, rfl, rfl, rfl, by kernel_rfl⟩ ⟨_, rfl, rfl, rfl, rfl, by kernel_rfl⟩ ⟨_, rfl, rfl, rfl, rfl, by kernel_rfl⟩ ⟨_, rfl, rfl, rfl, rfl, by kernel_rfl⟩ ⟨_, rfl, rfl, rfl, rfl, by kernel_rfl⟩ ⟨_, rfl, rfl, rfl, rfl, by kernel_rfl⟩ ⟨_, rfl, rfl, rfl, rfl, by kernel_rfl⟩ ⟨_, rfl, rfl, rfl, rfl, by kernel_rfl⟩ ⟨_, rfl, rfl, rfl, rfl, by kernel_rfl⟩ ⟨_, rfl, rfl, rfl, rfl, by kernel_rfl⟩ ⟨_, rfl, rfl, rfl, rfl, by kernel_rfl⟩ (of_decide_eq_true rfl) (w0 := W) (g := g) (gw := gw) (vs := .slice B m c2) (xs := rowL d) (x := ⟨k, was, fillB bs⟩) rfl rfl q1' HC5.out hwl H25.out (by simpa [rowL] using hro) HB5.out (fun e => (HS.out g e).2.1 rfl) (fun a w6 w7 v6 v7 so l6 e49 hx => ?_)
  obtain ⟨wm, how, hgr, hob, hbx, hch⟩ := hx
  have hlow6 := HCH5.out.then l6
  have hch6 : Chg S w1 w6 := hlow6.mono fun q hq => .inl (by rw [hq]; exact sb)
  have hchm : Chg S w6 wm := Chg.grown hgr fun q hq => .inl (HS.out q hq).1
  have hch7 : Chg S w1 w7 := (hch6.trans hchm fun q hq => .inl hq).trans hch fun q hq => .inl (by rw [hq]; exact HH.out.mem)
  have hvb : ∀ q, v6.ownBlock = some q → (S q ∨ w1.heap.size ≤ q) ∧ q ≠ g ∧ q ≠ b := fun q hq => by
    rcases hob with h | h
    · rw [h] at hq
      have := HS.out q hq
      exact ⟨.inl this.1, this.2⟩
    · rw [h] at hq
      cases hq
      have hg := (HH.out.low g HH.out.mem).2
      have hbb := (H1.out.lt b rfl).2
      have := l6.le
      exact ⟨.inr (by omega), by omega, by omega⟩
  have hlm : Later W wm := how.later
  have hl7 : Later W w7 := hch.low hlm fun q hq => by rw [hq]; exact (HH.out.low g HH.out.mem).1
  have h1m : OwnK 73 64 W wm (.slice (some ⟨b, 0, none⟩) d.bl.length cc) (blL (putP d k bs)) := (H15.out.on l6).chg (Chg.grown (S := fun q => (Value.slice B m c2).ownBlock = some q) hgr fun q hq => .inl hq) (fun q hq e => by cases hq; exact (HS.out _ e).2.2 rfl) hlm
  have hnew : wrL ⟨k, was, fillB bs⟩ = wrL ⟨k, d.bl.getD k [], fillB bs⟩ := by rw [HWAS.out]
  have hok : DvOk (putP d k bs) := putP_ok HH.out.ok hk HBL.out
  have hdev : DevAt W w7 (fun q => (S q ∨ w1.heap.size ≤ q) ∧ q < w7.heap.size) g (putP d k bs) := by
    refine ⟨⟨_, v6, hbx, h1m.chg hch (fun q hq e => by cases hq; exact bg e) hl7, ?_, fun q hq => ?_, fun q hq => ?_⟩, hok, ⟨.inl HH.out.mem, ?_⟩, fun q hq => ⟨?_, hq.2⟩, hl7⟩
    · have := how.chg hch (fun q hq e => (hvb q hq).2.1 e) hl7
      rw [hnew] at this
      have e : rowL (putP d k bs) = rowL d ++ [wrL ⟨k, d.bl.getD k [], fillB bs⟩] := by simp [rowL, putP]
      rw [e]
      exact this
    · cases hq
      exact ⟨.inl sb, by have := (h1m.lt b rfl).2; exact Nat.lt_of_lt_of_le this hch.size⟩
    · exact ⟨(hvb q hq).1, Nat.lt_of_lt_of_le (how.lt q hq).2 hch.size⟩
    · exact hbx.lt
    · rcases hq.1 with h | h
      · exact (HH.out.low q h).1
      · exact Nat.le_trans HH.out.base.le h
  have HOP := Lib.hid (op_any hdev ho)
  have HUP : Hid (Up S (fun q => (S q ∨ w1.heap.size ≤ q) ∧ q < w7.heap.size) w1) := fun q hq => hq.1
  have HC7 := Lib.hid hch7
  have hopE : opE (putP d k bs) = opE d := rfl
  rw [hopE] at HOP
  have ha := so.is
  simp only [List.foldl_cons, List.foldl_nil] at ha
  rw [e49] at ha
  generalize a.eval (.tmp 42) = y42 at ha
  generalize a.eval (.tmp 43) = y43 at ha
  generalize a.eval (.tmp 44) = y44 at ha
  generalize a.eval (.tmp 45) = y45 at ha
  generalize a.eval (.tmp 46) = y46 at ha
  generalize a.eval (.tmp 47) = y47 at ha
  generalize a.eval (.tmp 48) = y48 at ha
  generalize a.eval (.tmp 50) = y50 at ha
  generalize a.eval (.tmp 51) = y51 at ha
  subst ha
  have HMEM : Hid (S g) := HH.out.mem
  clear hdev hch7 hopE so e49 how hgr hob hbx hch hlow6 hch6 hchm hvb hlm hl7 h1m hnew hok HH H1 H2 HB HS HC5 HB5 H15 H25 HCH5 q1' z1' hsz5 hgb hwl HL3 HL4 HGW HLK HFL HWAS HHA HBL
  simp only [Act.put, List.setIfInBounds_toArray, List.set_cons_zero, List.set_cons_succ]
  go_wp2_with fail
  refine HOP.out.mono ?_
  rintro e w8 ⟨rfl, hd8, hc8⟩
  have HD8 := Lib.hid hd8; have HC8 := Lib.hid hc8
  clear hd8 hc8
  go_wp2
  go_ret
  exact ⟨_, rfl, HD8.out, HUP.out, HC7.out.trans HC8.out fun q hq => .inl (by rw [hq]; exact HMEM.out)⟩

set_option maxRecDepth 100000 in
set_option maxHeartbeats 800000 in
theorem writeDev_any (h : DevAt W w S g d) (ho : d.ops ≤ 1000000000) (hro : d.row.length ≤ 900000) (k : Int) (A : Option Addr) (n c : Nat) (bs : Bs) (hbs : BsAt w A n bs) :
    Calls Try.prog 30 #[.pointer (some ⟨g, 0, none⟩), .int .i64 k, .slice A n c] w fun e w' => ∃ S', e = .returned (.int .i64 (writeP d k bs).2) ∧ DevAt W w' S' g (writeP d k bs).1 ∧ Up S S' w ∧ Chg S w w' := by
  have q5 : w.cell? ⟨g, 5, none⟩ = some (.bool d.down) := by
    obtain ⟨b, c, B, m, c2, hb, _⟩ := h.parts
    exact hb.cell rfl
  have hlen := hbs.len
  by_cases hd : d.down = true
  · have e1 : writeP d k bs = (d, 100) := by unfold writeP; rw [if_pos hd]
    rw [e1]
    have HH := Lib.hid h
    clear e1 h hbs
    go_enter Try.func30, Try.ntmps30
    go_wp2
    go_ret
    exact ⟨S, rfl, HH.out, fun q hq => .inl hq, Chg.refl _ _⟩
  · have hd0 : d.down = false := by simpa using hd
    by_cases hk : 0 ≤ k ∧ k < (d.bl.length : Int)
    · by_cases hn : n ≤ 64
      · obtain ⟨j, rfl⟩ := Int.eq_ofNat_of_zero_le hk.1
        have e1 : writeP d (j : Nat) bs = (opP (putP d j bs), opE d) := by
          unfold writeP
          rw [if_neg hd, if_neg (by omega)]
          rfl
        rw [e1]
        exact write_put h ho hro j (by omega) hd0 A n c bs hbs hn
      · have e1 : writeP d k bs = (d, 101) := by unfold writeP; rw [if_neg hd, if_pos (.inr (.inr (by omega)))]
        rw [e1]
        have HH := Lib.hid h
        have HHA := Lib.hid (has_any h k)
        rw [show decide (0 ≤ k ∧ k < (d.bl.length : Int)) = true by simpa using hk] at HHA
        have hgt : (64 : Int) < (n : Int) := by omega
        clear e1 h hbs hlen
        go_enter Try.func30, Try.ntmps30
        go_wp2_with fail
        refine HHA.out.mono ?_
        rintro e w1 ⟨rfl, rfl⟩
        go_wp2
        go_ret
        exact ⟨S, rfl, HH.out, fun q hq => .inl hq, Chg.refl _ _⟩
    · have e1 : writeP d k bs = (d, 101) := by unfold writeP; rw [if_neg hd, if_pos (by omega)]
      rw [e1]
      have HH := Lib.hid h
      have HHA := Lib.hid (has_any h k)
      rw [show decide (0 ≤ k ∧ k < (d.bl.length : Int)) = false by simpa using hk] at HHA
      clear e1 h hbs hlen
      go_enter Try.func30, Try.ntmps30
      go_wp2_with fail
      refine HHA.out.mono ?_
      rintro e w1 ⟨rfl, rfl⟩
      go_wp2
      go_ret
      exact ⟨S, rfl, HH.out, fun q hq => .inl hq, Chg.refl _ _⟩
end

end Go.Proofs.Ytknjkkdoeanhbaa
