import Derived.Test.YtaonfedjilfgjaaPk3
import Derived.Test.YtaonfedjilfgjaaPk5
import Derived.RangeFuncNested
import Derived.RangeFuncBound
import Derived.RangeFuncCalls
import Derived.RangeFuncLeaves
import Derived.Test.YtaonfedjilfgjaaPk1
import Derived.Test.YtaonfedjilfgjaaPk4
import Derived.TacticsIn
import Derived.OrdersIn
import Derived.Test.YtaonfedjilfgjaaPk6

/-
  The device's Write, as a call.
-/
namespace Go.Proofs.Ytaonfedjilfgjaa
open Go.RowKit

section
variable {W w : World} {S : Nat → Prop} {g : Nat} {d : DvP}
set_option maxRecDepth 100000 in
set_option maxHeartbeats 800000 in
theorem write_put (h : DevAt W w S g d) (ho : d.ops ≤ 1000000000) (hro : d.row.length ≤ 900000) (k : Nat) (hk : k < d.bl.length) (hdn : d.down = false) (A : Option Addr) (n c : Nat) (bs : Bs) (hbs : BsAt w A n bs) (hn : n ≤ 64) :
    Calls Try.prog 45 #[.pointer (some ⟨g, 0, none⟩), .int .i64 (k : Nat), .slice A n c] w fun e w' => ∃ S', e = .returned (.int .i64 (opE d)) ∧ DevAt W w' S' g (opP (putP d k bs)) ∧ Up S S' w ∧ Chg S w w' := by
  have HHA := Lib.hid (has_any h k)
  rw [show decide (0 ≤ (k : Int) ∧ (k : Int) < (d.bl.length : Int)) = true by simp; omega] at HHA
  obtain ⟨b, cc, B, m, c2, hb, h1, hc, h2, hm, hc2, hr2, sb, bg, s2⟩ := h.parts
  have q0 := hb.cell (i := 0) rfl; have q1 := hb.cell (i := 1) rfl; have q5 := hb.cell (i := 5) rfl
  have z1 := hb.frozen 1
  simp only [List.getElem_toArray, List.getElem_cons_zero, List.getElem_cons_succ] at q0 q1 q5
  have hmost := h.ok.most
  have HH := Lib.hid h; have H1 := Lib.hid h1; have H2 := Lib.hid h2; have HB := Lib.hid hb; have HS := Lib.hid s2
  have HRG : Hid (w.rangeAt b (k * 64) (Lib.byteCells (d.bl.getD k []))) := h1.range (j := k) (by simp [blL, List.getD, hk])
  have hlk : (d.bl.getD k []).length = 64 := by simp only [List.getD, List.getElem?_eq_getElem hk, Option.getD_some]; exact h.ok.size _ (List.getElem_mem hk)
  have HLK := Lib.hid hlk
  clear h h1 h2 s2 hb hr2 hm hlk
  generalize hwas : d.bl.getD k [] = was at HRG HLK
  have HWAS := Lib.hid hwas
  clear hwas
  have HBL : Hid (bs.length ≤ 64) := by show _ ≤ _; rw [hbs.len]; exact hn
  have hgt : ((n : Int) > 64) = False := by simp; omega
  go_enter Try.func45, Try.ntmps45
  go_wp2_with fail
  refine HHA.out.mono ?_
  rintro e w1 ⟨rfl, rfl⟩
  go_wp2_with (with_reducible show wpList _ _ _ ({ dst := some 28, op := Op.load 101 _, type := _, pos := _, after := _, guard := _ } :: _) _ _; refine Hid.out ?_)
  refine Lib.hid (wpList_load_mid rfl _ _ rfl b (k * 64) rfl (Lib.byteCells was) _ HRG.out Try.underlying101 rfl (by rw [bc_len, HLK.out]; exact Try.cellSize) ?_)
  refine wpList_build_of rfl _ _ rfl [(0, .int .i64 (k : Nat)), (1, .agg (Lib.byteCells was).toArray)] _ (by simp only [List.map_toArray, List.map_cons, List.map_nil]; rfl) (built_write k was HLK.out) ?_
  refine wpList_alloc_new rfl _ rfl _ Try.writeZero ?_
  intro w2 hc2' hl2 hs2
  refine wpList_store_mids rfl rfl _ _ _ rfl w1.heap.size 0 (wrL ⟨k, was, zeros 64⟩) rfl rfl (hc2'.there (by rw [wrL_len ⟨HLK.out, zeros_length 64⟩]; simp only [Value.cells, List.size_toArray]; rw [wrL_len ⟨zeros_length 64, zeros_length 64⟩]; decide)) (by rw [wrL_len ⟨HLK.out, zeros_length 64⟩]; exact Try.writeSize) (wrL_one _) ?_
  intro w3 hw3
  have hl3 : Later w1 w3 := by
    rw [hw3]
    exact (sets_chg (g := w1.heap.size) (wrL ⟨k, was, zeros 64⟩) w2 0).low hl2 (fun k hk => by rw [hk]; exact Nat.le_refl _)
  have hc3 : CellsAt w3 w1.heap.size (wrL ⟨k, was, zeros 64⟩).toArray 103 := by
    have := hc2'.sets (wrL ⟨k, was, zeros 64⟩) (o := 0)
    rw [set_all (by simp only [Value.cells, List.size_toArray]; rw [wrL_len ⟨HLK.out, zeros_length 64⟩, wrL_len ⟨zeros_length 64, zeros_length 64⟩])] at this
    rw [hw3]
    exact this
  have HL3 := Lib.hid hl3; have HC3 := Lib.hid hc3
  have HB3 := Lib.hid (hbs.later hl3)
  have p0 := hl3.cell q0; have p1 := hl3.cell q1
  clear hw3 hl2 hs2 hc2' hl3 hc3 q0 q5 hbs HRG
  generalize hgw : w1.heap.size = gw at HC3 ⊢
  have HGW := Lib.hid hgw
  clear hgw
  have HCN : Hid ((Lib.byteCells bs).length = Nat.min n 64) := by
    show _ = _
    rw [bc_len, HB3.out.len]
    exact (Nat.min_eq_left hn).symm
  have HTH : Hid (w3.there gw 65 (Lib.byteCells bs).length) := HC3.out.there (by
    have := bc_len bs
    have := HB3.out.len
    simp only [List.size_toArray]
    rw [wrL_len ⟨HLK.out, zeros_length 64⟩]
    omega)
  go_wp2_with (with_reducible show wpList _ _ _ ({ dst := some 33, op := Op.call _, type := _, pos := _, after := _, guard := _ } :: _) _ _; refine Hid.out ?_)
  refine Lib.hid (wpList_copy_mid rfl _ _ _ _ rfl 5 Try.underlying33 Try.byteSize (some ⟨gw, 65, none⟩) A 64 64 n c rfl rfl gw 65 (Lib.byteCells bs) HCN.out (fun hp => ⟨rfl, HB3.out.src hp⟩) HTH.out (bc_one _) ?_)
  intro w4 hw4
  have hl4 : Later w1 w4 := by
    rw [hw4]
    exact (sets_chg (g := gw) (Lib.byteCells bs) w3 65).low HL3.out (fun k hk => by rw [hk, ← HGW.out]; exact Nat.le_refl _)
  have hc4 : CellsAt w4 gw (wrL ⟨k, was, fillB bs⟩).toArray 103 := by
    have := HC3.out.sets (Lib.byteCells bs) (o := 65)
    rw [set_is HLK.out (by rw [HB3.out.len]; exact hn) (zeros_length 64)] at this
    rw [hw4]
    unfold fillB
    rw [← zeros_drop]
    exact this
  have HFL : Hid ((fillB bs).length = 64) := fillB_length (by rw [HB3.out.len]; exact hn)
  have HL4 := Lib.hid hl4; have HC4 := Lib.hid hc4
  clear hw4 hl4 hc4 HC3 HTH HCN HB3 p0 p1
  have p0 := HL4.out.cell (HB.out.cell (i := 0) rfl)
  simp only [List.getElem_toArray, List.getElem_cons_zero] at p0
  go_wp2_with fail
  refine wp_region_still_tail 8 (by kernel_rfl) (by kernel_rfl) ?_
  simp only [List.take_succ_cons, List.take_zero, List.drop_succ_cons, List.drop_zero]
  still_step
  still_step
  still_step
  still_step
  still_step
  still_step
  refine wpStill_load_mid rfl _ _ rfl gw 65 rfl (Lib.byteCells (fillB bs)) _ ?_ Try.underlying101 rfl (by rw [bc_len, HFL.out]; exact Try.cellSize) ?_
  · exact (HC4.out.later ((Later.refl w4).drew)).range (o := 65) (fun j u hj => by rw [arr_get, wrL_is HLK.out]; exact hj)
  still_step
  refine wpStill_nil ?_
  have hl4d : Later w1 w4.drew := HL4.out.drew
  have h14 := H1.out.on hl4d
  refine (show wpList _ _ _ _ _ w4.drew from ?_)
  refine wpList_store_mids rfl rfl _ _ _ rfl b (k * 64) (Lib.byteCells (fillB bs)) rfl rfl (by
      have := h14.there (j := k) (p := 0) (q := 64) (by simpa [blL] using hk) (by decide)
      rw [bc_len, HFL.out]
      exact this) (by rw [bc_len, HFL.out]; exact Try.cellSize) (bc_one _) ?_
  intro w5 hw5
  have h15 : OwnK 101 64 W w5 (.slice (some ⟨b, 0, none⟩) d.bl.length cc) (blL (putP d k bs)) := by
    have := h14.setAll (j := k) (vs := Lib.byteCells (fillB bs)) (by simpa [blL] using hk) (by rw [bc_len]; exact HFL.out)
    rw [hw5]
    unfold blL putP
    rw [List.map_set]
    exact this
  have hch5 : Chg (fun q => q = b) w4.drew w5 := by rw [hw5]; exact sets_chg _ _ _
  have hch15 : Chg (fun q => q = b) w1 w5 := (Chg.later hl4d).trans hch5 (fun q hq => .inl hq)
  have hb5 := HB.out.chg hch15 (fun e => bg e.symm)
  have h25 := H2.out.chg hch15 (fun q hq e => (HS.out q hq).2.2 e) h15.2.2
  have hgb : gw ≠ b := fun e => by have h1 := (H1.out.lt b rfl).2; have h2 := HGW.out; omega
  have hc5 := (HC4.out.later (Later.refl w4).drew).chg hch5 hgb
  have HC5 := Lib.hid hc5; have HB5 := Lib.hid hb5; have H15 := Lib.hid h15; have H25 := Lib.hid h25; have HCH5 := Lib.hid hch15
  have hsz5 : w1.heap.size < w5.heap.size := by have := hc5.lt; have := HGW.out; omega
  have q1' := hb5.cell (i := 1) rfl
  have z1' := hb5.frozen 1
  simp only [List.getElem_toArray, List.getElem_cons_zero, List.getElem_cons_succ] at q1'
  clear hw5 h14 hl4d h15 hch5 hch15 hb5 h25 hc5 HC4 p0 q1 z1
  go_wp2_with fail
  have hwl : (wrL ⟨k, was, fillB bs⟩).length = 129 := wrL_len ⟨HLK.out, HFL.out⟩
  refine bkWr8 rfl (by kernel_rfl) ⟨_, rfl, rfl, rfl, rfl, by kernel_rfl⟩ ⟨_, rfl, rfl, rfl, rfl, by kernel_rfl⟩ ⟨_, rfl, rfl, rfl, rfl, by kernel_rfl⟩ ⟨_, rfl, rfl, rfl, rfl, by kernel_rfl⟩ ⟨_, rfl, rfl, rfl, rfl, by kernel_rfl⟩ ⟨_, rfl, rfl, rfl, rfl, by kernel_rfl⟩ ⟨_, rfl, rfl, rfl, rfl, by kernel_rfl⟩ ⟨_, rfl, rfl, rfl, rfl, by kernel_rfl⟩ ⟨_, rfl, rfl, rfl, rfl, by kernel_rfl⟩ ⟨_, rfl, rfl, rfl, rfl, by kernel_rfl⟩ ⟨_, rfl, rfl, rfl, rfl, by kernel_rfl⟩ (of_decide_eq_true rfl) (w0 := W) (g := g) (gw := gw) (vs := .slice B m c2) (xs := rowL d) (x := ⟨k, was, fillB bs⟩) rfl rfl q1' HC5.out hwl H25.out (by simpa [rowL] using hro) HB5.out (fun e => (HS.out g e).2.1 rfl) (fun a w6 w7 v6 v7 so l6 e49 hx => ?_)
  obtain ⟨wm, how, hgr, hob, hbx, hch⟩ := hx
  have hlow6 := HCH5.out.then l6
  have hch6 : Chg S w1 w6 := hlow6.mono fun q hq => .inl (by rw [hq]; exact sb)
  have hchm : Chg S w6 wm := Chg.grown hgr fun q hq => .inl (HS.out q hq).1
  have hch7 : Chg S w1 w7 := (hch6.trans hchm fun q hq => .inl hq).trans hch fun q hq => .inl (by rw [hq]; exact HH.out.mem)
  have hvb : ∀ q, v6.ownBlock = some q → (S q ∨ w1.heap.size ≤ q) ∧ q ≠ g ∧ q ≠ b := fun q hq => by
    rcases hob with h | h
    · rw [h] at hq
      have := HS.out q hq
      exact ⟨.inl this.1, this.2⟩
    · rw [h] at hq
      cases hq
      have hg := (HH.out.low g HH.out.mem).2
      have hbb := (H1.out.lt b rfl).2
      have := l6.le
      exact ⟨.inr (by omega), by omega, by omega⟩
  have hlm : Later W wm := how.later
  have hl7 : Later W w7 := hch.low hlm fun q hq => by rw [hq]; exact (HH.out.low g HH.out.mem).1
  have h1m : OwnK 101 64 W wm (.slice (some ⟨b, 0, none⟩) d.bl.length cc) (blL (putP d k bs)) := (H15.out.on l6).chg (Chg.grown (S := fun q => (Value.slice B m c2).ownBlock = some q) hgr fun q hq => .inl hq) (fun q hq e => by cases hq; exact (HS.out _ e).2.2 rfl) hlm
  have hnew : wrL ⟨k, was, fillB bs⟩ = wrL ⟨k, d.bl.getD k [], fillB bs⟩ := by rw [HWAS.out]
  have hok : DvOk (putP d k bs) := putP_ok HH.out.ok hk HBL.out
  have hdev : DevAt W w7 (fun q => (S q ∨ w1.heap.size ≤ q) ∧ q < w7.heap.size) g (putP d k bs) := by
    refine ⟨⟨_, v6, hbx, h1m.chg hch (fun q hq e => by cases hq; exact bg e) hl7, ?_, fun q hq => ?_, fun q hq => ?_⟩, hok, ⟨.inl HH.out.mem, ?_⟩, fun q hq => ⟨?_, hq.2⟩, hl7⟩
    · have := how.chg hch (fun q hq e => (hvb q hq).2.1 e) hl7
      rw [hnew] at this
      have e : rowL (putP d k bs) = rowL d ++ [wrL ⟨k, d.bl.getD k [], fillB bs⟩] := by simp [rowL, putP]
      rw [e]
      exact this
    · cases hq
      exact ⟨.inl sb, by have := (h1m.lt b rfl).2; exact Nat.lt_of_lt_of_le this hch.size⟩
    · exact ⟨(hvb q hq).1, Nat.lt_of_lt_of_le (how.lt q hq).2 hch.size⟩
    · exact hbx.lt
    · rcases hq.1 with h | h
      · exact (HH.out.low q h).1
      · exact Nat.le_trans HH.out.base.le h
  have HOP := Lib.hid (op_any hdev ho)
  have HUP : Hid (Up S (fun q => (S q ∨ w1.heap.size ≤ q) ∧ q < w7.heap.size) w1) := fun q hq => hq.1
  have HC7 := Lib.hid hch7
  have hopE : opE (putP d k bs) = opE d := rfl
  rw [hopE] at HOP
  have ha := so.is
  simp only [List.foldl_cons, List.foldl_nil] at ha
  rw [e49] at ha
  generalize a.eval (.tmp 42) = y42 at ha
  generalize a.eval (.tmp 43) = y43 at ha
  generalize a.eval (.tmp 44) = y44 at ha
  generalize a.eval (.tmp 45) = y45 at ha
  generalize a.eval (.tmp 46) = y46 at ha
  generalize a.eval (.tmp 47) = y47 at ha
  generalize a.eval (.tmp 48) = y48 at ha
  generalize a.eval (.tmp 50) = y50 at ha
  generalize a.eval (.tmp 51) = y51 at ha
  subst ha
  have HMEM : Hid (S g) := HH.out.mem
  clear hdev hch7 hopE so e49 how hgr hob hbx hch hlow6 hch6 hchm hvb hlm hl7 h1m hnew hok HH H1 H2 HB HS HC5 HB5 H15 H25 HCH5 q1' z1' hsz5 hgb hwl HL3 HL4 HGW HLK HFL HWAS HHA HBL
  simp only [Act.put, List.setIfInBounds_toArray, List.set_cons_zero, List.set_cons_succ]
  go_wp2_with fail
  refine HOP.out.mono ?_
  rintro e w8 ⟨rfl, hd8, hc8⟩
  have HD8 := Lib.hid hd8; have HC8 := Lib.hid hc8
  clear hd8 hc8
  go_wp2
  go_ret
  exact ⟨_, rfl, HD8.out, HUP.out, HC7.out.trans HC8.out fun q hq => .inl (by rw [hq]; exact HMEM.out)⟩

set_option maxRecDepth 100000 in
set_option maxHeartbeats 800000 in
theorem writeDev_any (h : DevAt W w S g d) (ho : d.ops ≤ 1000000000) (hro : d.row.length ≤ 900000) (k : Int) (A : Option Addr) (n c : Nat) (bs : Bs) (hbs : BsAt w A n bs) :
    Calls Try.prog 45 #[.pointer (some ⟨g, 0, none⟩), .int .i64 k, .slice A n c] w fun e w' => ∃ S', e = .returned (.int .i64 (writeP d k bs).2) ∧ DevAt W w' S' g (writeP d k bs).1 ∧ Up S S' w ∧ Chg S w w' := by
  have q5 : w.cell? ⟨g, 5, none⟩ = some (.bool d.down) := by
    obtain ⟨b, c, B, m, c2, hb, _⟩ := h.parts
    exact hb.cell rfl
  have hlen := hbs.len
  by_cases hd : d.down = true
  · have e1 : writeP d k bs = (d, 100) := by unfold writeP; rw [if_pos hd]
    rw [e1]
    have HH := Lib.hid h
    clear e1 h hbs
    go_enter Try.func45, Try.ntmps45
    go_wp2
    go_ret
    exact ⟨S, rfl, HH.out, fun q hq => .inl hq, Chg.refl _ _⟩
  · have hd0 : d.down = false := by simpa using hd
    by_cases hk : 0 ≤ k ∧ k < (d.bl.length : Int)
    · by_cases hn : n ≤ 64
      · obtain ⟨j, rfl⟩ := Int.eq_ofNat_of_zero_le hk.1
        have e1 : writeP d (j : Nat) bs = (opP (putP d j bs), opE d) := by
          unfold writeP
          rw [if_neg hd, if_neg (by omega)]
          rfl
        rw [e1]
        exact write_put h ho hro j (by omega) hd0 A n c bs hbs hn
      · have e1 : writeP d k bs = (d, 101) := by unfold writeP; rw [if_neg hd, if_pos (.inr (.inr (by omega)))]
        rw [e1]
        have HH := Lib.hid h
        have HHA := Lib.hid (has_any h k)
        rw [show decide (0 ≤ k ∧ k < (d.bl.length : Int)) = true by simpa using hk] at HHA
        have hgt : (64 : Int) < (n : Int) := by omega
        clear e1 h hbs hlen
        go_enter Try.func45, Try.ntmps45
        go_wp2_with fail
        refine HHA.out.mono ?_
        rintro e w1 ⟨rfl, rfl⟩
        go_wp2
        go_ret
        exact ⟨S, rfl, HH.out, fun q hq => .inl hq, Chg.refl _ _⟩
    · have e1 : writeP d k bs = (d, 101) := by unfold writeP; rw [if_neg hd, if_pos (by omega)]
      rw [e1]
      have HH := Lib.hid h
      have HHA := Lib.hid (has_any h k)
      rw [show decide (0 ≤ k ∧ k < (d.bl.length : Int)) = false by simpa using hk] at HHA
      clear e1 h hbs hlen
      go_enter Try.func45, Try.ntmps45
      go_wp2_with fail
      refine HHA.out.mono ?_
      rintro e w1 ⟨rfl, rfl⟩
      go_wp2
      go_ret
      exact ⟨S, rfl, HH.out, fun q hq => .inl hq, Chg.refl _ _⟩
end

end Go.Proofs.Ytaonfedjilfgjaa

/-
  A range over a function that hands on the places of a known row, in order: the round of place k is walked with what is known of place k.
-/
namespace Go.Proofs.Ytaonfedjilfgjaa
open Go.RowKit

/-- The function hands on zs, in order, till a round says no more. -/
def Hands {α : Type} (m : Nat) (P : Program) (gf : Nat) (lb : Array Value) (encs : α → Array Value) (Kp : World → World → Prop) (zs : List α) (w : World) : Prop :=
  ∀ (l : Nat) (J Jx : Nat → World → Prop) (W : World), Later w W →
    (∀ k x V, zs[k]? = some x → J k V → YieldAt Fence.wide (m - 1) P l (encs x) V fun e V' => (e = .returned (.bool true) ∧ J (k + 1) V' ∧ Kp V V') ∨ (e = .returned (.bool false) ∧ Jx (k + 1) V')) →
    J 0 W → CallsIn Fence.wide m P gf (#[.func (.yield l) #[] #[]] ++ lb) W fun e V => (∃ v, e = .returned v) ∧ (J zs.length V ∨ ∃ k, k ≤ zs.length ∧ Jx k V)

/-- What holds is kept while the loop's own books are turned. -/
def Books (B : Nat) (I : World → Prop) : Prop := ∀ V l o o', I V → B ≤ l → V.heap[l]? = some o → o.isCells = false → I (V.putObj l o')

/-- How a round is left: it goes on, or it returns. -/
def rowPost (B : Nat) (Kp : World → World → Prop) (I Ix : World → Prop) (V : World) : Exit → Act → World → Prop
  | .normal, _, V' => KeepsFrom B V V' ∧ Kp V V' ∧ I V'
  | .ret, _, V' => KeepsFrom B V V' ∧ Ix V'
  | _, _, _ => False

theorem range_rows {P : Program} {α : Type} {g : Operand} {ps : Array Tmp} {assign body : Code} {Q : Exit → Act → World → Prop} {a : Act} {w w0 : World} {gf : Nat} {lb : Array Value} {encs : α → Array Value} {Kp : World → World → Prop} {zs : List α}
    (hg : a.eval g = .func (.func gf) #[] lb) (eg : ∀ args w, (callFunc gf args).run P w = .ok (.enter gf args) w) (hit : Hands 2 P gf lb encs Kp zs w0) (hw0 : Later w0 w) (hps : ∀ x, (encs x).size = ps.size)
    (hKt : ∀ {X Y Z : World}, Kp X Y → Kp Y Z → Kp X Z) (hKb : ∀ V l o o', w.heap.size ≤ l → V.heap[l]? = some o → o.isCells = false → Kp V (V.putObj l o'))
    (I Ix : Nat → World → Prop) (Ax : Nat → α → Act → World → Prop) (hI : ∀ k, Books w.heap.size (I k)) (hIx : ∀ k, Books w.heap.size (Ix k)) (hAx : ∀ k x a', Books w.heap.size (Ax k x a')) (hIb : ∀ o o', I 0 w → I 0 ((w.alloc o).alloc o')) (h0 : I 0 w)
    (hassign : ∀ (l k : Nat) (x : α) (V : World) (K : Act → World → Prop), zs[k]? = some x → I k V → (∀ a' V', KeepsFrom w.heap.size V V' → Kp V V' → Ax k x a' V' → K a' V') →
      assign.wpIn (Fence.wide.inRound l) 1 P (Exit.then K (fun _ _ _ => False)) { tmps := (ps.zip (encs x)).foldl (fun t (p, v) => t.setIfInBounds p v) a.tmps, defers := [] } V)
    (hbody : ∀ (l k : Nat) (x : α) (a' : Act) (V : World), zs[k]? = some x → Ax k x a' V → body.wpIn (Fence.wide.inRound l) 1 P (rowPost w.heap.size Kp (I (k + 1)) (Ix (k + 1)) V) a' V)
    (hdone : ∀ (D : Nat) (V : World), w.heap.size ≤ D → I zs.length V → V.heap[D]? = some (.deferred (some [])) → Q .normal { a with defers := { target := .collected D, args := #[] } :: a.defers } V)
    (hstop : ∀ (D k : Nat) (V : World), w.heap.size ≤ D → k ≤ zs.length → Ix k V → V.heap[D]? = some (.deferred (some [])) → Q .ret { a with defers := { target := .collected D, args := #[] } :: a.defers } V) :
    (Code.rangeFunc g ps assign body).wp P Q a w := by
  refine (wpIn_wide (n := 3)).1 (wpIn_rangeFunc fun fn hfn => ?_)
  -- the loop's two blocks: D (calls put off), L (the record)
  have key : ∃ (rec : LoopState → Option Code → Loop) (V1 : World), V1 = (w.alloc (.deferred (some []))).alloc (.loop (rec .ready none)) ∧
      (∀ st pe, (rec st pe).fn = fn ∧ (rec st pe).tmps = a.tmps ∧ (rec st pe).params = ps ∧ (rec st pe).assign = assign ∧ (rec st pe).body = body ∧ (rec st pe).state = st ∧ (rec st pe).pending = pe) ∧
      (∀ st pe st' pe', { rec st pe with state := st', pending := pe' } = rec st' pe') ∧ (∀ st pe st', { rec st pe with state := st' } = rec st' pe) ∧
      (Instr.enterLoop fn a.tmps ps assign body none).run P w = .ok (w.heap.size + 1, [{ target := .collected w.heap.size, args := #[] }]) V1 :=
    ⟨fun st pe => { state := st, pending := pe, fn := fn, tmps := a.tmps, params := ps, assign := assign, body := body, defers := w.heap.size }, _, rfl, fun _ _ => ⟨rfl, rfl, rfl, rfl, rfl, rfl, rfl⟩, fun _ _ _ _ => rfl, fun _ _ _ => rfl, run_enterLoop_outer fn a.tmps ps assign body⟩
  obtain ⟨rec, V1, hV1, hrec, hturn, hstate, henter⟩ := key
  have hL1 : V1.heap[w.heap.size + 1]? = some (.loop (rec .ready none)) := by
    rw [hV1, ← World.size_alloc w (.deferred (some []))]
    exact World.alloc_heap_new _ _
  have hD1 : V1.heap[w.heap.size]? = some (.deferred (some [])) := by
    rw [hV1, Below.heap_alloc _ _ _ (by simp)]
    exact World.alloc_heap_new _ _
  have hlater : Later w V1 := by rw [hV1]; exact ((Later.refl w).alloc _).alloc _
  refine ⟨w.heap.size + 1, _, V1, { target := .fn (.func gf) lb, args := #[.func (.yield (w.heap.size + 1)) #[] #[]] }, V1, gf, #[.func (.yield (w.heap.size + 1)) #[] #[]] ++ lb, V1, henter, ?_, (fun _ _ => trivial), ?_, (fun _ => by decide), ?_⟩
  · simp only [resolve, hg]
    simp [go_sem]
  · simp [invoke, go_sem, eg]
  refine (hit (w.heap.size + 1) (fun k V => I k V ∧ V.heap[w.heap.size + 1]? = some (.loop (rec .ready none)) ∧ V.heap[w.heap.size]? = some (.deferred (some [])))
    (fun k V => Ix k V ∧ V.heap[w.heap.size + 1]? = some (.loop (rec .done (some .ret))) ∧ V.heap[w.heap.size]? = some (.deferred (some []))) V1 (hw0.trans hlater) ?_ ⟨by rw [hV1]; exact hIb _ _ h0, hL1, hD1⟩).mono ?_
  · -- a round
    rintro k x V hx ⟨hi, hl, hd⟩
    have hy := run_yield (P := P) (args := encs x) hl (by rw [(hrec _ _).2.2.1]; exact hps x)
    refine ⟨_, _, _, _, hy, ?_⟩
    rw [(hrec _ _).1, (hrec _ _).2.1, (hrec _ _).2.2.1, (hrec _ _).2.2.2.1, (hrec _ _).2.2.2.2.1]
    refine roundIn_of_wpIn hfn (hassign _ k x V _ hx hi fun a' Va hka hkpa hax => ?_)
    have hla := hka.same _ _ (by omega) hl rfl
    have hda := hka.same _ _ (Nat.le_refl _) hd rfl
    have hlt := (Array.getElem?_eq_some_iff.1 hla).1
    refine ⟨_, run_beginRound hla (hrec _ _).2.2.2.2.2.1, ?_⟩
    rw [hstate]
    have hlb : (Va.putObj (w.heap.size + 1) (.loop (rec .busy none))).heap[w.heap.size + 1]? = some (.loop (rec .busy none)) := World.putObj_heap_same hlt
    have hdb : (Va.putObj (w.heap.size + 1) (.loop (rec .busy none))).heap[w.heap.size]? = some (.deferred (some [])) := (World.putObj_heap_other (by omega)).trans hda
    have hkb : Kp V (Va.putObj (w.heap.size + 1) (.loop (rec .busy none))) := hKt hkpa (hKb _ _ _ _ (by omega) hla rfl)
    refine wpIn_mono (hbody _ k x a' _ hx (hAx k x a' _ _ _ _ hax (by omega) hla rfl)) fun e a3 V3 hp => ?_
    cases e with
    | normal =>
      obtain ⟨hk3, hkp3, hi3⟩ := hp
      have hl3 := hk3.same _ _ (by omega) hlb rfl
      have hd3 := hk3.same _ _ (Nat.le_refl _) hdb rfl
      have hend := run_endRound (P := P) none hl3
      rw [show ({ rec .busy none with state := if (none : Option Code).isNone then .ready else .done, pending := none } : Loop) = rec .ready none from hturn _ _ _ _] at hend
      exact ⟨_, _, hend, .inl ⟨rfl, ⟨hI _ _ _ _ _ hi3 (by omega) hl3 rfl, World.putObj_heap_same (Array.getElem?_eq_some_iff.1 hl3).1, (World.putObj_heap_other (by omega)).trans hd3⟩, hKt hkb (hKt hkp3 (hKb _ _ _ _ (by omega) hl3 rfl))⟩⟩
    | ret =>
      obtain ⟨hk3, hi3⟩ := hp
      have hl3 := hk3.same _ _ (by omega) hlb rfl
      have hd3 := hk3.same _ _ (Nat.le_refl _) hdb rfl
      have hend := run_endRound (P := P) (some .ret) hl3
      rw [show ({ rec .busy none with state := if (some Code.ret).isNone then .ready else .done, pending := some .ret } : Loop) = rec .done (some .ret) from hturn _ _ _ _] at hend
      exact ⟨_, _, hend, .inr ⟨rfl, hIx _ _ _ _ _ hi3 (by omega) hl3 rfl, World.putObj_heap_same (Array.getElem?_eq_some_iff.1 hl3).1, (World.putObj_heap_other (by omega)).trans hd3⟩⟩
    | exit id => exact hp.elim
    | goto t => exact hp.elim
    | panic ch => exact hp.elim
    | outgrown => exact hp.elim
  · -- behind the function
    rintro e V2 ⟨⟨v, rfl⟩, (⟨hi, hl, hd⟩ | ⟨k, hk, hi, hl, hd⟩)⟩
    · refine ⟨none, _, ?_, hdone _ _ (Nat.le_refl _) (hI _ _ _ _ (.loop (rec .exhausted none)) hi (by omega) hl rfl) ((World.putObj_heap_other (by omega)).trans hd)⟩
      have := run_endLoop (P := P) hl (by rw [(hrec _ _).2.2.2.2.2.1]; simp)
      rw [hstate, (hrec _ _).2.2.2.2.2.2] at this
      exact this
    · refine ⟨some .ret, _, ?_, wpIn_ret (hstop _ k _ (Nat.le_refl _) hk (hIx _ _ _ _ (.loop (rec .exhausted (some .ret))) hi (by omega) hl rfl) ((World.putObj_heap_other (by omega)).trans hd))⟩
      have := run_endLoop (P := P) hl (by rw [(hrec _ _).2.2.2.2.2.1]; simp)
      rw [hstate, (hrec _ _).2.2.2.2.2.2] at this
      exact this

end Go.Proofs.Ytaonfedjilfgjaa

/-
  A region that draws its order, in a round of a range over a function: what stands behind each set of its operations.
-/
namespace Go.Proofs.Ytaonfedjilfgjaa
open Go.RowKit

section
variable {P : Program} {ops : Array Oper} {Q : Exit → Act → World → Prop} {l n : Nat}
/-- An operation that is no defer statement goes in a round as everywhere. -/
theorem op_in {o : Oper} {a : Act} {w : World} {K : Act → World → Prop} (hd : ∀ c, o.op ≠ .defer c) (h : o.wp P a w K Q) : o.wpIn (Fence.wide.inRound l) n P a w K Q := by
  refine ⟨fun _ _ => trivial, ?_⟩
  rw [show Oper.semAt (Fence.wide.inRound l).round a.eval o = execOp a.eval o from Oper.semAt_some l _ _ hd]
  unfold Oper.wp at h
  generalize (execOp a.eval o).run P w = r at *
  cases r with
  | ok x w' =>
    cases x <;> simp only [Oper.upon, Oper.uponIn] at h ⊢ <;> first
      | exact h
      | exact ⟨fun e => (by cases e), CallsIn.inRound l (callsIn_wide.2 h)⟩
      | exact ⟨fun e => (by cases e), fun c cs _ => let ⟨v, w', r, s⟩ := h c cs; ⟨v, w', r, stepsIn_wide.2 s⟩⟩
      | exact h.elim
  | halt x w' => cases x <;> simp only [Oper.upon, Oper.uponIn] at h ⊢ <;> exact h
/-- No operation is a defer statement. -/
def noDefer (ops : Array Oper) : Bool := ops.all fun o => match o.op with | .defer _ => false | _ => true
theorem noDefer_at (h : noDefer ops = true) {i : Nat} {o : Oper} (ho : ops[i]? = some o) : ∀ c, o.op ≠ .defer c := by
  intro c e
  obtain ⟨hi, rfl⟩ := Array.getElem?_eq_some_iff.1 ho
  have := Array.all_eq_true.1 h i hi
  rw [e] at this
  cases this
theorem wpOp_in {i : Nat} {K : Act → World → Prop} {a : Act} {w : World} (hd : noDefer ops = true) (hq : ¬ LetsOut Q) (h : wpOp P ops Q i K a w) : wpOpIn (Fence.wide.inRound l) n P ops Q i K a w := by
  unfold wpOp at h
  unfold wpOpIn
  cases ho : ops[i]? with
  | none => rw [ho] at h; exact h
  | some o =>
    rw [ho] at h
    dsimp only at h ⊢
    by_cases hw : Region.wanted o (yielded ops a.tmps) = true
    · rw [if_pos hw] at h ⊢
      rcases h with h | h
      · exact op_in (noDefer_at hd ho) h
      · exact absurd h.2 hq
    · rw [if_neg hw] at h ⊢
      exact ⟨fun _ _ => trivial, h⟩
end

/-- The region in a round, in whatever order. -/
theorem regionIn_inv {P : Program} {ops : Array Oper} {Q : Exit → Act → World → Prop} {id l n : Nat} {a : Act} {w : World} (hm : P.follows .mixedOrders = true) (hg : goesBack ops = true) (hd : noDefer ops = true) (hq : ¬ LetsOut Q) (Inv : (Nat → Bool) → Act → World → Prop)
    (hstep : ∀ s a w i o, ops[i]? = some o → s i = false → (∀ e ∈ o.after, Region.binds .any e = true → s e.on = true) → Inv s a w → wpOp P ops Q i (fun a' w' => Inv (more s i) a' w') a w)
    (hend : ∀ s a w, (∀ i, i < ops.size → s i = true) → Inv s a w → Q .normal a w)
    (h0 : Inv (fun _ => false) a { w with drawn := w.drawn + 1 }) : (Code.region id ops true).wpIn (Fence.wide.inRound l) n P Q a w := by
  have key : ∀ fuel (L : Array Bool) a w, L.size = ops.size → leftN (fun j => L.getD j false) ops.size ≤ fuel → Inv (fun j => L.getD j false) a w → wpAnyIn (Fence.wide.inRound l) n P .any ops Q fuel L a w := by
    intro fuel
    induction fuel with
    | zero =>
      intro L a w hs hf h
      have hall := left_zero _ _ (Nat.le_zero.1 hf)
      refine ⟨?_, hend _ _ _ hall h⟩
      cases hr : Region.ready .any ops L with
      | nil => rfl
      | cons i rs =>
        have hi := ready_parts hs (i := i) (by rw [hr]; exact List.mem_cons_self)
        have := hall i hi.1
        rw [hi.2.1] at this
        cases this
    | succ fuel ih =>
      intro L a w hs hf h
      refine ⟨fun hr => hend _ _ _ (ready_none hg hs hr) h, fun i hi => ?_⟩
      obtain ⟨h1, h2, h3⟩ := ready_parts hs hi
      refine wpOpIn_mono ?_ (wpOp_in hd hq (hstep _ a w i ops[i] (Array.getElem?_eq_getElem h1) h2 (h3 _ (Array.getElem?_eq_getElem h1)) h))
      intro a' w' h'
      refine ih _ _ _ (by simpa using hs) ?_ ?_
      · rw [getD_more (by omega)]
        have := left_more (fun j => L.getD j false) ops.size h1 h2
        omega
      · rw [getD_more (by omega)]; exact h'
  refine wpIn_region_any hm (key _ _ _ _ (by simp) ?_ ?_)
  · have : ∀ n (s : Nat → Bool), leftN s n ≤ n := fun n s => by
      induction n with
      | zero => exact Nat.le_refl _
      | succ n ih => unfold leftN; split <;> omega
    exact this _ _
  · have e : (fun j => (Array.replicate ops.size false).getD j false) = fun _ => false := by
      funext j
      simp only [Array.getD]
      split <;> simp
    rw [e]
    exact h0

end Go.Proofs.Ytaonfedjilfgjaa

/-
  A region that draws its order, in a round of a range over a function: reads and calls in any order, and, at its end, one behind the other, operations that write; a single operation in a round.
-/
namespace Go.Proofs.Ytaonfedjilfgjaa
open Go.RowKit

/-- An operation of a plain region, in a round. -/
theorem wpListIn_round {P : Program} {ops : Array Oper} {Q : Exit → Act → World → Prop} {l n : Nat} {o : Oper} {rest : List Oper} {a : Act} {w : World} (hgd : o.guard = none) (hd : ∀ c, o.op ≠ .defer c) (h : o.wp P a w (wpListIn (Fence.wide.inRound l) n P ops Q rest) Q) : wpListIn (Fence.wide.inRound l) n P ops Q (o :: rest) a w := by
  have hw : Region.wanted o (yielded ops a.tmps) = true := by simp [Region.wanted, hgd]
  unfold wpListIn
  rw [if_pos hw]
  exact op_in hd h
/-- An operation of a plain region, in a function that is ranged over. -/
theorem wpListIn_out {P : Program} {ops : Array Oper} {Q : Exit → Act → World → Prop} {n : Nat} {o : Oper} {rest : List Oper} {a : Act} {w : World} (hgd : o.guard = none) (h : o.wp P a w (wpListIn Fence.wide n P ops Q rest) Q) : wpListIn Fence.wide n P ops Q (o :: rest) a w := by
  have hw : Region.wanted o (yielded ops a.tmps) = true := by simp [Region.wanted, hgd]
  unfold wpListIn
  rw [if_pos hw]
  refine ⟨fun _ _ => trivial, ?_⟩
  rw [show Oper.semAt Fence.wide.round a.eval o = execOp a.eval o from rfl]
  unfold Oper.wp at h
  generalize (execOp a.eval o).run P w = r at *
  cases r with
  | ok x w' =>
    cases x <;> simp only [Oper.upon, Oper.uponIn] at h ⊢ <;> first
      | exact h
      | exact ⟨fun e => (by cases e), callsIn_wide.2 h⟩
      | exact ⟨fun e => (by cases e), fun c cs _ => let ⟨v, w', r, s⟩ := h c cs; ⟨v, w', r, stepsIn_wide.2 s⟩⟩
      | exact h.elim
  | halt x w' => cases x <;> simp only [Oper.upon, Oper.uponIn] at h ⊢ <;> exact h

set_option maxHeartbeats 1600000 in
theorem region_turnsIn {P : Program} {ops : Array Oper} {Q : Exit → Act → World → Prop} {id lp mp : Nat} {a1 : Act} {wx : World} {n : Nat} (hm : P.follows .mixedOrders = true) (hg : goesBack ops = true) (hdf : noDefer ops = true) (hq : ¬ LetsOut Q) (hn : ops.size = n) (ds : List Nat) (hnd : ds.Nodup) (hlen : ds.length = n) (os : List Nat) (isT pure hasD : Nat → Bool) (ts : List Nat)
    (hos : ∀ i, i < n → hasD i = true → ds.getD i 0 ∈ os) (hsz : ∀ i, i < n → hasD i = true → ds.getD i 0 < a1.tmps.size) (R : Nat → Value → World → Prop) (X : Nat → List Value → World → World → Prop)
    (hT : ∀ i, isT i = true → i ∈ ts) (hTn : ∀ i ∈ ts, i < n ∧ isT i = true ∧ pure i = false) (hnod : ts.Nodup) (hD : ∀ i, i < n → isT i = false → hasD i = true)
    (hpre : ∀ l, Down ops l → ∀ i ∈ ts, l i = true → ∀ k, k < n → pure k = false → isT k = false → l k = true)
    (hord : ∀ l, Down ops l → ∀ (t : Nat) i i', ts[t]? = some i → ts[t + 1]? = some i' → l i' = true → l i = true)
    (hRT : ∀ i, isT i = true → ∀ v w, R i v w) (hX0 : ∀ vals w1 w, X 0 vals w1 w ↔ w = w1)
    (hstep : ∀ (l : Nat → Bool) (a : Act) (w : World) (i : Nat) (o : Oper) (K : Act → World → Prop), ops[i]? = some o → i < n → pure i = false → isT i = false → (∀ e ∈ o.after, Region.binds .any e = true → l e.on = true) → SameOut a1 a os → Later wx w → Known wx ds n R l a w → (∀ v w', Later w w' → R i v w' → K (a.put (some (ds.getD i 0)) v) w') → wpOp P ops Q i K a w)
    (hpure : ∀ (l : Nat → Bool) (a : Act) (w w1 : World) (i : Nat) (o : Oper) (K : Act → World → Prop), ops[i]? = some o → i < n → pure i = true → (∀ e ∈ o.after, Region.binds .any e = true → l e.on = true) → SameOut a1 a os → Later wx w1 → Known wx ds n R l a w1 → (∀ v, R i v w1 → K (a.put (some (ds.getD i 0)) v) w) → wpOp P ops Q i K a w)
    (hturn : ∀ (l : Nat → Bool) (a : Act) (w1 w : World) (t i : Nat) (o : Oper) (vals : List Value) (K : Act → World → Prop), ts[t]? = some i → ops[i]? = some o → (∀ e ∈ o.after, Region.binds .any e = true → l e.on = true) → SameOut a1 a os → Later wx w1 → Known wx ds n R l a w1 → vals.length = t → (∀ (s k : Nat) v, ts[s]? = some k → vals[s]? = some v → hasD k = true → a.eval (.tmp (ds.getD k 0)) = v) → X t vals w1 w → (∀ v w', X (t + 1) (vals ++ [v]) w1 w' → K (putD (hasD i) a (ds.getD i 0) v) w') → wpOp P ops Q i K a w)
    (hend : ∀ a w1 w vals, SameOut a1 a os → Later wx w1 → Known wx ds n R (fun _ => true) a w1 → vals.length = ts.length → (∀ (s k : Nat) v, ts[s]? = some k → vals[s]? = some v → hasD k = true → a.eval (.tmp (ds.getD k 0)) = v) → X ts.length vals w1 w → Q .normal a w) : (Code.region id ops true).wpIn (Fence.wide.inRound lp) mp P Q a1 wx := by
  refine regionIn_inv hm hg hdf hq (fun l a w => SameOut a1 a os ∧ Down ops l ∧ ∃ (j : Nat) (w1 : World) (vals : List Value), (∀ (t : Nat) i, ts[t]? = some i → (l i = true ↔ t < j)) ∧ j ≤ ts.length ∧ vals.length = j ∧ (∀ (s k : Nat) v, ts[s]? = some k → vals[s]? = some v → hasD k = true → a.eval (.tmp (ds.getD k 0)) = v) ∧ Later wx w1 ∧ Known wx ds n R l a w1 ∧ X j vals w1 w) ?_ ?_ ?_
  · intro l a w i o ho hl hwait ⟨so, dn, j, w1, vals, hj, hjb, hvl, hvs, hL, hk, hx⟩
    have hi : i < n := by rw [← hn]; exact (Array.getElem?_eq_some_iff.1 ho).1
    have hdn := dn.add ho hwait
    have hother : ∀ k, k < n → k ≠ i → ds.getD k 0 ≠ ds.getD i 0 := fun k hk e => getD_inj hnd (by omega) (by omega) e
    have hkn : ∀ v (w2 w3 : World), Later w1 w2 → Later w1 w3 → Later w2 w3 → R i v w2 → hasD i = true → Known wx ds n R (more l i) (a.put (some (ds.getD i 0)) v) w3 := by
      intro v w2 w3 h12 h13 h23 hr hd q hq hqn
      by_cases e : q = i
      · subst e
        refine ⟨w2, hL.trans h12, h23, ?_⟩
        rw [eval_put_same' _ _ _ (by rw [so.size]; exact hsz q hi hd)]
        exact hr
      · rw [more_other l e] at hq
        obtain ⟨w0, h1, h2, h3⟩ := hk q hq hqn
        refine ⟨w0, h1, h2.trans h13, ?_⟩
        rw [eval_put_other' _ _ (fun e' => hother q hqn e e'.symm)]
        exact h3
    have hvp : ∀ v, isT i = false → ∀ (s k : Nat) u, ts[s]? = some k → vals[s]? = some u → hasD k = true → (a.put (some (ds.getD i 0)) v).eval (.tmp (ds.getD k 0)) = u := fun v hns s k u h1 h2 h3 => by
      have hkt := hTn k (List.mem_of_getElem? h1)
      have hne : k ≠ i := fun e => by rw [← e, hkt.2.1] at hns; cases hns
      rw [eval_put_other' _ _ (fun e => hother k hkt.1 hne e.symm)]
      exact hvs s k u h1 h2 h3
    have hjm : isT i = false → ∀ (t : Nat) k, ts[t]? = some k → (more l i k = true ↔ t < j) := fun hns t k hb => by
      have : k ≠ i := fun e => by rw [← e, (hTn k (List.mem_of_getElem? hb)).2.1] at hns; cases hns
      rw [more_other l this]
      exact hj t k hb
    cases hs : isT i with
    | true =>
      have him := hT i hs
      obtain ⟨t, ht⟩ := List.mem_iff_getElem?.1 him
      have htl := (List.getElem?_eq_some_iff.1 ht).1
      have htj : t = j := by
        have h1 : ¬ t < j := fun h => by rw [(hj t i ht).2 h] at hl; cases hl
        rcases t with _ | t
        · omega
        · have hb' : ts[t]? = some ts[t] := List.getElem?_eq_getElem (by omega)
          have := hord _ hdn t _ i hb' ht (more_same l _)
          rw [more_other l (fun e => by
            have h2 := (List.getElem?_eq_some_iff.1 ht).2
            have h3 := (List.getElem_inj hnod).1 (e.trans h2.symm)
            omega)] at this
          have := (hj t _ hb').1 this
          omega
      subst htj
      refine hturn l a w1 w t i o vals _ ht ho hwait so hL hk hvl hvs hx fun v w' hx' => ?_
      have hso : SameOut a1 (putD (hasD i) a (ds.getD i 0) v) os := by
        unfold putD
        split
        · exact so.put (hos i hi (by assumption)) v
        · exact so
      have hoth : ∀ k, k < n → k ≠ i → (putD (hasD i) a (ds.getD i 0) v).eval (.tmp (ds.getD k 0)) = a.eval (.tmp (ds.getD k 0)) := fun k hkn hne => by
        unfold putD
        split
        · exact eval_put_other' _ _ (fun e => hother k hkn hne e.symm)
        · rfl
      refine ⟨hso, hdn, t + 1, w1, vals ++ [v], fun t' k hk' => ?_, by omega, by simp [hvl], fun s k u h1 h2 h3 => ?_, hL, fun q hq hqn => ?_, hx'⟩
      · by_cases e : k = i
        · subst e
          have h2 := (List.getElem?_eq_some_iff.1 ht).2
          have h4 := (List.getElem?_eq_some_iff.1 hk').2
          have h3 := (List.getElem_inj hnod).1 (h4.trans h2.symm)
          subst h3
          rw [more_same]
          exact ⟨fun _ => Nat.lt_succ_self _, fun _ => rfl⟩
        · rw [more_other l e, hj t' k hk']
          have : t' ≠ t := fun e' => by subst e'; rw [hk'] at ht; cases ht; exact e rfl
          omega
      · have hsl := (List.getElem?_eq_some_iff.1 h2).1
        rw [List.length_append, List.length_singleton, hvl] at hsl
        by_cases e : k = i
        · subst e
          have h4 := (List.getElem?_eq_some_iff.1 h1).2; have h5 := (List.getElem?_eq_some_iff.1 ht).2
          have h6 := (List.getElem_inj hnod).1 (h4.trans h5.symm)
          subst h6
          rw [List.getElem?_append_right (by omega), hvl, Nat.sub_self] at h2
          simp at h2
          subst h2
          unfold putD
          rw [if_pos h3]
          exact eval_put_same' _ _ _ (by rw [so.size]; exact hsz _ hi h3)
        · have hne : s ≠ t := fun e' => by subst e'; rw [h1] at ht; cases ht; exact e rfl
          rw [List.getElem?_append_left (by omega)] at h2
          rw [hoth k (hTn k (List.mem_of_getElem? h1)).1 e]
          exact hvs s k u h1 h2 h3
      · by_cases e : q = i
        · subst e
          exact ⟨w1, hL, Later.refl _, hRT _ hs _ _⟩
        · rw [more_other l e] at hq
          rw [hoth q hqn e]
          exact hk q hq hqn
    | false =>
      have hd := hD i hi hs
      cases hp : pure i with
      | true =>
        refine hpure l a w w1 i o _ ho hi hp hwait so hL hk fun v hr => ?_
        exact ⟨so.put (hos _ hi hd) v, hdn, j, w1, vals, hjm hs, hjb, hvl, hvp v hs, hL, hkn v w1 w1 (Later.refl _) (Later.refl _) (Later.refl _) hr hd, hx⟩
      | false =>
        have h0 : j = 0 := by
          rcases Nat.eq_zero_or_pos j with h | h
          · exact h
          · have hb : ts[0]? = some ts[0] := List.getElem?_eq_getElem (by omega)
            have := hpre l dn _ (List.mem_of_getElem? hb) ((hj 0 _ hb).2 h) i hi hp hs
            rw [hl] at this; cases this
        subst h0
        have hw := (hX0 _ _ _).1 hx
        subst hw
        have hv0 : vals = [] := List.eq_nil_of_length_eq_zero hvl
        subst hv0
        refine hstep l a w i o _ ho hi hp hs hwait so hL hk fun v w' hlw hr => ?_
        exact ⟨so.put (hos _ hi hd) v, hdn, 0, w', [], hjm hs, hjb, rfl, hvp v hs, hL.trans hlw, hkn v w' w' hlw hlw (Later.refl _) hr hd, (hX0 _ _ _).2 rfl⟩
  · intro l a w hall ⟨so, dn, j, w1, vals, hj, hjb, hvl, hvs, hL, hk, hx⟩
    rw [hn] at hall
    have hjl : j = ts.length := by
      rcases Nat.lt_or_ge j ts.length with h | h
      · have hb : ts[j]? = some ts[j] := List.getElem?_eq_getElem h
        have := (hj j _ hb).1 (hall _ (hTn _ (List.mem_of_getElem? hb)).1)
        omega
      · omega
    subst hjl
    exact hend a w1 w vals so hL (fun q _ hqn => hk q (hall q hqn) hqn) hvl hvs hx
  · exact ⟨SameOut.refl _ _, (fun i o _ h => by cases h), 0, { wx with drawn := wx.drawn + 1 }, [], (fun t i _ => ⟨(fun h => by cases h), fun h => by omega⟩), Nat.zero_le _, rfl, (fun s k v _ h => by simp at h), (Later.refl wx).drew, (fun k hk => by cases hk), (hX0 _ _ _).2 rfl⟩

end Go.Proofs.Ytaonfedjilfgjaa
