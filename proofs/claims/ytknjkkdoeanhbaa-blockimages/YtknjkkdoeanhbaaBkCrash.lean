/-
  What a crash leaves: Crash, as a call.
-/
import Derived.Test.YtknjkkdoeanhbaaBkBack
namespace Go.Proofs.Ytknjkkdoeanhbaa
open Go.RowKit

section
variable {W w V V' : World} {S : Nat → Prop} {g n : Nat} {d : DvP} {A : Option Addr} {xs : List Int}
theorem IntsAt.chg (h : IntsAt V A n xs) (hc : Chg S V V') (hn : 0 < n → ∀ a, A = some a → ¬ S a.block) : IntsAt V' A n xs := ⟨h.1, fun hp => by
  obtain ⟨b, o, e, hcl⟩ := h.2 hp
  exact ⟨b, o, e, fun j x hx => hc.cell (hcl j x hx) (hn hp ⟨b, o, .none⟩ e)⟩⟩
theorem IntsAt.later (h : IntsAt V A n xs) (hl : Later V V') : IntsAt V' A n xs := h.chg (S := fun _ => False) (Chg.later hl) fun _ _ _ e => e
theorem RowK.cells129 {B : Option Addr} {m : Nat} (h : RowK 129 V B m (rowL d)) {k : Nat} (hk : k < m) : ∃ b o x, B = some ⟨b, o, .none⟩ ∧ d.row[k]? = some x ∧ V.rangeAt b (o + k * 129) (wrL x) := by
  obtain ⟨b, o, e, cs, hcs, _, hcc⟩ := h.get hk
  have hkl : k < d.row.length := by have := h.len; simp only [rowL, List.length_map] at this; omega
  have hz : d.row[k]? = some d.row[k] := List.getElem?_eq_getElem hkl
  refine ⟨b, o, d.row[k], e, hz, fun i v hi => hcc i v ?_⟩
  unfold rowL at hcs
  rw [List.getElem?_map, hz] at hcs
  cases hcs
  exact hi
set_option maxRecDepth 100000 in
set_option maxHeartbeats 1600000 in
theorem crashDev_any (h : DevAt W w S g d) (hro : d.row.length ≤ 900000) (c : Nat) (hx : IntsAt w A n xs) (hn : n ≤ 1000000000) (hr : ∀ x ∈ xs, -9223372036854775808 ≤ x ∧ x ≤ 9223372036854775807) (hA : 0 < n → ∀ a, A = some a → ¬ S a.block) :
    Calls Try.prog 21 #[.pointer (some ⟨g, 0, none⟩), .slice A n c] w fun e w' => e = .returned (.tuple #[]) ∧ DevAt W w' S g (crashP d xs) ∧ Chg S w w' := by
  have HBK := Lib.hid (back_any h hro)
  have HX := Lib.hid hx; have HR := Lib.hid hr; have HA := Lib.hid hA
  have HROW := Lib.hid h.ok.row
  have HOK := Lib.hid (crashP_ok h.ok xs)
  have HSL : Hid (∀ q, S q → q < w.heap.size) := fun q hq => (h.low q hq).2
  clear h hx hr hA
  go_enter Try.func21, Try.ntmps21
  go_wp2_with fail
  refine HBK.out.mono ?_
  rintro e w1 ⟨rfl, h1, hc1⟩
  obtain ⟨b, cc, B, m, c2, hb, g1, hcc, g2, hm, hc2, hr2, sb, bg, s2⟩ := h1.parts
  have q1 := hb.cell (i := 1) rfl
  simp only [List.getElem_toArray, List.getElem_cons_zero, List.getElem_cons_succ] at q1
  have H1 := Lib.hid h1; have HC1 := Lib.hid hc1; have HM := Lib.hid hm
  have HQ1 := Lib.hid q1
  dsimp only at hm
  have hmb : m ≤ 900000 := by rw [hm]; exact hro
  clear h1 hc1 hb g1 g2 s2 hr2 hm HBK
  go_wp2_with fail
  clear q1
  go_loopg [13] (m + 1) (fun g0 s13 wr => ∃ (k : Nat) (bl : List Bs), k ≤ m ∧ m - k ≤ g0 ∧ s13 = .int .i64 (k : Nat) ∧ Hid (DevAt W wr S g { d with bl := bl }) ∧ Hid (Chg S w wr) ∧ Hid (wr.cell? ⟨g, 1, none⟩ = some (.slice B m c2)) ∧ Hid (formsP xs k (d.row.drop k) bl = formsP xs 0 d.row (backP d.bl d.row)))
  case atStart => exact ⟨0, _, Nat.zero_le _, by omega, rfl, H1, HC1, HQ1, rfl⟩
  case round =>
    obtain ⟨k, bl, hk, hg, rfl, hdv, hcg, hq1, hfm⟩ := hrel
    by_cases hlt : k < m
    · obtain ⟨b', cc', B', m', c2', hb', g1, gcc, g2, gm, gc2, gr2, gsb, gbg, gs2⟩ := hdv.out.parts
      have hq := hb'.cell (i := 1) rfl
      simp only [List.getElem_toArray, List.getElem_cons_zero, List.getElem_cons_succ] at hq
      rw [hq1.out] at hq
      cases hq
      obtain ⟨br, o, x, rfl, hz, hrg⟩ := gr2.cells129 hlt
      dsimp only at hz
      have hxr := HROW.out x (List.mem_of_getElem? hz)
      have HRG := Lib.hid hrg; have HZ := Lib.hid hz; have HXR := Lib.hid hxr
      have hwl : (wrL x).length = 129 := wrL_len hxr.2
      have HWL := Lib.hid hwl
      clear hb' g1 g2 gs2 gr2 hrg hz hxr hwl gm
      go_wp2_with (with_reducible show wpList _ _ _ ({ dst := some 17, op := Op.load 75 _, type := _, pos := _, after := _, guard := _ } :: _) _ _; refine Hid.out ?_)
      refine Lib.hid (wpList_load_mid rfl _ _ rfl br (o + k * 129) rfl (wrL x) _ HRG.out Try.underlying75 rfl (by rw [HWL.out]; exact Try.writeSize) ?_)
      refine wpList_alloc_new rfl _ rfl _ Try.writeZero ?_
      intro w2 hc2' hl2 hs2
      go_wp2_with (with_reducible show wpList _ _ _ ({ dst := none, op := Op.store 75 _ _, type := _, pos := _, after := _, guard := _ } :: _) _ _; refine Hid.out ?_)
      refine Lib.hid (wpList_store_mids rfl rfl _ _ _ rfl wr.heap.size 0 (wrL x) rfl rfl (hc2'.there (by rw [HWL.out]; simp only [Value.cells, List.size_toArray]; rw [wrL_len ⟨zeros_length 64, zeros_length 64⟩]; decide)) (by rw [HWL.out]; exact Try.writeSize) (wrL_one _) ?_)
      intro w3 hw3
      have hl3 : Later wr w3 := by
        rw [hw3]
        exact (sets_chg (g := wr.heap.size) (wrL x) w2 0).low hl2 (fun k hk => by rw [hk]; exact Nat.le_refl _)
      have hc3 : CellsAt w3 wr.heap.size (wrL x).toArray 75 := by
        have := hc2'.sets (wrL x) (o := 0)
        rw [set_all (by simp only [Value.cells, List.size_toArray]; rw [HWL.out, wrL_len ⟨zeros_length 64, zeros_length 64⟩])] at this
        rw [hw3]
        exact this
      have HL3 := Lib.hid hl3; have HC3 := Lib.hid hc3
      clear hw3 hl2 hs2 hc2' hl3 hc3 HRG
      generalize hgw : wr.heap.size = gw at HC3 ⊢
      clear hgw
      go_wp2_with fail
      refine wp_region_still_tail 5 (by kernel_rfl) (by kernel_rfl) ?_
      simp only [List.take_succ_cons, List.take_zero, List.drop_succ_cons, List.drop_zero]
      still_step
      refine wpStill_load_mid rfl _ _ rfl gw 0 rfl (wrL x) _ ((HC3.out.later ((Later.refl w3).drew)).range (o := 0) (fun j u hj => by rw [Nat.zero_add, arr_get]; exact hj)) Try.underlying75 rfl (by rw [HWL.out]; exact Try.writeSize) ?_
      still_step
      still_step
      have hld : Later wr w3.drew := HL3.out.drew
      have hin : IntsAt w3.drew A n xs := (HX.out.chg hcg.out HA.out).later hld
      still_call (formOf_any A n c xs k w3.drew hin hn HR.out)
      refine wpStill_nil ?_
      refine (show wpList _ _ _ _ _ w3.drew from ?_)
      have HT := Lib.hid (take_any (hdv.out.later hld) x (hdv.out.ok.row x (List.mem_of_getElem? HZ.out)) (formB xs k) (formB_lt xs k))
      have HQ2 := Lib.hid (hld.cell hq1.out)
      have HCW := Lib.hid (hcg.out.then hld)
      clear hin hld HL3 HC3 hdv hcg hq1
      generalize w3.drew = w4 at HT HQ2 HCW ⊢
      go_wp2_with fail
      refine HT.out.mono ?_
      rintro e w5 ⟨rfl, hd5, hc5, hq5⟩
      have HD5 := Lib.hid hd5; have HC5 := Lib.hid (HCW.out.trans hc5 fun q hq => .inl hq); have HQ5 := Lib.hid (hq5 _ HQ2.out)
      clear hd5 hc5 hq5 HT HCW HQ2
      go_wp2
      go_roundg (m - (k + 1))
      case measure => omega
      case rel =>
        refine ⟨k + 1, _, by omega, by omega, by go_num, HD5, HC5, HQ5, ?_⟩
        have hdw : d.row.drop k = x :: d.row.drop (k + 1) := by
          obtain ⟨h1, h2⟩ := List.getElem?_eq_some_iff.1 HZ.out
          rw [← h2]
          exact List.drop_eq_getElem_cons h1
        have := hfm.out
        rw [hdw] at this
        exact this
    · obtain rfl : k = m := by omega
      have hdr : d.row.drop k = [] := List.drop_of_length_le (by have := HM.out; omega)
      have hbl : bl = formsP xs 0 d.row (backP d.bl d.row) := by
        have := hfm.out
        rw [hdr] at this
        exact this
      obtain ⟨b', cc', B', m', c2', hb', g1, gcc, g2, gm, gc2, gr2, gsb, gbg, gs2⟩ := hdv.out.parts
      have z1 := hb'.frozen 1; have z3 := hb'.frozen 3; have z5 := hb'.frozen 5
      have y3 := hb'.cell (i := 3) rfl; have y5 := hb'.cell (i := 5) rfl
      have y1 := hb'.cell (i := 1) rfl
      simp only [List.getElem_toArray, List.getElem_cons_zero, List.getElem_cons_succ] at y1 y3 y5
      have HB' := Lib.hid hb'; have G1 := Lib.hid g1; have HBL := Lib.hid hbl
      clear hb' g1 g2 gs2 gr2 hfm hdr hbl gm
      go_wp2
      go_end0
      have hch : Chg (fun q => q = g) wr (((wr.setCell ⟨g, 1, none⟩ (.slice none 0 0)).setCell ⟨g, 3, none⟩ (.bool false)).setCell ⟨g, 5, none⟩ (.bool false)) := ((chg_set wr g 1 _).trans (chg_set _ g 3 _) fun _ e => .inl e).trans (chg_set _ g 5 _) fun _ e => .inl e
      refine ⟨rfl, ?_, hcg.out.trans hch fun q hq => .inl (by rw [hq]; exact hdv.out.mem)⟩
      refine hdv.out.box (d' := crashP d xs) hch (((HB'.out.set1 1 (.slice none 0 0)).set1 3 (.bool false)).set1 5 (.bool false)) ?_ (OwnK.nil hdv.out.base) (fun q hq => by cases hq; exact ⟨gsb, gbg⟩) (fun q hq => by cases hq) HOK.out
      have e : blL (crashP d xs) = blL { d with bl := bl } := by unfold blL crashP; rw [HBL.out]
      rw [e]
      exact G1.out
end

end Go.Proofs.Ytknjkkdoeanhbaa
