/-
  What a form of a write leaves: take, as a call.
-/
import Derived.Test.YtknjkkdoeanhbaaBkRead
import Derived.Test.YtknjkkdoeanhbaaBkLaws
import Derived.Test.YtknjkkdoeanhbaaBkImage
namespace Go.Proofs.Ytknjkkdoeanhbaa
open Go.RowKit

section
variable {W w w' : World} {S : Nat → Prop} {g : Nat} {d : DvP}
/-- Its blocks are written anew. -/
theorem DevAt.blocks (h : DevAt W w S g d) {b c m c2 : Nat} {B : Option Addr} {bl' : List Bs} (hb : CellsAt w g #[.slice (some ⟨b, 0, none⟩) d.bl.length c, .slice B m c2, .int .i64 (d.ops : Nat), .bool d.armed, .int .i64 d.left, .bool d.down] 67) (h2 : OwnK 75 129 W w (.slice B m c2) (rowL d)) (sb : S b) (bg : b ≠ g) (s2 : ∀ q, (Value.slice B m c2).ownBlock = some q → S q ∧ q ≠ g ∧ q ≠ b)
    (hch : Chg (fun q => q = b) w w') (h1 : OwnK 73 64 W w' (.slice (some ⟨b, 0, none⟩) d.bl.length c) (bl'.map Lib.byteCells)) (hl : bl'.length = d.bl.length) (hs : ∀ x ∈ bl', x.length = 64) : DevAt W w' S g { d with bl := bl' } := by
  have hlt := h1.2.2
  refine ⟨⟨_, _, hb.chg hch (fun e => bg e.symm), h1, h2.chg hch (fun q hq e => (s2 q hq).2.2 e) hlt, (fun q hq => by cases hq; exact sb), fun q hq => (s2 q hq).1⟩, ?_, h.mem, fun k hk => ⟨(h.low k hk).1, Nat.lt_of_lt_of_le (h.low k hk).2 hch.size⟩, hlt⟩
  exact ⟨by rw [hl]; exact h.ok.one, by rw [hl]; exact h.ok.most, hs, (fun x hx => by rw [hl]; exact h.ok.row x hx), h.ok.lo, h.ok.hi, h.ok.arm⟩
theorem bc_take (k : Nat) (b : Bs) : Lib.byteCells (b.take k) = (Lib.byteCells b).take k := by simp [Lib.byteCells]
theorem bc_drop (k : Nat) (b : Bs) : Lib.byteCells (b.drop k) = (Lib.byteCells b).drop k := by simp [Lib.byteCells]
theorem mix2 (a b : Bs) : Lib.byteCells (mixB 2 a b) = (Lib.byteCells b).take 32 ++ (Lib.byteCells a).drop 32 := by
  show Lib.byteCells (b.take 32 ++ a.drop 32) = _
  rw [bc_app, bc_take, bc_drop]
theorem mix3 (a b : Bs) : Lib.byteCells (mixB 3 a b) = (Lib.byteCells a).take 32 ++ (Lib.byteCells b).drop 32 := by
  show Lib.byteCells (a.take 32 ++ b.drop 32) = _
  rw [bc_app, bc_take, bc_drop]
theorem mix2_in {a b : Bs} (i : Nat) (u : Value) (h : ((Lib.byteCells b).take 32)[i]? = some u) : (Lib.byteCells (mixB 2 a b))[0 + i]? = some u := by
  have hi := (List.getElem?_eq_some_iff.1 h).1
  rw [Nat.zero_add, mix2, List.getElem?_append_left hi]
  exact h
theorem mix2_out {a b : Bs} (hv : ((Lib.byteCells b).take 32).length = 32) (i : Nat) (h : i < 0 ∨ 0 + ((Lib.byteCells b).take 32).length ≤ i) : (Lib.byteCells (mixB 2 a b))[i]? = (Lib.byteCells a)[i]? := by
  rw [mix2, List.getElem?_append_right (by omega), hv, List.getElem?_drop]
  congr 1
  omega
theorem mix3_in {a b : Bs} (ha : (Lib.byteCells a).length = 64) (i : Nat) (u : Value) (h : ((Lib.byteCells b).drop 32)[i]? = some u) : (Lib.byteCells (mixB 3 a b))[32 + i]? = some u := by
  rw [mix3, List.getElem?_append_right (by rw [List.length_take, ha]; omega), List.length_take, ha]
  rw [show 32 + i - min 32 64 = i by omega]
  exact h
theorem mix3_out {a b : Bs} (ha : (Lib.byteCells a).length = 64) (hb : (Lib.byteCells b).length = 64) (i : Nat) (h : i < 32 ∨ 32 + ((Lib.byteCells b).drop 32).length ≤ i) : (Lib.byteCells (mixB 3 a b))[i]? = (Lib.byteCells a)[i]? := by
  rw [List.length_drop, hb] at h
  rw [mix3]
  by_cases hi : i < 32
  · rw [List.getElem?_append_left (by rw [List.length_take, ha]; omega), List.getElem?_take, if_pos hi]
  · rw [List.getElem?_append_right (by rw [List.length_take, ha]; omega), List.getElem?_eq_none (by rw [List.length_take, ha, List.length_drop, hb]; omega), List.getElem?_eq_none (by rw [ha]; omega)]
set_option maxRecDepth 100000 in
set_option maxHeartbeats 800000 in
theorem take_any (h : DevAt W w S g d) (x : WrP) (hx : x.pl < d.bl.length ∧ x.was.length = 64 ∧ x.is.length = 64) (f : Nat) (hf : f < 4) :
    Calls Try.prog 39 #[.pointer (some ⟨g, 0, none⟩), .agg (wrL x).toArray, .int .i64 (f : Nat)] w fun e w' => e = .returned (.tuple #[]) ∧ DevAt W w' S g { d with bl := takeB d.bl x f } ∧ Chg S w w' ∧ ∀ u, w.cell? ⟨g, 1, none⟩ = some u → w'.cell? ⟨g, 1, none⟩ = some u := by
  obtain ⟨b, cc, B, m, c2, hb, h1, hc, h2, hm, hc2, hr2, sb, bg, s2⟩ := h.parts
  have hl1 : Later w (w.alloc (.cells (wrL x).toArray 75)) := (Later.refl w).alloc _
  have hbx := CellsAt.made w (wrL x).toArray 75
  have hmost := h.ok.most
  have H := Lib.hid (h.later hl1); have HB := Lib.hid (hb.later hl1); have H1 := Lib.hid (h1.on hl1); have H2 := Lib.hid (h2.on hl1); have HS := Lib.hid s2; have HL := Lib.hid hl1
  have q0 := (hb.later hl1).cell (i := 0) rfl
  have p0 : (w.alloc (.cells (wrL x).toArray 75)).cell? ⟨w.heap.size, 0, none⟩ = some (.int .i64 (x.pl : Nat)) := hbx.cell (by rw [arr_get]; rfl)
  simp only [List.getElem_toArray, List.getElem_cons_zero] at q0
  have HBX := Lib.hid hbx
  have HQ1 : Hid (w.cell? ⟨g, 1, none⟩ = some (.slice B m c2)) := hb.cell (i := 1) rfl
  have HX := Lib.hid hx
  have hpl := hx.1
  have hzb : d.bl.getD x.pl [] = d.bl[x.pl] := by simp [List.getD, hpl]
  have hz1 : (blL d)[x.pl]? = some (Lib.byteCells (d.bl.getD x.pl [])) := by rw [hzb]; simp [blL, hpl]
  have hnow : (d.bl.getD x.pl []).length = 64 := by rw [hzb]; exact h.ok.size _ (List.getElem_mem hpl)
  have HZ := Lib.hid hz1; have HN := Lib.hid hnow
  have HSZ := Lib.hid (takeB_size h.ok.size ⟨hx.1, hx.2.2⟩ f)
  have hf4 : f = 0 ∨ f = 1 ∨ f = 2 ∨ f = 3 := by omega
  clear h hb h1 h2 s2 hm hc2 hr2 hbx hx hzb hz1 hnow hl1
  go_enter Try.func39, Try.ntmps39
  go_wp2_with fail
  generalize hgx : w.heap.size = gx at p0 HBX ⊢
  have HGX := Lib.hid hgx
  clear hgx
  generalize w.alloc (.cells (wrL x).toArray 75) = w1 at *
  go_still (by kernel_rfl)
  refine (show Exit.then _ _ Exit.normal _ w1.drew from ?_)
  have hd : Later w1 w1.drew := (Later.refl w1).drew
  replace H := Lib.hid (H.out.later hd); replace HB := Lib.hid (HB.out.later hd); replace H1 := Lib.hid (H1.out.on hd); replace H2 := Lib.hid (H2.out.on hd); replace HL := Lib.hid (HL.out.trans hd); replace HBX := Lib.hid (HBX.out.later hd)
  clear hd p0 q0
  generalize w1.drew = w2 at *
  have HIS : Hid (w2.rangeAt gx 65 (Lib.byteCells x.is)) := HBX.out.range fun j u hj => by rw [arr_get, wrL_is HX.out.2.1]; exact hj
  have HLI : Hid ((Lib.byteCells x.is).length = 64) := by show _ = _; rw [bc_len]; exact HX.out.2.2
  have HLN : Hid ((Lib.byteCells (d.bl.getD x.pl [])).length = 64) := by show _ = _; rw [bc_len]; exact HN.out
  -- what the store leaves
  have FIN : Hid (∀ (w0 : World), Later w2 w0 → ∀ (p : Nat) (vs : List Value) (w' : World), p + vs.length ≤ 64 → w' = w0.setCells b (x.pl * 64 + p) vs → (∀ i u, vs[i]? = some u → (Lib.byteCells (mixB f (d.bl.getD x.pl []) x.is))[p + i]? = some u) → (∀ i, i < p ∨ p + vs.length ≤ i → (Lib.byteCells (mixB f (d.bl.getD x.pl []) x.is))[i]? = (Lib.byteCells (d.bl.getD x.pl []))[i]?) →
      DevAt W w' S g { d with bl := takeB d.bl x f } ∧ Chg S w w' ∧ ∀ u, w.cell? ⟨g, 1, none⟩ = some u → w'.cell? ⟨g, 1, none⟩ = some u) := by
    intro w0 hl0 p vs w' hp hw' hin hout
    have hch : Chg (fun q => q = b) w0 w' := by rw [hw']; exact sets_chg _ _ _
    have h5 := (H1.out.on hl0).set (p := p) HZ.out hp (by rw [bc_len]; exact mixB_length (f := f) HN.out HX.out.2.2) hin hout
    rw [← hw'] at h5
    refine ⟨(H.out.later hl0).blocks (HB.out.later hl0) (H2.out.on hl0) sb bg HS.out hch ?_ (takeB_length x f) HSZ.out, (Chg.later (HL.out.trans hl0)).trans hch (fun q hq => .inl (by rw [hq]; exact sb)), fun u hu => ?_⟩
    rotate_left
    · rw [HQ1.out] at hu
      cases hu
      exact hch.cell ((HB.out.later hl0).cell rfl) (fun e => bg e.symm)
    have e : (takeB d.bl x f).map Lib.byteCells = (blL d).set x.pl (Lib.byteCells (mixB f (d.bl.getD x.pl []) x.is)) := by simp [takeB, blL, List.map_set]
    rw [e]
    exact h5
  rcases hf4 with rfl | rfl | rfl | rfl
  · go_wp2
    go_end0
    have := FIN.out w2 (Later.refl w2) 0 [] w2 (by decide) rfl (fun i u hi => by simp at hi) (fun i _ => rfl)
    exact ⟨rfl, this⟩
  · go_wp2_with (with_reducible show wpList _ _ _ ({ dst := some 19, op := Op.load 73 _, type := _, pos := _, after := _, guard := _ } :: _) _ _; refine Hid.out ?_)
    refine Lib.hid (wpList_load_mid rfl _ _ rfl gx 65 rfl (Lib.byteCells x.is) _ HIS.out Try.underlying73 rfl (by rw [HLI.out]; exact Try.cellSize) ?_)
    go_wp2_with (with_reducible show wpList _ _ _ ({ dst := none, op := Op.store 73 _ _, type := _, pos := _, after := _, guard := _ } :: _) _ _; refine Hid.out ?_)
    refine Lib.hid (wpList_store_mids rfl rfl _ _ _ rfl b (x.pl * 64) (Lib.byteCells x.is) rfl rfl (by
      have := H1.out.there (j := x.pl) (p := 0) (q := 64) (by simpa [blL] using hpl) (by decide)
      rw [HLI.out]
      exact this) (by rw [HLI.out]; exact Try.cellSize) (bc_one _) ?_)
    intro w3 hw3
    have hfin := FIN.out w2 (Later.refl w2) 0 (Lib.byteCells x.is) w3 (by rw [HLI.out]; decide) hw3 (fun i u hi => by rw [Nat.zero_add]; exact hi) (fun i hi => by
      rw [List.getElem?_eq_none (by have := HLI.out; show (Lib.byteCells x.is).length ≤ i; omega), List.getElem?_eq_none (by have := HLI.out; have := HLN.out; omega)])
    have HFIN := Lib.hid hfin
    clear hfin hw3
    go_wp2
    go_end0
    exact ⟨rfl, HFIN.out⟩
  · go_wp2_with fail
    refine wp_region_still_tail 5 (by kernel_rfl) (by kernel_rfl) ?_
    simp only [List.take_succ_cons, List.take_zero, List.drop_succ_cons, List.drop_zero]
    repeat still_step
    refine wpStill_nil ?_
    refine (show wpList _ _ _ _ _ w2.drew from ?_)
    have HV : Hid (((Lib.byteCells x.is).take 32).length = 32) := by
      have := HLI.out
      show _ = _
      rw [List.length_take, this]
      rfl
    refine wpList_copy_mid rfl _ _ _ _ rfl 5 Try.underlying33 Try.byteSize (some ⟨b, x.pl * 64, none⟩) (some ⟨gx, 65, none⟩) 32 64 32 64 rfl rfl b (x.pl * 64) ((Lib.byteCells x.is).take 32) (by rw [HV.out]; rfl) (fun _ => ⟨rfl, _, rfl, fun j u hj => ?_⟩) ?_ (fun v hv => bc_one _ v (List.mem_of_mem_take hv)) ?_
    · rw [plain_add]
      exact (Later.refl w2).drew.cell (HIS.out j u (by
        rw [List.getElem?_take] at hj
        split at hj
        · exact hj
        · cases hj))
    · have := (H1.out.on (Later.refl w2).drew).there (j := x.pl) (p := 0) (q := 32) (by simpa [blL] using hpl) (by decide)
      rw [HV.out]
      exact this
    intro w3 hw3
    have hfin := FIN.out w2.drew (Later.refl w2).drew 0 _ w3 (by rw [HV.out]; decide) hw3 mix2_in (mix2_out HV.out)
    have HFIN := Lib.hid hfin
    clear hfin hw3
    go_wp2
    go_end0
    exact ⟨rfl, HFIN.out⟩
  · go_wp2_with fail
    refine wp_region_still_tail 5 (by kernel_rfl) (by kernel_rfl) ?_
    simp only [List.take_succ_cons, List.take_zero, List.drop_succ_cons, List.drop_zero]
    repeat still_step
    refine wpStill_nil ?_
    refine (show wpList _ _ _ _ _ w2.drew from ?_)
    have HV : Hid (((Lib.byteCells x.is).drop 32).length = 32) := by
      have := HLI.out
      show _ = _
      rw [List.length_drop, this]
    refine wpList_copy_mid rfl _ _ _ _ rfl 5 Try.underlying33 Try.byteSize (some ⟨b, x.pl * 64 + 32, none⟩) (some ⟨gx, 65 + 32, none⟩) 32 32 32 32 rfl rfl b (x.pl * 64 + 32) ((Lib.byteCells x.is).drop 32) (by rw [HV.out]; rfl) (fun _ => ⟨rfl, _, rfl, fun j u hj => ?_⟩) ?_ (fun v hv => bc_one _ v (List.mem_of_mem_drop hv)) ?_
    · rw [plain_add, Nat.add_assoc]
      exact (Later.refl w2).drew.cell (HIS.out _ u (by rw [List.getElem?_drop] at hj; exact hj))
    · have := (H1.out.on (Later.refl w2).drew).there (j := x.pl) (p := 32) (q := 32) (by simpa [blL] using hpl) (by decide)
      rw [HV.out]
      exact this
    intro w3 hw3
    have hfin := FIN.out w2.drew (Later.refl w2).drew 32 _ w3 (by rw [HV.out]; decide) hw3 (mix3_in HLN.out) (mix3_out HLN.out HLI.out)
    have HFIN := Lib.hid hfin
    clear hfin hw3
    go_wp2
    go_end0
    exact ⟨rfl, HFIN.out⟩
end

end Go.Proofs.Ytknjkkdoeanhbaa
