import Derived.Test.YtaonfedjilfgjaaPk16

/-
  What the law BlockHalves comes to, as a call.
-/
namespace Go.Proofs.Ytaonfedjilfgjaa
open Go.RowKit

/-- What the law's loop keeps. -/
structure HvLp (W w : World) (S : Nat → Prop) (g g8 k : Nat) (d : DvP) (s : StP) (LA : Option Addr) (ln lc : Nat) (RA : Option Addr) (rn rc : Nat) : Prop where
  dev : DevAt W w S g d
  st : StAt w LA ln RA rn s
  box : CellsAt w g8 #[.slice LA ln lc, .slice RA rn rc, .int .i64 (s.ops : Nat), .int .i64 s.fuse, .bool s.down] 30
  rel : Rel d s
  ops : d.ops ≤ k
  row : d.row.length ≤ k
  f0 : -1 ≤ s.fuse
  f1 : s.fuse ≤ 9223372036854775807
  g8w : W.heap.size ≤ g8
  g8n : ¬ S g8
  len : ln = d.bl.length
  la : ∀ a, LA = some a → a.block < w.heap.size ∧ ¬ S a.block ∧ a.block ≠ g8
  ra : ∀ a, RA = some a → a.block < w.heap.size ∧ ¬ S a.block ∧ a.block ≠ g8
section
variable {w w' : World} {S : Nat → Prop} {LA RA : Option Addr} {ln rn : Nat} {s : StP}
theorem StAt.chg (h : StAt w LA ln RA rn s) (hc : Chg S w w') (h1 : ∀ a, LA = some a → ¬ S a.block) (h2 : ∀ a, RA = some a → ¬ S a.block) : StAt w' LA ln RA rn s := ⟨RowK.chg h.l hc h1, RowK.chg h.row hc h2, h.sz, h.rz, h.nil⟩
theorem StAt.lLt (h : StAt w LA ln RA rn s) (h0 : 0 < ln) : ∀ a, LA = some a → a.block < w.heap.size := fun a ha => by
  obtain ⟨b, o, e, hr, h64⟩ := h.getL h0
  rw [ha] at e
  cases e
  exact lt_of_cell (hr 0 _ (List.getElem?_eq_getElem (show 0 < (Lib.byteCells (s.l.getD 0 [])).length by rw [bc_len, h64]; decide)))
theorem StAt.rLt (h : StAt w LA ln RA rn s) : ∀ a, RA = some a → a.block < w.heap.size := fun a ha => by
  rcases Nat.eq_zero_or_pos rn with h0 | h0
  · rw [h.nil h0] at ha
    cases ha
  · obtain ⟨b, o, x, e, _, hc, _⟩ := h.getR h0
    rw [ha] at e
    cases e
    exact lt_of_cell hc
end

theorem Try.rblockArr : Try.prog.underlying 47 = some (.array (Try.prog.arrayLen 47) (Try.prog.elem 47)) := by kernel_rfl
theorem Try.rblockLen : Try.prog.arrayLen 47 = 64 := by kernel_rfl
theorem Try.rblockElem : Try.prog.elem 47 = 5 := by kernel_rfl
theorem size5 (w : World) : (sizeOf 5).run Try.prog w = .ok 1 w := by kernel_rfl
/-- A half of a block, cut. -/
theorem slice_half (w : World) (b p at_ : Nat) (ha : at_ ≤ 32) : (Instr.sliceAt 47 (.pointer (some ⟨b, p, none⟩)) (some (.int .i64 (at_ : Nat))) (some (.int .i64 ((at_ : Nat) + 32))) none).run Try.prog w = .ok (.slice (some ⟨b, p + at_, none⟩) 32 (64 - at_)) w := by
  rw [run_sliceAt_array_lh w _ _ Try.rblockArr _ _ _ _ (by omega) (by omega) (by rw [Try.rblockLen]; omega), Try.rblockElem, Try.rblockLen, size5]
  show Result.ok (slicedAt _ _ _ _ _) w = _
  unfold slicedAt
  rw [if_neg (by omega), show ((at_ : Nat) : Int).toNat = at_ by omega, show (((at_ : Nat) : Int) + 32).toNat = at_ + 32 by omega, Nat.mul_one, plain_add, show at_ + 32 - at_ = 32 by omega]
theorem Try.rwriteSize : (Try.prog.info? 49).map (·.size) = some 65 := by kernel_rfl
theorem StAt.getW {w : World} {A B : Option Addr} {n m : Nat} {s : StP} (h : StAt w A n B m s) {k : Nat} (hk : k < m) : ∃ b o x, B = some ⟨b, o, .none⟩ ∧ s.row[k]? = some x ∧ w.rangeAt b (o + k * 65) (rowC x) ∧ x.2.length = 64 := by
  obtain ⟨b, o, e, cs, hcs, _, hc⟩ := h.row.get hk
  have hkl : k < s.row.length := by rw [h.rlen]; exact hk
  have hz : s.row[k]? = some s.row[k] := List.getElem?_eq_getElem hkl
  rw [List.getElem?_map, hz] at hcs
  cases hcs
  exact ⟨b, o, s.row[k], e, hz, fun i v hi => hc i v hi, h.rz _ (List.getElem_mem hkl)⟩
theorem BsAt.half {w : World} {b o at_ : Nat} {bs : Bs} (h : BsAt w (some ⟨b, o, .none⟩) 64 bs) (ha : at_ ≤ 32) : BsAt w (some ⟨b, o + at_, .none⟩) 32 (halfB bs at_) := by
  refine ⟨by unfold halfB; rw [List.length_take, List.length_drop, h.1]; omega, fun _ => ⟨b, o + at_, rfl, fun j x hx => ?_⟩⟩
  obtain ⟨b', o', e, hcl⟩ := h.2 (by omega)
  cases e
  unfold halfB at hx
  rw [List.getElem?_take] at hx
  split at hx
  · rw [List.getElem?_drop] at hx
    rw [Nat.add_assoc]
    exact hcl _ x hx
  · cases hx
theorem half_range {w : World} {b o at_ : Nat} {bs : Bs} (h : w.rangeAt b o (Lib.byteCells bs)) (h64 : bs.length = 64) (ha : at_ ≤ 32) : BsAt w (some ⟨b, o + at_, .none⟩) 32 (halfB bs at_) := by
  refine BsAt.half ⟨h64, fun _ => ⟨b, o, rfl, fun j x hx => ?_⟩⟩ ha
  exact h j _ (by unfold Lib.byteCells; rw [List.getElem?_map, hx]; rfl)

set_option maxRecDepth 100000 in
set_option maxHeartbeats 6400000 in
theorem blockHalves_walk (cnt : Int) (A : Option Addr) (m c : Nat) (xs : List OpC) (A2 : Option Addr) (n2 c2 : Nat) (fs : List Int) (w : World) (hc0 : -9223372036854775808 ≤ cnt) (hc1 : cnt ≤ 9223372036854775807) (hx : Script w A m xs) (hf : IntsAt w A2 n2 fs) (hfr : ∀ z ∈ fs, -9223372036854775808 ≤ z ∧ z ≤ 9223372036854775807) :
    Calls Try.prog 4 #[.int .i64 cnt, .slice A m c, .slice A2 n2 c2] w fun e w' => e = .returned (.bool true) ∧ Later w w' := by
  have HX := Lib.hid hx; have HF := Lib.hid hf; have HFR := Lib.hid hfr
  obtain ⟨z, hz⟩ : ∃ z, z = fewZ m (weighO xs) := ⟨_, rfl⟩
  have HC := Lib.hid (few10_any A m c xs w hx)
  rw [← hz] at HC
  have HZ : Hid (z ≤ 0 → m ≤ 80 ∧ weighO xs ≤ 8000) := by
    show _ → _
    intro h0
    rw [hz] at h0
    unfold fewZ at h0
    split at h0
    · omega
    · omega
  have HCN := Lib.hid (And.intro hc0 hc1)
  clear hx hz hc0 hc1 hf hfr
  generalize hRR : (fun (e : Ending) (w' : World) => e = .returned (.bool true) ∧ Later w w') = RR
  have HRR : Hid (∀ e w', (e = .returned (.bool true) ∧ Later w w') → RR e w') := fun e w' h => by rw [← hRR]; exact h
  clear hRR
  go_enter Try.func4, Try.ntmps4
  go_wp2_with fail
  refine HC.out.mono ?_
  rintro e w1 ⟨rfl, hl1⟩
  have HL1 := Lib.hid hl1
  have HA := Lib.hid (alive10_any w1)
  clear hl1 HC
  by_cases h1 : 0 < z
  · go_wp2_with fail
    refine HA.out.mono ?_
    rintro e w2 ⟨rfl, hl2⟩
    go_wp2
    exact HRR.out _ _ ⟨rfl, HL1.out.trans hl2⟩
  · by_cases h2 : 12 < cnt
    · go_wp2_with fail
      refine HA.out.mono ?_
      rintro e w2 ⟨rfl, hl2⟩
      go_wp2
      exact HRR.out _ _ ⟨rfl, HL1.out.trans hl2⟩
    · by_cases h3 : 100 < n2
      · have h3' : (100 : Int) < (n2 : Int) := by omega
        go_wp2_with fail
        refine HA.out.mono ?_
        rintro e w2 ⟨rfl, hl2⟩
        go_wp2
        exact HRR.out _ _ ⟨rfl, HL1.out.trans hl2⟩
      · have h3' : ¬ ((100 : Int) < (n2 : Int)) := by omega
        have hm80 := (HZ.out (by omega)).1
        have HW8 := Lib.hid (HZ.out (by omega)).2
        have HC := Lib.hid (newDev_any (w := w1) (W := w) cnt HCN.out.1 HCN.out.2 HL1.out)
        clear HA HZ HL1
        go_wp2_with fail
        refine HC.out.mono ?_
        rintro e w2 ⟨g, S0, rfl, hd2, _, -⟩
        have HD2 := Lib.hid hd2
        have HC := Lib.hid (newRef_any cnt w2)
        clear hd2
        go_wp2_with fail
        refine HC.out.mono ?_
        rintro e w3 ⟨V, cv, rfl, hst, hl3, hV⟩
        have hla : Later w3 (w3.alloc (.cells #[.slice V (countN cnt) cv, .slice none 0 0, .int .i64 0, .int .i64 (-1), .bool false] 30)) := (Later.refl w3).alloc _
        have HLP : Hid (HvLp w (w3.alloc (.cells #[.slice V (countN cnt) cv, .slice none 0 0, .int .i64 0, .int .i64 (-1), .bool false] 30)) S0 g w3.heap.size 0 (newP (countN cnt)) (newR (countN cnt)) V (countN cnt) cv none 0 0) := by
          have hlow : ∀ q, S0 q → q < w2.heap.size := fun q hq => (HD2.out.low q hq).2
          have hle := hl3.le
          have hlt := hst.lLt (countN_lo cnt)
          have hsz : (w3.alloc (.cells #[.slice V (countN cnt) cv, .slice none 0 0, .int .i64 0, .int .i64 (-1), .bool false] 30)).heap.size = w3.heap.size + 1 := World.size_alloc _ _
          refine ⟨(HD2.out.later hl3).later hla, hst.later hla, CellsAt.made _ _ _, Rel.new _, Nat.le_refl _, Nat.le_refl _, (by show (-1 : Int) ≤ -1; decide), (by show (-1 : Int) ≤ 9223372036854775807; decide), (HD2.out.base.trans hl3).le, (fun h => by have := hlow _ h; omega), (by show countN cnt = (List.replicate (countN cnt) (zeros 64)).length; rw [List.length_replicate]), fun a ha => ⟨by have := hlt a ha; omega, (fun h => by have h1 := hlow _ h; have h2 := hV a ha; omega), by have := hlt a ha; omega⟩, fun a ha => by cases ha⟩
        have HCQ : Hid (countN cnt ≤ 4096) := countN_hi cnt
        clear hst hl3 hla HC HD2 hV
        go_wp2
        go_loopg [40] (m + 1) (fun g0 s40 wr => ∃ (k : Nat) (d : DvP) (S : Nat → Prop) (s : StP) (LA : Option Addr) (ln lc : Nat) (RA : Option Addr) (rn rc : Nat), k ≤ m ∧ m - k ≤ g0 ∧ s40 = .int .i64 (k : Nat) ∧ Hid (HvLp w wr S g w3.heap.size k d s LA ln lc RA rn rc))
        case atStart => exact ⟨0, _, S0, _, V, _, cv, none, 0, 0, Nat.zero_le _, by omega, rfl, HLP⟩
        case round =>
          clear HLP
          obtain ⟨k, d, S, s, LA, ln, lc, RA, rn, rc, hk, hg, rfl, hlp⟩ := hrel
          by_cases hlt : k < m
          · obtain ⟨b, o, ⟨kd, k0, A1, n1, c1, bs, F, m1, e1, fs1⟩, rfl, hzx, hok, g0, g1, g2, g3⟩ := (HX.out.later hlp.out.dev.base).get hlt
            dsimp only at g0 g1 g2 g3
            have HOK : Hid (OpOk w ⟨kd, k0, A1, n1, c1, bs, F, m1, e1, fs1⟩) := HX.out.each _ (List.mem_of_getElem? hzx)
            have HN1 : Hid (n1 ≤ 100000) := by
              show _ ≤ _
              have h1 := weighO_mem (List.mem_of_getElem? hzx)
              have h2 := HW8.out
              dsimp only at h1
              omega
            clear hok hzx
            have hy3 : kd.tmod 3 < 3 := Int.tmod_lt_of_pos kd (by decide)
            have HOKY : Hid (∀ w', Later w w' → OpOk w' ⟨kd.tmod 3, k0, A1, n1, c1, bs, none, 0, 0, []⟩) := fun w' hl' => by
              have h := HOK.out.later hl'
              exact ⟨h.bytes, ⟨rfl, fun h => absurd h (Nat.lt_irrefl 0)⟩, h.room, Nat.le_refl _, h.klo, h.khi, fun z hz => by cases hz⟩
            go_wp2_with fail
            refine (does10_all (hlp.out.dev.later ((Later.refl wr).alloc _)) (by have := hlp.out.ops; omega) (by have := hlp.out.row; omega) ⟨kd.tmod 3, k0, A1, n1, c1, bs, none, 0, 0, []⟩ (HOKY.out _ (hlp.out.dev.base.trans ((Later.refl wr).alloc _))) (by dsimp only; omega) (by dsimp only; omega)).mono ?_
            rintro e5 w7 ⟨S7, rfl, hd7, hup, hc7⟩
            have hla := (Later.refl wr).alloc (.cells #[.int .i64 kd, .int .i64 k0, .slice A1 n1 c1, .slice F m1 e1] 36)
            have hst7 := (hlp.out.st.later hla).chg hc7 (fun a ha => (hlp.out.la a ha).2.1) (fun a ha => (hlp.out.ra a ha).2.1)
            have hbox7 := (hlp.out.box.later hla).chg hc7 hlp.out.g8n
            have hmade := CellsAt.made wr #[.int .i64 kd, .int .i64 k0, .slice A1 n1 c1, .slice F m1 e1] 36
            have hnw : ¬ S wr.heap.size := fun h => by have := (hlp.out.dev.low _ h).2; omega
            have y0 : w7.cell? ⟨wr.heap.size, 0, none⟩ = some (.int .i64 kd) := hc7.cell (hmade.cell rfl) hnw
            have y1 : w7.cell? ⟨wr.heap.size, 1, none⟩ = some (.int .i64 k0) := hc7.cell (hmade.cell rfl) hnw
            have y2 : w7.cell? ⟨wr.heap.size, 2, none⟩ = some (.slice A1 n1 c1) := hc7.cell (hmade.cell rfl) hnw
            have q0 : w7.cell? ⟨w3.heap.size, 0, none⟩ = some (.slice LA ln lc) := hbox7.cell rfl
            have q1 : w7.cell? ⟨w3.heap.size, 1, none⟩ = some (.slice RA rn rc) := hbox7.cell rfl
            have q2 : w7.cell? ⟨w3.heap.size, 2, none⟩ = some (.int .i64 (s.ops : Nat)) := hbox7.cell rfl
            have q3 : w7.cell? ⟨w3.heap.size, 3, none⟩ = some (.int .i64 s.fuse) := hbox7.cell rfl
            have q4 : w7.cell? ⟨w3.heap.size, 4, none⟩ = some (.bool s.down) := hbox7.cell rfl
            have HLW : Hid (Later w w7) := hd7.base
            have HOK7 : Hid (OpOk w7 ⟨kd.tmod 3, k0, A1, n1, c1, bs, none, 0, 0, []⟩) := HOKY.out _ HLW.out
            have hgl := hlp.out.box.lt
            have hrl : rn = d.row.length := by rw [← hlp.out.st.rlen, hlp.out.rel.row, List.length_map]
            have HCD := Lib.hid (do_all hst7 lc rc ⟨kd.tmod 3, k0, A1, n1, c1, bs, none, 0, 0, []⟩ (by dsimp only; omega) HOK7.out HN1.out (by rw [← hlp.out.rel.ops]; have := hlp.out.ops; omega) (by have := hlp.out.f0; omega) hlp.out.f1 (by have := hlp.out.row; omega) (by rw [hlp.out.len]; exact hlp.out.dev.ok.most))
            have HREL := Lib.hid (doQ_rel hlp.out.rel hlp.out.dev.ok ⟨kd.tmod 3, k0, A1, n1, c1, bs, none, 0, 0, []⟩).1
            have HSM := Lib.hid (doQ_small d ⟨kd.tmod 3, k0, A1, n1, c1, bs, none, 0, 0, []⟩)
            have HFU := Lib.hid (doR_fuse (s := s) ⟨kd.tmod 3, k0, A1, n1, c1, bs, none, 0, 0, []⟩ ⟨HOK.out.klo, HOK.out.khi⟩ hlp.out.f0 hlp.out.f1)
            have HD7 := Lib.hid hd7; have HB7 := Lib.hid hbox7
            have HOPS := Lib.hid hlp.out.ops; have HROW := Lib.hid hlp.out.row
            have HGN : Hid (¬ S7 w3.heap.size) := fun h => (hup _ h).elim hlp.out.g8n fun h2 => by have := hla.le; omega
            have HGW := Lib.hid hlp.out.g8w
            have HOLD : Hid (∀ a : Addr, (LA = some a ∨ RA = some a) → a.block < w7.heap.size ∧ ¬ S7 a.block ∧ a.block ≠ w3.heap.size) := fun a ha => by
              have h1 : a.block < wr.heap.size ∧ ¬ S a.block ∧ a.block ≠ w3.heap.size := ha.elim (hlp.out.la a) (hlp.out.ra a)
              have h2 := hla.le
              have h3 := hc7.size
              exact ⟨by omega, fun h => (hup _ h).elim h1.2.1 fun h4 => by omega, h1.2.2⟩
            have HG7 : Hid (w3.heap.size < w7.heap.size) := hbox7.lt
            generalize hyy : (⟨kd.tmod 3, k0, A1, n1, c1, bs, none, 0, 0, []⟩ : OpC) = y at *
            clear hd7 hup hc7 hla hst7 hbox7 hmade hnw hlp hgl hrl
            go_wp2_with fail
            rw [← hyy] at HCD
            refine HCD.out.mono ?_
            rw [hyy]
            rintro e6 w8 ⟨LA', ln', lc', RA', rn', rc', rfl, hst8, hl8, hA8, hB8⟩
            have HB8 := Lib.hid (HB7.out.later hl8)
            have HL8 := Lib.hid (HLW.out.trans hl8)
            go_wp2_with (with_reducible show wpList _ _ _ ({ dst := none, op := Op.store _ _ _, type := _, pos := _, after := _, guard := _ } :: _) _ _; refine Hid.out ?_)
            refine Lib.hid (wpList_store_mids rfl rfl _ _ _ rfl w3.heap.size 0 [.slice LA' ln' lc', .slice RA' rn' rc', .int .i64 ((doR s y).1.ops : Nat), .int .i64 (doR s y).1.fuse, .bool (doR s y).1.down] rfl rfl (HB8.out.there (Nat.le_refl _)) Try.stateSize (fun v hv => by
              simp only [List.mem_cons, List.not_mem_nil, or_false] at hv
              rcases hv with rfl | rfl | rfl | rfl | rfl <;> rfl) ?_)
            intro w9 hw9
            have hb9 : CellsAt w9 w3.heap.size #[.slice LA' ln' lc', .slice RA' rn' rc', .int .i64 ((doR s y).1.ops : Nat), .int .i64 (doR s y).1.fuse, .bool (doR s y).1.down] 30 := by
              have := HB8.out.sets [.slice LA' ln' lc', .slice RA' rn' rc', .int .i64 ((doR s y).1.ops : Nat), .int .i64 (doR s y).1.fuse, .bool (doR s y).1.down] (o := 0)
              rw [hw9]
              exact this
            have hch9 : Chg (fun q => q = w3.heap.size) w8 w9 := by rw [hw9]; exact sets_chg _ _ _
            have hl9 : Later w w9 := hch9.low HL8.out (fun q hq => by rw [hq]; exact HGW.out)
            have hrw : ∀ a : Addr, (LA' = some a ∨ RA' = some a) → a.block < w8.heap.size → a.block < w9.heap.size ∧ ¬ S7 a.block ∧ a.block ≠ w3.heap.size := fun a ha hlt8 => by
              have h9 := hch9.size
              have h7 := HG7.out
              have ho : (LA = some a ∨ RA = some a) ∨ w7.heap.size ≤ a.block := by
                rcases ha with ha | ha
                · rcases hA8 a ha with h | h
                  · exact .inl (.inl (by rw [← h]; exact ha))
                  · exact .inr h
                · rcases hB8 a ha with h | h
                  · exact .inl (.inr (by rw [← h]; exact ha))
                  · exact .inr h
              rcases ho with ho | ho
              · have := HOLD.out a ho
                exact ⟨by omega, this.2.1, this.2.2⟩
              · exact ⟨by omega, fun h => by have := (HD7.out.low _ h).2; omega, by omega⟩
            have hlen' : ln' = (doQ d y).1.bl.length := by rw [← hst8.len]; exact HREL.out.len
            have hlpos : 0 < ln' := by rw [hlen']; exact HD7.out.ok.one
            have HEND : Hid (HvLp w w9 S7 g w3.heap.size (k + 1) (doQ d y).1 (doR s y).1 LA' ln' lc' RA' rn' rc') := ⟨(HD7.out.later hl8).chg hch9 (fun q hq e => HGN.out (by rw [← e]; exact hq)) hl9, hst8.chg hch9 (fun a ha => (hrw a (.inl ha) (hst8.lLt hlpos a ha)).2.2) (fun a ha => (hrw a (.inr ha) (hst8.rLt a ha)).2.2), hb9, HREL.out, (by have := HSM.out.1; have := HOPS.out; omega), (by have := HSM.out.2.1; have := HROW.out; omega), HFU.out.1, HFU.out.2, HGW.out, HGN.out, hlen', (fun a ha => hrw a (.inl ha) (hst8.lLt hlpos a ha)), fun a ha => hrw a (.inr ha) (hst8.rLt a ha)⟩
            clear hw9 hb9 hch9 hl9 hrw hlen' hlpos hst8 hl8 hA8 hB8 HB8 HL8 HCD HREL HSM HFU HD7 HB7 HOPS HROW HGN HGW HOLD HG7 HOKY HOK7 HLW y0 y1 y2 q0 q1 q2 q3 q4
            refine Lib.hid ?_
            go_wp2
            go_roundg (m - (k + 1))
            case measure => omega
            case rel => exact ⟨k + 1, _, S7, _, LA', ln', lc', RA', rn', rc', by omega, by omega, by go_num, HEND⟩
          · obtain rfl : k = m := by omega
            have HWW : Hid (Later w wr) := hlp.out.dev.base
            have HC := Lib.hid (crashDev_any hlp.out.dev (by have := hlp.out.row; omega) c2 (HF.out.later hlp.out.dev.base) (by omega) HFR.out (fun h0 a ha h => by
              have h1 := HF.out.lt h0 a ha
              have h2 := (hlp.out.dev.low _ h).1
              omega))
            go_wp2_with fail
            refine HC.out.mono ?_
            rintro e w5 ⟨rfl, hd5, hc5⟩
            have HD5 := Lib.hid hd5
            have HST5 := Lib.hid (hlp.out.st.chg hc5 (fun a ha => (hlp.out.la a ha).2.1) (fun a ha => (hlp.out.ra a ha).2.1))
            have HB5 := Lib.hid (hlp.out.box.chg hc5 hlp.out.g8n)
            have hbk : backP d.bl d.row = s.l := hlp.out.rel.lost.back
            have hok := hlp.out.dev.ok
            have HFM : Hid (∀ at_, at_ = 0 ∨ at_ = 32 → ∀ k, k < ln → halfB ((crashP d fs).bl.getD k []) at_ = halfB (s.l.getD k []) at_ ∨ ∃ x ∈ s.row, x.1 = (k : Int) ∧ halfB ((crashP d fs).bl.getD k []) at_ = halfB x.2 at_) := fun at_ ha k hk => by
              have h1 := forms_half fs (k := k) ha d.row 0 (backP d.bl d.row) (by rw [backP_length, ← hlp.out.len]; exact hk) (backP_size hok.size fun x hx => (hok.row x hx).2.1) (fun x hx => by rw [backP_length]; exact ⟨(hok.row x hx).1, (hok.row x hx).2.2⟩)
              rw [hbk] at h1
              rcases h1 with h1 | ⟨x, hx, e, h1⟩
              · left
                show halfB ((formsP fs 0 d.row (backP d.bl d.row)).getD k []) at_ = _
                rw [hbk]
                exact h1
              · right
                refine ⟨((x.pl : Int), x.is), ?_, (by show (x.pl : Int) = (k : Int); rw [e]), ?_⟩
                · rw [hlp.out.rel.row]
                  exact List.mem_map.2 ⟨x, hx, rfl⟩
                · show halfB ((formsP fs 0 d.row (backP d.bl d.row)).getD k []) at_ = _
                  rw [hbk]
                  exact h1
            have HCL : Hid ((crashP d fs).bl.length = ln) := by
              show (formsP fs 0 d.row (backP d.bl d.row)).length = _
              rw [formsP_length, backP_length, hlp.out.len]
            have hln : ln ≤ 4096 := by rw [hlp.out.len]; exact hok.most
            have hrn : rn ≤ 900000 := by
              have h1 : rn = d.row.length := by rw [← hlp.out.st.rlen, hlp.out.rel.row, List.length_map]
              have := hlp.out.row
              omega
            have HC := Lib.hid (imageDev_any HD5.out)
            clear hd5 hc5 hbk hok hlp
            go_wp2_with fail
            refine HC.out.mono ?_
            rintro e w6 ⟨v, rfl, hv, hl6⟩
            obtain ⟨ib, ic, rfl, hcc, hib, hbs⟩ := own_bs_at hv (image_pos HD5.out)
            have HIL : Hid ((imageP (crashP d fs)).length = ln * 64) := by
              show _ = _
              unfold imageP
              rw [flat64 HD5.out.ok.size, HCL.out]
            have HST6 := Lib.hid (HST5.out.later hl6); have HB6 := Lib.hid (HB5.out.later hl6)
            have HL6 := Lib.hid (HD5.out.base.trans hl6)
            rw [HIL.out] at hbs hcc
            have HG : Hid (∀ k, k < ln → BsAt w6 (some ⟨ib, k * 64, none⟩) 64 ((crashP d fs).bl.getD k [])) := fun k hk => by
              have h1 := hbs.sub64 (k := k) (by omega)
              unfold imageP at h1
              rw [flat_get HD5.out.ok.size (by rw [HCL.out]; exact hk)] at h1
              exact h1
            generalize hG : (crashP d fs).bl = G at HFM HG
            rw [HIL.out]
            clear hv hl6 hib hbs HC HST5 HB5 HD5 HCL HIL hG HWW
            have q0 : w6.cell? ⟨w3.heap.size, 0, none⟩ = some (.slice LA ln lc) := HB6.out.cell rfl
            go_wp2
            go_loopg [76] (ln + 1) (fun g0 s76 wr2 => ∃ (j : Nat), j ≤ ln ∧ ln - j ≤ g0 ∧ s76 = .int .i64 (j : Nat) ∧ Hid (Later w6 wr2))
            case atStart => exact ⟨0, Nat.zero_le _, by omega, rfl, Later.refl _⟩
            case round =>
              rename World => wk
              clear q0
              obtain ⟨K, hK, hg2, rfl, hl2⟩ := hrel
              by_cases hKn : K < ln
              · have hl3 : Later wk (wk.alloc (.cells #[.int .i64 0, .int .i64 32] 3)) := (Later.refl wk).alloc _
                have HL3 := Lib.hid (hl2.out.trans hl3)
                have HCC : Hid (CellsAt (wk.alloc (.cells #[.int .i64 0, .int .i64 32] 3)) wk.heap.size #[.int .i64 0, .int .i64 32] 3) := CellsAt.made _ _ _
                clear hl3
                go_wp2
                go_loopg [81] 3 (fun g0 s81 wj => ∃ (j : Nat), j ≤ 2 ∧ 2 - j ≤ g0 ∧ s81 = .int .i64 (j : Nat) ∧ Hid (Later w6 wj) ∧ Hid (CellsAt wj wk.heap.size #[.int .i64 0, .int .i64 32] 3))
                case atStart => exact ⟨0, by omega, by omega, rfl, HL3.out, HCC.out⟩
                case round =>
                  rename World => wj
                  clear HL3 HCC
                  obtain ⟨j, hj, hgj, rfl, hl4, hcc4⟩ := hrel
                  by_cases hj2 : j < 2
                  · obtain ⟨at_, hat, c0⟩ : ∃ at_ : Nat, (at_ = 0 ∨ at_ = 32) ∧ wj.cell? ⟨wk.heap.size, j, none⟩ = some (.int .i64 (at_ : Nat)) := by
                      rcases (by omega : j = 0 ∨ j = 1) with rfl | rfl
                      · exact ⟨0, .inl rfl, hcc4.out.cell rfl⟩
                      · exact ⟨32, .inr rfl, hcc4.out.cell rfl⟩
                    have HAT := Lib.hid hat
                    have ha32 : at_ ≤ 32 := by omega
                    clear hat
                    have q0 : wj.cell? ⟨w3.heap.size, 0, none⟩ = some (.slice LA ln lc) := (HB6.out.later hl4.out).cell rfl
                    obtain ⟨lb, lo, hLA, hrg, h64⟩ := (HST6.out.later hl4.out).getL hKn
                    have HGOT : Hid (BsAt wj (some ⟨ib, K * 64 + at_, none⟩) 32 (halfB (G.getD K []) at_)) := by
                      show BsAt _ _ _ _
                      exact ((HG.out K hKn).later hl4.out).half ha32
                    have HBAS : Hid (BsAt wj (some ⟨lb, lo + K * 64 + at_, none⟩) 32 (halfB (s.l.getD K []) at_)) := by
                      show BsAt _ _ _ _
                      exact half_range hrg h64 ha32
                    subst hLA
                    have hSL := slice_half wj lb (lo + K * 64) at_ ha32
                    have hs1 : K * 64 + at_ + 32 ≤ ic := by omega
                    have hs2 : ¬ ic = K * 64 + at_ := by omega
                    have hs3 : ¬ 64 = at_ := by omega
                    have hs4 : at_ + 32 ≤ 64 := by omega
                    have HC := Lib.hid (bytesEqual_any (c := ic - (K * 64 + at_)) (e := 64 - at_) HGOT.out HBAS.out)
                    have q1 : wj.cell? ⟨w3.heap.size, 1, none⟩ = some (.slice RA rn rc) := (HB6.out.later hl4.out).cell rfl
                    clear hrg h64
                    go_wp2_with fail
                    refine HC.out.mono ?_
                    rintro e w99 ⟨rfl, e9⟩
                    obtain rfl := e9.symm
                    clear e9 HC hSL c0
                    obtain ⟨b0, hb0⟩ : ∃ b0, b0 = decide (halfB (G.getD K []) at_ = halfB (s.l.getD K []) at_) := ⟨_, rfl⟩
                    rw [← hb0]
                    have HB0 : Hid (b0 = false → halfB (G.getD K []) at_ ≠ halfB (s.l.getD K []) at_) := fun e => by
                      rw [e] at hb0
                      exact of_decide_eq_false hb0.symm
                    clear hb0 HBAS
                    go_wp2
                    go_loopg [16, 109] (rn + 1) (fun g0 s16 s109 wi => ∃ (i : Nat) (b : Bool), i ≤ rn ∧ rn - i ≤ g0 ∧ s16 = .bool b ∧ s109 = .int .i64 (i : Nat) ∧ Hid (Later wj wi) ∧ Hid (b = false → halfB (G.getD K []) at_ ≠ halfB (s.l.getD K []) at_ ∧ ∀ (x : Int × Bs) (q : Nat), q < i → s.row[q]? = some x → ¬ (x.1 = (K : Int) ∧ halfB (G.getD K []) at_ = halfB x.2 at_)))
                    case atStart => exact ⟨0, b0, Nat.zero_le _, by omega, rfl, rfl, Later.refl _, fun e => ⟨HB0.out e, fun x q hq => absurd hq (Nat.not_lt_zero _)⟩⟩
                    case round =>
                      clear HB0
                      rename World => wi
                      obtain ⟨i, b, hi, hgi, rfl, rfl, hl7, hbb⟩ := hrel
                      by_cases hin : i < rn
                      · obtain ⟨rb, ro, ⟨kx, bx⟩, hRA, hx, hrg, h64⟩ := (HST6.out.later (hl4.out.trans hl7.out)).getW hin
                        subst hRA
                        dsimp only at h64
                        have HRG := Lib.hid hrg; have HH64 := Lib.hid h64; have HX := Lib.hid hx
                        clear hrg h64 hx q0 q1
                        go_wp2_with (with_reducible show wpList _ _ _ ({ dst := some 112, op := Op.load _ _, type := _, pos := _, after := _, guard := _ } :: _) _ _; refine Hid.out ?_)
                        refine Lib.hid (wpList_load_mid rfl _ _ rfl rb (ro + i * 65) rfl (rowC (kx, bx)) _ HRG.out Try.underlying49 rfl (by rw [rowC_len (x := (kx, bx)) HH64.out]; exact Try.rwriteSize) ?_)
                        refine wpList_alloc_new rfl _ rfl _ Try.rwriteZero ?_
                        intro w8 hc8 hl8 _
                        refine wpList_store_mids rfl rfl _ _ _ rfl wi.heap.size 0 (rowC (kx, bx)) rfl rfl (hc8.there (by simp only [Value.cells, List.size_toArray]; rw [rowC_len (x := (kx, bx)) HH64.out, rowC_len (x := (0, zeros 64)) (zeros_length 64)]; decide)) (by rw [rowC_len (x := (kx, bx)) HH64.out]; exact Try.rwriteSize) (rowC_one _) ?_
                        intro w9 hw9
                        have hc9 : CellsAt w9 wi.heap.size (rowC (kx, bx)).toArray 49 := by
                          have := hc8.sets (rowC (kx, bx)) (o := 0)
                          rw [set_all (by simp only [Value.cells, List.size_toArray]; rw [rowC_len (x := (kx, bx)) HH64.out, rowC_len (x := (0, zeros 64)) (zeros_length 64)])] at this
                          rw [hw9]
                          exact this
                        have hch9 : Chg (fun q => q = wi.heap.size) w8 w9 := by rw [hw9]; exact sets_chg _ _ _
                        have hl9 : Later wi w9 := hch9.low hl8 (fun q hq => by rw [hq]; exact Nat.le_refl _)
                        have HL9 := Lib.hid (hl7.out.trans hl9)
                        have hxr : w9.rangeAt wi.heap.size 1 (Lib.byteCells bx) := hc9.range fun j u hj => by
                          rw [List.getElem?_toArray, Nat.add_comm]
                          exact hj
                        have HXB : Hid (BsAt w9 (some ⟨wi.heap.size, 1 + at_, none⟩) 32 (halfB bx at_)) := by
                          show BsAt _ _ _ _
                          exact half_range hxr HH64.out ha32
                        have c0 : w9.cell? ⟨wi.heap.size, 0, none⟩ = some (.int .i64 kx) := hc9.cell rfl
                        clear hw9 hc8 hl8 hc9 hch9 hl9 hxr HRG HH64
                        refine Lib.hid ?_
                        cases b with
                        | true =>
                          clear HXB
                          go_wp2
                          go_roundg (rn - (i + 1))
                          case measure => omega
                          case rel => exact ⟨i + 1, true, by omega, by omega, rfl, by go_num, HL9.out, fun e => by cases e⟩
                        | false =>
                          by_cases hkx : kx = (K : Int)
                          · subst hkx
                            have hSL := slice_half w9 wi.heap.size 1 at_ ha32
                            have HC := Lib.hid (bytesEqual_any (c := ic - (K * 64 + at_)) (e := 64 - at_) (HGOT.out.later HL9.out) HXB.out)
                            clear HXB
                            go_wp2_with fail
                            refine HC.out.mono ?_
                            rintro e w99 ⟨rfl, e9⟩
                            obtain rfl := e9.symm
                            clear e9 HC hSL
                            obtain ⟨b1, hb1⟩ : ∃ b1, b1 = decide (halfB (G.getD K []) at_ = halfB bx at_) := ⟨_, rfl⟩
                            rw [← hb1]
                            have HB1 : Hid (b1 = false → halfB (G.getD K []) at_ ≠ halfB (s.l.getD K []) at_ ∧ ∀ (x : Int × Bs) (q : Nat), q < i + 1 → s.row[q]? = some x → ¬ (x.1 = (K : Int) ∧ halfB (G.getD K []) at_ = halfB x.2 at_)) := fun e => by
                              have h1 := hbb.out (by first | rfl | trivial)
                              rw [e] at hb1
                              have h2 := of_decide_eq_false hb1.symm
                              refine ⟨h1.1, fun x q hq hxq => ?_⟩
                              by_cases hqi : q < i
                              · exact h1.2 x q hqi hxq
                              · obtain rfl : q = i := by omega
                                rw [HX.out] at hxq
                                cases hxq
                                exact fun h => h2 h.2
                            clear hb1 hbb
                            go_wp2
                            go_roundg (rn - (i + 1))
                            case measure => omega
                            case rel => exact ⟨i + 1, b1, by omega, by omega, rfl, by go_num, HL9.out, HB1.out⟩
                          · have HB1 : Hid (false = false → halfB (G.getD K []) at_ ≠ halfB (s.l.getD K []) at_ ∧ ∀ (x : Int × Bs) (q : Nat), q < i + 1 → s.row[q]? = some x → ¬ (x.1 = (K : Int) ∧ halfB (G.getD K []) at_ = halfB x.2 at_)) := fun _ => by
                              have h1 := hbb.out (by first | rfl | trivial)
                              refine ⟨h1.1, fun x q hq hxq => ?_⟩
                              by_cases hqi : q < i
                              · exact h1.2 x q hqi hxq
                              · obtain rfl : q = i := by omega
                                rw [HX.out] at hxq
                                cases hxq
                                exact fun h => hkx h.1
                            clear hbb HXB
                            go_wp2
                            go_roundg (rn - (i + 1))
                            case measure => omega
                            case rel => exact ⟨i + 1, false, by omega, by omega, rfl, by go_num, HL9.out, fun _ => HB1.out (by first | rfl | trivial)⟩
                      · obtain rfl : i = rn := by omega
                        obtain rfl : b = true := by
                          cases b with
                          | true => rfl
                          | false =>
                            exfalso
                            have h1 := hbb.out (by first | rfl | trivial)
                            rcases HFM.out at_ HAT.out K hKn with h2 | ⟨x, hx, h2, h3⟩
                            · exact h1.1 h2
                            · obtain ⟨q, hq⟩ := List.getElem?_of_mem hx
                              have hql := (List.getElem?_eq_some_iff.1 hq).1
                              rw [HST6.out.rlen] at hql
                              exact h1.2 x q hql hq ⟨h2, h3⟩
                        have HEC := Lib.hid (hcc4.out.later hl7.out); have HEL := Lib.hid (hl4.out.trans hl7.out)
                        clear hbb
                        go_wp2
                        go_roundg (2 - (j + 1))
                        case measure => omega
                        case rel => exact ⟨j + 1, by omega, by omega, by go_num, HEL.out, HEC.out⟩
                  · obtain rfl : j = 2 := by omega
                    go_wp2
                    go_roundg (ln - (K + 1))
                    case measure => omega
                    case rel => exact ⟨K + 1, by omega, by omega, by go_num, hl4.out⟩
              · have HLW := Lib.hid (HL6.out.trans hl2.out)
                go_wp2_with fail
                refine (alive10_any _).mono ?_
                rintro e w7 ⟨rfl, hl7⟩
                go_wp2
                exact HRR.out _ _ ⟨rfl, HLW.out.trans hl7⟩

end Go.Proofs.Ytaonfedjilfgjaa

/-
  A crash, plain: the reference's state behind it is the device's; a block that takes its form byte by byte; all kinds of calls.
-/
namespace Go.Proofs.Ytaonfedjilfgjaa

def wrOf (x : Int × Bs) : WrP := ⟨x.1.toNat, [], x.2⟩
def formsR (fs : List Int) (k : Nat) (row : List (Int × Bs)) (l : List Bs) : List Bs := formsP fs k (row.map wrOf) l
def crashR (s : StP) (fs : List Int) : StP := ⟨formsR fs 0 s.row s.l, [], s.ops, -1, false⟩
theorem formsP_was (fs : List Int) : ∀ (row : List WrP) (k : Nat) (l : List Bs), formsP fs k ((row.map fun x => ((x.pl : Int), x.is)).map wrOf) l = formsP fs k row l
  | [], _, _ => rfl
  | x :: row, k, l => by
    rw [List.map_cons, List.map_cons, formsP, formsP_was fs row, formsP]
    rfl
theorem Rel.crash {d : DvP} {s : StP} (h : Rel d s) (fs : List Int) : Rel (crashP d fs) (crashR s fs) := by
  have e : (crashR s fs).l = (crashP d fs).bl := by
    show formsP fs 0 (s.row.map wrOf) s.l = formsP fs 0 d.row (backP d.bl d.row)
    rw [h.row, formsP_was, h.lost.back]
  exact ⟨by rw [e]; exact ⟨rfl, rfl⟩, rfl, h.ops, rfl, fun _ => rfl⟩
theorem formsR_ok (fs : List Int) {row : List (Int × Bs)} {l : List Bs} (hz : ∀ b ∈ l, b.length = 64) (hr : ∀ x ∈ row, 0 ≤ x.1 ∧ x.1 < (l.length : Nat) ∧ x.2.length = 64) : (formsR fs 0 row l).length = l.length ∧ ∀ b ∈ formsR fs 0 row l, b.length = 64 :=
  ⟨formsP_length .., formsP_size fs _ 0 l hz fun x hx => by
    obtain ⟨y, hy, rfl⟩ := List.mem_map.1 hx
    obtain ⟨h1, h2, h3⟩ := hr y hy
    exact ⟨by show y.1.toNat < _; omega, h3⟩⟩
theorem formsR_step (fs : List Int) {row : List (Int × Bs)} {l : List Bs} {k : Nat} {x : Int × Bs} (hx : row[k]? = some x) : formsR fs 0 (row.take (k + 1)) l = takeB (formsR fs 0 (row.take k) l) (wrOf x) (formB fs k) := by
  have hk := (List.getElem?_eq_some_iff.1 hx).1
  unfold formsR
  rw [List.take_add_one, hx, List.map_append]
  show formsP fs 0 (_ ++ [wrOf x]) l = _
  rw [formsP_snoc]
  congr 2
  rw [List.length_map, List.length_take]
  omega
/-- What a call makes of a device, and of a state. -/
def doB (d : DvP) (x : OpC) : DvP × Int := if x.kind = 3 then (crashP d x.fs, 0) else doQ d x
def doS (s : StP) (x : OpC) : StP × Int := if x.kind = 3 then (crashR s x.fs, 0) else doR s x
theorem doB_rel {d : DvP} {s : StP} (h : Rel d s) (hok : DvOk d) (x : OpC) : Rel (doB d x).1 (doS s x).1 ∧ (doB d x).2 = (doS s x).2 := by
  unfold doB doS
  split
  · exact ⟨h.crash x.fs, rfl⟩
  · exact doQ_rel h hok x
theorem doB_small (d : DvP) (x : OpC) : (doB d x).1.ops ≤ d.ops + 1 ∧ (doB d x).1.row.length ≤ d.row.length + 1 ∧ (doB d x).1.bl.length = d.bl.length := by
  unfold doB
  split
  · refine ⟨Nat.le_succ _, Nat.zero_le _, ?_⟩
    show (formsP x.fs 0 d.row (backP d.bl d.row)).length = _
    rw [formsP_length, backP_length]
  · exact doQ_small d x
theorem doS_fuse {s : StP} (x : OpC) (hk : -9223372036854775808 ≤ x.k ∧ x.k ≤ 9223372036854775807) (h0 : -1 ≤ s.fuse) (h1 : s.fuse ≤ 9223372036854775807) : -1 ≤ (doS s x).1.fuse ∧ (doS s x).1.fuse ≤ 9223372036854775807 := by
  unfold doS
  split
  · show (-1 : Int) ≤ -1 ∧ (-1 : Int) ≤ _
    omega
  · exact doR_fuse x hk h0 h1

/-! ### A block takes its form byte by byte -/
def onB (f j : Nat) : Prop := f = 1 ∨ (f = 2 ∧ j < 32) ∨ (f = 3 ∧ 32 ≤ j)
def partB (f j : Nat) (now is : Bs) : Bs := (mixB f now is).take j ++ now.drop j
section
variable {f j : Nat} {now is : Bs}
theorem partB_zero : partB f 0 now is = now := by simp [partB]
theorem partB_all (h1 : now.length = 64) (h2 : is.length = 64) : partB f 64 now is = mixB f now is := by
  have hm := mixB_length (f := f) h1 h2
  unfold partB
  rw [List.take_of_length_le (by omega), List.drop_of_length_le (by omega), List.append_nil]
theorem partB_length (h1 : now.length = 64) (h2 : is.length = 64) (hj : j ≤ 64) : (partB f j now is).length = 64 := by
  have hm := mixB_length (f := f) h1 h2
  unfold partB
  rw [List.length_append, List.length_take, List.length_drop]
  omega
theorem partB_get (h1 : now.length = 64) (h2 : is.length = 64) (hj : j ≤ 64) (i : Nat) : (partB f j now is)[i]? = if i < j then (mixB f now is)[i]? else now[i]? := by
  have hm := mixB_length (f := f) h1 h2
  unfold partB
  by_cases hi : i < j
  · rw [if_pos hi, List.getElem?_append_left (by rw [List.length_take]; omega), List.getElem?_take, if_pos hi]
  · rw [if_neg hi, List.getElem?_append_right (by rw [List.length_take]; omega), List.length_take, List.getElem?_drop]
    congr 1
    omega
theorem mix_on (h1 : now.length = 64) (h2 : is.length = 64) (h : onB f j) (hj : j < 64) : (mixB f now is)[j]? = is[j]? := by
  unfold mixB
  rcases h with rfl | ⟨rfl, h⟩ | ⟨rfl, h⟩
  · rfl
  · rw [if_neg (by decide), if_pos rfl, List.getElem?_append_left (by rw [List.length_take]; omega), List.getElem?_take, if_pos h]
  · rw [if_neg (by decide), if_neg (by decide), if_pos rfl, List.getElem?_append_right (by rw [List.length_take]; omega), List.length_take, List.getElem?_drop]
    congr 1
    omega
theorem mix_off (h1 : now.length = 64) (h2 : is.length = 64) (h : ¬ onB f j) (hj : j < 64) : (mixB f now is)[j]? = now[j]? := by
  unfold onB at h
  unfold mixB
  split
  · exact absurd (.inl ‹_›) h
  · split
    · subst f
      rw [List.getElem?_append_right (by rw [List.length_take]; omega), List.length_take, List.getElem?_drop]
      congr 1
      omega
    · split
      · subst f
        rw [List.getElem?_append_left (by rw [List.length_take]; omega), List.getElem?_take, if_pos (by omega)]
      · rfl
theorem partB_off (h1 : now.length = 64) (h2 : is.length = 64) (h : ¬ onB f j) (hj : j < 64) : partB f (j + 1) now is = partB f j now is := by
  apply List.ext_getElem?
  intro i
  rw [partB_get h1 h2 (by omega), partB_get h1 h2 (by omega)]
  by_cases hi : i < j
  · rw [if_pos (by omega), if_pos hi]
  · by_cases he : i = j
    · subst he
      rw [if_pos (by omega), if_neg hi, mix_off h1 h2 h hj]
    · rw [if_neg (by omega), if_neg hi]
theorem partB_on (h1 : now.length = 64) (h2 : is.length = 64) (h : onB f j) (hj : j < 64) (i : Nat) : (partB f (j + 1) now is)[i]? = if i = j then is[j]? else (partB f j now is)[i]? := by
  rw [partB_get h1 h2 (by omega), partB_get h1 h2 (by omega)]
  by_cases hi : i < j
  · rw [if_pos (by omega), if_neg (by omega), if_pos hi]
  · by_cases he : i = j
    · subst he
      rw [if_pos (by omega), if_pos rfl, mix_on h1 h2 h hj]
    · rw [if_neg (by omega), if_neg he, if_neg hi]
end

end Go.Proofs.Ytaonfedjilfgjaa
