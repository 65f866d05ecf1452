import Derived.Test.YtaonfedjilfgjaaPk18
import Derived.Test.YtaonfedjilfgjaaPk19

/-
  What the law BlockAll comes to, as a call.
-/
namespace Go.Proofs.Ytaonfedjilfgjaa
open Go.RowKit

theorem Rel.rows {d : DvP} {s : StP} (h : Rel d s) (hok : DvOk d) : ∀ x ∈ s.row, 0 ≤ x.1 ∧ x.1 < (d.bl.length : Nat) := fun x hx => by
  rw [h.row] at hx
  obtain ⟨z, hz, rfl⟩ := List.mem_map.1 hx
  have := (hok.row z hz).1
  show 0 ≤ (z.pl : Int) ∧ (z.pl : Int) < _
  omega
theorem HvLp.later {W w w' : World} {S : Nat → Prop} {g g8 k : Nat} {d : DvP} {s : StP} {LA : Option Addr} {ln lc : Nat} {RA : Option Addr} {rn rc : Nat} (h : HvLp W w S g g8 k d s LA ln lc RA rn rc) (hl : Later w w') : HvLp W w' S g g8 k d s LA ln lc RA rn rc :=
  ⟨h.dev.later hl, h.st.later hl, h.box.later hl, h.rel, h.ops, h.row, h.f0, h.f1, h.g8w, h.g8n, h.len, fun a ha => ⟨Nat.lt_of_lt_of_le (h.la a ha).1 hl.le, (h.la a ha).2⟩, fun a ha => ⟨Nat.lt_of_lt_of_le (h.ra a ha).1 hl.le, (h.ra a ha).2⟩⟩
set_option maxRecDepth 100000 in
set_option maxHeartbeats 6400000 in
theorem blockAll_walk (cnt : Int) (A : Option Addr) (m c : Nat) (xs : List OpC) (w : World) (hc0 : -9223372036854775808 ≤ cnt) (hc1 : cnt ≤ 9223372036854775807) (hx : Script w A m xs) :
    Calls Try.prog 3 #[.int .i64 cnt, .slice A m c] w fun e w' => e = .returned (.bool true) ∧ Later w w' := by
  have HX := Lib.hid hx
  obtain ⟨z, hz⟩ : ∃ z, z = fewZ m (weighO xs) := ⟨_, rfl⟩
  have HC := Lib.hid (few10_any A m c xs w hx)
  rw [← hz] at HC
  have HZ : Hid (z ≤ 0 → m ≤ 80 ∧ weighO xs ≤ 8000) := by
    show _ → _
    intro h0
    rw [hz] at h0
    unfold fewZ at h0
    split at h0
    · omega
    · omega
  have HCN := Lib.hid (And.intro hc0 hc1)
  clear hx hz hc0 hc1
  generalize hRR : (fun (e : Ending) (w' : World) => e = .returned (.bool true) ∧ Later w w') = RR
  have HRR : Hid (∀ e w', (e = .returned (.bool true) ∧ Later w w') → RR e w') := fun e w' h => by rw [← hRR]; exact h
  clear hRR
  go_enter Try.func3, Try.ntmps3
  go_wp2_with fail
  refine HC.out.mono ?_
  rintro e w1 ⟨rfl, hl1⟩
  have HL1 := Lib.hid hl1
  have HA := Lib.hid (alive10_any w1)
  clear hl1 HC
  by_cases h1 : 0 < z
  · go_wp2_with fail
    refine HA.out.mono ?_
    rintro e w2 ⟨rfl, hl2⟩
    go_wp2
    exact HRR.out _ _ ⟨rfl, HL1.out.trans hl2⟩
  · by_cases h2 : 20 < cnt
    · go_wp2_with fail
      refine HA.out.mono ?_
      rintro e w2 ⟨rfl, hl2⟩
      go_wp2
      exact HRR.out _ _ ⟨rfl, HL1.out.trans hl2⟩
    · have hm80 := (HZ.out (by omega)).1
      have HW8 := Lib.hid (HZ.out (by omega)).2
      have HC := Lib.hid (newDev_any (w := w1) (W := w) cnt HCN.out.1 HCN.out.2 HL1.out)
      clear HA HZ HL1
      go_wp2_with fail
      refine HC.out.mono ?_
      rintro e w2 ⟨g, S0, rfl, hd2, _, -⟩
      have HD2 := Lib.hid hd2
      have HC := Lib.hid (newRef_any cnt w2)
      clear hd2
      go_wp2_with fail
      refine HC.out.mono ?_
      rintro e w3 ⟨V, cv, rfl, hst, hl3, hV⟩
      have hla : Later w3 (w3.alloc (.cells #[.slice V (countN cnt) cv, .slice none 0 0, .int .i64 0, .int .i64 (-1), .bool false] 30)) := (Later.refl w3).alloc _
      have HLP : Hid (HvLp w (w3.alloc (.cells #[.slice V (countN cnt) cv, .slice none 0 0, .int .i64 0, .int .i64 (-1), .bool false] 30)) S0 g w3.heap.size 0 (newP (countN cnt)) (newR (countN cnt)) V (countN cnt) cv none 0 0) := by
        have hlow : ∀ q, S0 q → q < w2.heap.size := fun q hq => (HD2.out.low q hq).2
        have hle := hl3.le
        have hlt := hst.lLt (countN_lo cnt)
        have hsz : (w3.alloc (.cells #[.slice V (countN cnt) cv, .slice none 0 0, .int .i64 0, .int .i64 (-1), .bool false] 30)).heap.size = w3.heap.size + 1 := World.size_alloc _ _
        refine ⟨(HD2.out.later hl3).later hla, hst.later hla, CellsAt.made _ _ _, Rel.new _, Nat.le_refl _, Nat.le_refl _, (by show (-1 : Int) ≤ -1; decide), (by show (-1 : Int) ≤ 9223372036854775807; decide), (HD2.out.base.trans hl3).le, (fun h => by have := hlow _ h; omega), (by show countN cnt = (List.replicate (countN cnt) (zeros 64)).length; rw [List.length_replicate]), fun a ha => ⟨by have := hlt a ha; omega, (fun h => by have h1 := hlow _ h; have h2 := hV a ha; omega), by have := hlt a ha; omega⟩, fun a ha => by cases ha⟩
      have hcq := countN_hi cnt
      have HC := Lib.hid (stands_any HLP.out.dev HLP.out.st (new_same (countN cnt)) (by decide) (by omega) cv 0)
      clear hst hl3 hla HD2 hV
      go_wp2_with fail
      refine HC.out.mono ?_
      rintro e w5 ⟨rfl, hl5⟩
      replace HLP := Lib.hid (HLP.out.later hl5)
      clear HC hl5 hcq
      go_wp2
      go_loopg [5, 35] (m + 1) (fun g0 s5 s35 wr => ∃ (k g : Nat) (d : DvP) (S : Nat → Prop) (s : StP) (LA : Option Addr) (ln lc : Nat) (RA : Option Addr) (rn rc : Nat), k ≤ m ∧ m - k ≤ g0 ∧ s5 = .pointer (some ⟨g, 0, none⟩) ∧ s35 = .int .i64 (k : Nat) ∧ Hid (HvLp w wr S g w3.heap.size k d s LA ln lc RA rn rc))
      case atStart => exact ⟨0, g, _, S0, _, V, _, cv, none, 0, 0, Nat.zero_le _, by omega, rfl, rfl, HLP⟩
      case round =>
        clear HLP
        obtain ⟨k, g, d, S, s, LA, ln, lc, RA, rn, rc, hk, hg, rfl, rfl, hlp⟩ := hrel
        by_cases hlt : k < m
        · obtain ⟨b, o, ⟨kd, k0, A1, n1, c1, bs, F, m1, e1, fs1⟩, rfl, hzx, hok, g0, g1, g2, g3⟩ := (HX.out.later hlp.out.dev.base).get hlt
          dsimp only at g0 g1 g2 g3
          have HOK : Hid (OpOk w ⟨kd, k0, A1, n1, c1, bs, F, m1, e1, fs1⟩) := HX.out.each _ (List.mem_of_getElem? hzx)
          have HN1 : Hid (n1 ≤ 100000 ∧ m1 ≤ 100000) := by
            show _ ∧ _
            have h1 := weighO_mem (List.mem_of_getElem? hzx)
            have h2 := HW8.out
            dsimp only at h1
            constructor <;> omega
          clear hok hzx
          have hla := (Later.refl wr).alloc (.cells #[.int .i64 kd, .int .i64 k0, .slice A1 n1 c1, .slice F m1 e1] 36)
          have HLA := Lib.hid (hlp.out.later hla)
          have HYB : Hid (CellsAt (wr.alloc (.cells #[.int .i64 kd, .int .i64 k0, .slice A1 n1 c1, .slice F m1 e1] 36)) wr.heap.size #[.int .i64 kd, .int .i64 k0, .slice A1 n1 c1, .slice F m1 e1] 36) := CellsAt.made _ _ _
          have HNW : Hid (¬ S wr.heap.size) := fun h => by have := (hlp.out.dev.low _ h).2; omega
          have hg8w := HLA.out.g8w
          have q0 : (wr.alloc (.cells #[.int .i64 kd, .int .i64 k0, .slice A1 n1 c1, .slice F m1 e1] 36)).cell? ⟨w3.heap.size, 0, none⟩ = some (.slice LA ln lc) := HLA.out.box.cell rfl
          have q1 : (wr.alloc (.cells #[.int .i64 kd, .int .i64 k0, .slice A1 n1 c1, .slice F m1 e1] 36)).cell? ⟨w3.heap.size, 1, none⟩ = some (.slice RA rn rc) := HLA.out.box.cell rfl
          have q2 : (wr.alloc (.cells #[.int .i64 kd, .int .i64 k0, .slice A1 n1 c1, .slice F m1 e1] 36)).cell? ⟨w3.heap.size, 2, none⟩ = some (.int .i64 (s.ops : Nat)) := HLA.out.box.cell rfl
          have q3 : (wr.alloc (.cells #[.int .i64 kd, .int .i64 k0, .slice A1 n1 c1, .slice F m1 e1] 36)).cell? ⟨w3.heap.size, 3, none⟩ = some (.int .i64 s.fuse) := HLA.out.box.cell rfl
          have q4 : (wr.alloc (.cells #[.int .i64 kd, .int .i64 k0, .slice A1 n1 c1, .slice F m1 e1] 36)).cell? ⟨w3.heap.size, 4, none⟩ = some (.bool s.down) := HLA.out.box.cell rfl
          have hrl : rn = d.row.length := by rw [← hlp.out.st.rlen, hlp.out.rel.row, List.length_map]
          have hln := hlp.out.len
          have hokd := hlp.out.dev.ok
          have HCD := Lib.hid (do_full HLA.out.st (by rw [hln]; exact hlp.out.rel.rows hokd) (by rw [hln]; exact hokd.one) lc rc ⟨kd, k0, A1, n1, c1, bs, F, m1, e1, fs1⟩ (HOK.out.later HLA.out.dev.base) HN1.out.1 (by have := HN1.out.2; dsimp only; omega) (by rw [← hlp.out.rel.ops]; have := hlp.out.ops; omega) (by have := hlp.out.f0; omega) hlp.out.f1 (by have := hlp.out.row; omega) (by rw [hln]; exact hokd.most))
          have HREL := Lib.hid (doB_rel hlp.out.rel hokd ⟨kd, k0, A1, n1, c1, bs, F, m1, e1, fs1⟩)
          have HSM := Lib.hid (doB_small d ⟨kd, k0, A1, n1, c1, bs, F, m1, e1, fs1⟩)
          have HFU := Lib.hid (doS_fuse (s := s) ⟨kd, k0, A1, n1, c1, bs, F, m1, e1, fs1⟩ ⟨HOK.out.klo, HOK.out.khi⟩ hlp.out.f0 hlp.out.f1)
          have HFB : Hid (0 < m1 → ∀ a, F = some a → ¬ S a.block) := fun h0 a ha h => by
            have h1 := HOK.out.forms.lt h0 a ha
            have h2 := (hlp.out.dev.low _ h).1
            omega
          have HYM : Hid ((⟨kd, k0, A1, n1, c1, bs, F, m1, e1, fs1⟩ : OpC).m ≤ 1000000000 ∧ (0 < (⟨kd, k0, A1, n1, c1, bs, F, m1, e1, fs1⟩ : OpC).m → ∀ a, (⟨kd, k0, A1, n1, c1, bs, F, m1, e1, fs1⟩ : OpC).F = some a → ¬ S a.block)) := ⟨by have := HN1.out.2; show m1 ≤ _; omega, HFB.out⟩
          have HGL : Hid (w3.heap.size < wr.heap.size) := hlp.out.box.lt
          have HSZ : Hid (wr.heap.size < (wr.alloc (.cells #[.int .i64 kd, .int .i64 k0, .slice A1 n1 c1, .slice F m1 e1] 36)).heap.size) := by show _ < _; rw [World.size_alloc]; omega
          generalize hyy : (⟨kd, k0, A1, n1, c1, bs, F, m1, e1, fs1⟩ : OpC) = y at *
          clear hla hlp hrl hln hokd
          go_wp2_with fail
          rw [← hyy] at HCD
          refine HCD.out.mono ?_
          rw [hyy]
          rintro e6 w8 ⟨LA', ln', lc', RA', rn', rc', rfl, hst8, hl8, hA8, hB8⟩
          have HLA8 := Lib.hid (HLA.out.later hl8)
          have HYB8 := Lib.hid (HYB.out.later hl8)
          have hA8' : ∀ a : Addr, (LA' = some a ∨ RA' = some a) → ¬ S a.block ∧ a.block ≠ w3.heap.size := fun a ha => by
            have h1 := HSZ.out; have h2 := HGL.out
            have hnew : (wr.alloc (.cells #[.int .i64 kd, .int .i64 k0, .slice A1 n1 c1, .slice F m1 e1] 36)).heap.size ≤ a.block → ¬ S a.block ∧ a.block ≠ w3.heap.size := fun h => ⟨fun e => by have := (HLA.out.dev.low _ e).2; omega, by omega⟩
            rcases ha with ha | ha
            · rcases hA8 a ha with h | h
              · exact (HLA.out.la a (by rw [← h]; exact ha)).2
              · exact hnew h
            · rcases hB8 a ha with h | h
              · exact (HLA.out.ra a (by rw [← h]; exact ha)).2
              · exact hnew h
          have HA8 := Lib.hid hA8'
          have hlb := (Later.refl w8).alloc (.cells #[.slice LA' ln' lc', .slice RA' rn' rc', .int .i64 ((doS s y).1.ops : Nat), .int .i64 (doS s y).1.fuse, .bool (doS s y).1.down] 30)
          have hlp8 := HLA8.out.later hlb
          have hst8' := hst8.later hlb
          have hyb8 := HYB8.out.later hlb
          have hlt8 : ∀ a, LA' = some a → a.block < (w8.alloc (.cells #[.slice LA' ln' lc', .slice RA' rn' rc', .int .i64 ((doS s y).1.ops : Nat), .int .i64 (doS s y).1.fuse, .bool (doS s y).1.down] 30)).heap.size := hst8'.lLt (by rw [← hst8'.len, HREL.out.1.len]; have := HSM.out.2.2; have := HLA.out.dev.ok.one; omega)
          have hrt8 := hst8'.rLt
          clear hA8' hA8 hB8 hl8 hst8 hlb HLA8 HYB8 q0 q1 q2 q3 q4
          go_wp2_with (with_reducible show wpList _ _ _ ({ dst := none, op := Op.store _ (Operand.tmp 6) _, type := _, pos := _, after := _, guard := _ } :: _) _ _; refine Hid.out ?_)
          refine Lib.hid (wpList_store_mids rfl rfl _ _ _ rfl w3.heap.size 0 [.slice LA' ln' lc', .slice RA' rn' rc', .int .i64 ((doS s y).1.ops : Nat), .int .i64 (doS s y).1.fuse, .bool (doS s y).1.down] rfl rfl (hlp8.box.there (Nat.le_refl _)) Try.stateSize (fun v hv => by
            simp only [List.mem_cons, List.not_mem_nil, or_false] at hv
            rcases hv with rfl | rfl | rfl | rfl | rfl <;> rfl) ?_)
          intro w9 hw9
          have hb9 : CellsAt w9 w3.heap.size #[.slice LA' ln' lc', .slice RA' rn' rc', .int .i64 ((doS s y).1.ops : Nat), .int .i64 (doS s y).1.fuse, .bool (doS s y).1.down] 30 := by
            have := hlp8.box.sets [.slice LA' ln' lc', .slice RA' rn' rc', .int .i64 ((doS s y).1.ops : Nat), .int .i64 (doS s y).1.fuse, .bool (doS s y).1.down] (o := 0)
            rw [hw9]
            exact this
          have hch9 : Chg (fun q => q = w3.heap.size) (w8.alloc (.cells #[.slice LA' ln' lc', .slice RA' rn' rc', .int .i64 ((doS s y).1.ops : Nat), .int .i64 (doS s y).1.fuse, .bool (doS s y).1.down] 30)) w9 := by rw [hw9]; exact sets_chg _ _ _
          have hl9 : Later w w9 := hch9.low hlp8.dev.base (fun q hq => by rw [hq]; exact hlp8.g8w)
          have hs9 := hch9.size
          have HD9 : Hid (DevAt w w9 S g d) := hlp8.dev.chg hch9 (fun q hq e => hlp8.g8n (by rw [← e]; exact hq)) hl9
          have HST9 : Hid (StAt w9 LA' ln' RA' rn' (doS s y).1) := hst8'.chg hch9 (fun a ha => (HA8.out a (.inl ha)).2) (fun a ha => (HA8.out a (.inr ha)).2)
          have HB9 := Lib.hid hb9
          have HYB9 : Hid (CellsAt w9 wr.heap.size #[.int .i64 kd, .int .i64 k0, .slice A1 n1 c1, .slice F m1 e1] 36) := hyb8.chg hch9 (fun e => by have := HGL.out; omega)
          have HRW9 : Hid (∀ a : Addr, (LA' = some a ∨ RA' = some a) → a.block < w9.heap.size) := fun a ha => by
            rcases ha with ha | ha
            · have := hlt8 a ha; omega
            · have := hrt8 a ha; omega
          have HGN := Lib.hid hlp8.g8n; have HGW := Lib.hid hlp8.g8w
          have HOPS := Lib.hid hlp8.ops; have HROW := Lib.hid hlp8.row
          have y0 : w9.cell? ⟨wr.heap.size, 0, none⟩ = some (.int .i64 kd) := HYB9.out.cell rfl
          have y1 : w9.cell? ⟨wr.heap.size, 1, none⟩ = some (.int .i64 k0) := HYB9.out.cell rfl
          have y2 : w9.cell? ⟨wr.heap.size, 2, none⟩ = some (.slice A1 n1 c1) := HYB9.out.cell rfl
          have y3 : w9.cell? ⟨wr.heap.size, 3, none⟩ = some (.slice F m1 e1) := HYB9.out.cell rfl
          have HCX := Lib.hid (does10_full HD9.out (by have := HOPS.out; omega) (by have := HROW.out; omega) y (HOK.out.later hl9) HYM.out.1 HYM.out.2)
          clear hw9 hb9 hch9 hl9 hs9 hlp8 hst8' hyb8 hlt8 hrt8 HLA HYB HSZ HCD
          refine Lib.hid ?_
          go_wp2_with fail
          rw [← hyy] at HCX
          refine HCX.out.mono ?_
          rw [hyy]
          rintro e7 w10 ⟨S', g', rfl, hd10, hup, hc10⟩
          have hlen' : ln' = (doB d y).1.bl.length := by rw [← HST9.out.len]; exact HREL.out.1.len
          have hrow' : rn' = (doB d y).1.row.length := by rw [← HST9.out.rlen, HREL.out.1.row, List.length_map]
          have HEND : Hid (HvLp w w10 S' g' w3.heap.size (k + 1) (doB d y).1 (doS s y).1 LA' ln' lc' RA' rn' rc') := by
            have hsz := hc10.size
            have hal : ∀ a : Addr, (LA' = some a ∨ RA' = some a) → a.block < w10.heap.size ∧ ¬ S' a.block ∧ a.block ≠ w3.heap.size := fun a ha => by
              have h1 := HA8.out a ha; have h2 := HRW9.out a ha
              exact ⟨by omega, fun e => (hup _ e).elim h1.1 fun e => by omega, h1.2⟩
            exact ⟨hd10, HST9.out.chg hc10 (fun a ha => (HA8.out a (.inl ha)).1) (fun a ha => (HA8.out a (.inr ha)).1), HB9.out.chg hc10 HGN.out, HREL.out.1, (by have := HSM.out.1; have := HOPS.out; omega), (by have := HSM.out.2.1; have := HROW.out; omega), HFU.out.1, HFU.out.2, HGW.out, (fun e => (hup _ e).elim HGN.out fun e => by have := HB9.out.lt; omega), hlen', (fun a ha => hal a (.inl ha)), fun a ha => hal a (.inr ha)⟩
          have hsame := HREL.out.1.same
          rw [← hlen', ← hrow'] at hsame
          have HC := Lib.hid (stands_any HEND.out.dev HEND.out.st hsame (by rw [hrow']; have := HEND.out.row; omega) (by rw [hlen']; have := HEND.out.dev.ok.most; omega) lc' rc')
          have q0 : w10.cell? ⟨w3.heap.size, 0, none⟩ = some (.slice LA' ln' lc') := HEND.out.box.cell rfl
          have q1 : w10.cell? ⟨w3.heap.size, 1, none⟩ = some (.slice RA' rn' rc') := HEND.out.box.cell rfl
          have q2 : w10.cell? ⟨w3.heap.size, 2, none⟩ = some (.int .i64 ((doS s y).1.ops : Nat)) := HEND.out.box.cell rfl
          have q3 : w10.cell? ⟨w3.heap.size, 3, none⟩ = some (.int .i64 (doS s y).1.fuse) := HEND.out.box.cell rfl
          have q4 : w10.cell? ⟨w3.heap.size, 4, none⟩ = some (.bool (doS s y).1.down) := HEND.out.box.cell rfl
          rw [HREL.out.2]
          generalize (doS s y).2 = er
          clear hlen' hrow' hsame hd10 hup hc10 HCX HD9 HST9 HB9 HYB9 HRW9 HGN HGW HOPS HROW HFU HSM HREL HA8 HYM HFB HN1 HOK HGL HNW y0 y1 y2 y3
          go_wp2_with fail
          refine HC.out.mono ?_
          rintro e8 w11 ⟨rfl, hl11⟩
          replace HEND := Lib.hid (HEND.out.later hl11)
          clear hl11 HC q0 q1 q2 q3 q4
          go_wp2
          go_roundg (m - (k + 1))
          case measure => omega
          case rel => exact ⟨k + 1, g', _, S', _, LA', ln', lc', RA', rn', rc', by omega, by omega, rfl, by go_num, HEND⟩
        · have HLW := Lib.hid hlp.out.dev.base
          go_wp2_with fail
          refine (alive10_any _).mono ?_
          rintro e w7 ⟨rfl, hl7⟩
          go_wp2
          exact HRR.out _ _ ⟨rfl, HLW.out.trans hl7⟩

end Go.Proofs.Ytaonfedjilfgjaa
