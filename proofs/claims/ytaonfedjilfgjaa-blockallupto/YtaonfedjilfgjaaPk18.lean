import Derived.Test.YtaonfedjilfgjaaPk17
import Derived.Deep.Cut
import Derived.Test.YtaonfedjilfgjaaPk12
import Derived.Test.YtaonfedjilfgjaaPk9

/-
  The reference's crash, as a call.
-/
namespace Go.Proofs.Ytaonfedjilfgjaa
open Go.RowKit

section
variable {P : Program} {ops : Array Oper} {rest : List Oper} {o : Oper} {a : Act} {w w0 : World} {Q : Exit → Act → World → Prop}
theorem list_set_same {α : Type} {l : List α} {k : Nat} {x : α} (h : l[k]? = some x) : l.set k x = l := by
  obtain ⟨hk, rfl⟩ := List.getElem?_eq_some_iff.1 h
  exact List.set_getElem_self hk
theorem wpList_append_fresh (hgd : o.guard = none) (s x : Operand) (t : TypeId) (ho : o.op = Op.call { callee := Callee.builtin Builtin.append, args := #[s, x], argTypes := #[t, t] })
    {e : TypeId} {k : Nat} {b : Nat} {B : Option Addr} {m c : Nat} {news : List (List Value)} (i : TypeInfo) (z : Value) (bytes : Nat) (ht : P.underlying t = some (.slice e)) (hi : P.info? e = some i) (hz : i.zero = some z) (hsize : i.size = k) (hby : i.bytes = bytes) (hzs : z.cells.size = k) (hk : 0 < k)
    (hs : a.eval s = .slice (some ⟨b, 0, none⟩) 0 0) (hx : a.eval x = .slice B m c) (hown : OwnK e k w0 w (.slice (some ⟨b, 0, none⟩) 0 0) []) (hr : RowK k w B m news) (hone : ∀ cs ∈ news, ∀ u ∈ cs, u.oneCell' = true) (hb : m ≤ 900000) (hbb : bytes ≤ 1000) (h0 : m = 0 → B = none)
    (h : ∀ v' w', OwnK e k w0 w' v' news → Later w w' → wpList P ops Q rest (a.put o.dst v') w') : wpList P ops Q (o :: rest) a w := by
  refine wpList_plain hgd fun K hK => ?_
  obtain ⟨v', w', hrun, h2, h3⟩ := append_fresh (P := P) t o.type i z bytes ht hi hz hsize hby hzs hk hown B m c news hr hone hb hbb h0
  unfold Oper.wp
  simp [execOp, ho, resolve, invoke, builtin, hs, hx, hrun, Result.andThen]
  exact hK _ _ (h v' w' h2 h3)
end
/-- What the loops of a crash keep. -/
structure CrLp (W w : World) (b c5 n g2 g4 : Nat) (box : Array Value) (css : List (List Value)) : Prop where
  own : OwnK 47 64 W w (.slice (some ⟨b, 0, none⟩) n c5) css
  box : CellsAt w g2 box 30
  res : CellsAt w g4 #[.slice none 0 0, .slice none 0 0, .int .i64 0, .int .i64 0, .bool false] 30
  base : Later W w
section
variable {W w w' : World} {b c5 n g2 g4 : Nat} {box : Array Value} {css : List (List Value)}
theorem CrLp.later (h : CrLp W w b c5 n g2 g4 box css) (hl : Later w w') : CrLp W w' b c5 n g2 g4 box css := ⟨h.own.on hl, h.box.later hl, h.res.later hl, h.base.trans hl⟩
theorem CrLp.set (h : CrLp W w b c5 n g2 g4 box css) {K j : Nat} {v : Value} {cs cs' : List Value} (hj : css[K]? = some cs) (hp : j < 64) (hl : cs'.length = 64) (hin : cs'[j]? = some v) (hout : ∀ i, i ≠ j → cs'[i]? = cs[i]?) :
    CrLp W (w.setCell ⟨b, K * 64 + j, none⟩ v) b c5 n g2 g4 box (css.set K cs') := by
  have h5 := h.own.set (p := j) (vs := [v]) hj (by simp; omega) hl (fun i u hu => by
    match i, hu with
    | 0, hu => simp at hu; subst hu; exact hin
    | i + 1, hu => simp at hu) (fun i hi => hout i (by simp at hi; omega))
  have hch : Chg (fun q => q = b) w (w.setCell ⟨b, K * 64 + j, none⟩ v) := chg_set _ _ _ _
  have hb := h.own.lt b rfl
  exact ⟨h5, h.box.chg hch (fun e => own_ne2 h.own h.box (by rw [e]; rfl)), h.res.chg hch (fun e => own_ne2 h.own h.res (by rw [e]; rfl)), hch.low h.base fun q hq => by rw [hq]; exact hb.1⟩
end
section
variable {w : World} {A B : Option Addr} {n m : Nat} {s : StP}
set_option maxRecDepth 100000 in
set_option maxHeartbeats 6400000 in
theorem crashRef_any (h : StAt w A n B m s) (hrw : ∀ x ∈ s.row, 0 ≤ x.1 ∧ x.1 < (n : Nat)) (hn0 : 0 < n) (hn : n ≤ 4096) (hm : m ≤ 900000) (c e : Nat) (F : Option Addr) (fm fe : Nat) (fs : List Int) (hf : IntsAt w F fm fs) (hfm : fm ≤ 1000000000) (hfr : ∀ z ∈ fs, -9223372036854775808 ≤ z ∧ z ≤ 9223372036854775807) :
    Calls Try.prog 54 #[.agg #[.slice A n c, .slice B m e, .int .i64 (s.ops : Nat), .int .i64 s.fuse, .bool s.down], .slice F fm fe] w fun e9 w' => ∃ A' c', e9 = .returned (.agg #[.slice A' n c', .slice none 0 0, .int .i64 (s.ops : Nat), .int .i64 (-1), .bool false]) ∧ StAt w' A' n none 0 (crashR s fs) ∧ Later w w' ∧ ∀ a, A' = some a → w.heap.size ≤ a.block := by
  have HS := Lib.hid h; have HF := Lib.hid hf; have HFR := Lib.hid hfr; have HRW := Lib.hid hrw
  have HLEN := Lib.hid h.len
  clear h hf hfr hrw
  obtain ⟨i0, hi0, hz0, hz1, hz2⟩ := info_parts Try.rblockInfo
  have hzs : (Value.agg (Lib.byteCells (zeros 64)).toArray).cells.size = 64 := by simp only [Value.cells, List.size_toArray]; rw [bc_len]; exact zeros_length 64
  have HI := Lib.hid (And.intro hi0 (And.intro hz0 (And.intro hz1 (And.intro hz2 hzs))))
  clear hi0 hz0 hz1 hz2 hzs
  go_enter Try.func54, Try.ntmps54
  go_upto_region 1 with fail
  have hl2 : Later w ((w.alloc (.cells #[.slice A n c, .slice B m e, .int .i64 (s.ops : Nat), .int .i64 s.fuse, .bool s.down] 30)).alloc (.cells #[.slice none 0 0, .slice none 0 0, .int .i64 0, .int .i64 0, .bool false] 30)) := ((Later.refl w).alloc _).alloc _
  have HB2 : Hid (CellsAt ((w.alloc (.cells #[.slice A n c, .slice B m e, .int .i64 (s.ops : Nat), .int .i64 s.fuse, .bool s.down] 30)).alloc (.cells #[.slice none 0 0, .slice none 0 0, .int .i64 0, .int .i64 0, .bool false] 30)) w.heap.size #[.slice A n c, .slice B m e, .int .i64 (s.ops : Nat), .int .i64 s.fuse, .bool s.down] 30) := (CellsAt.made w _ 30).later ((Later.refl _).alloc _)
  have HR2 : Hid (CellsAt ((w.alloc (.cells #[.slice A n c, .slice B m e, .int .i64 (s.ops : Nat), .int .i64 s.fuse, .bool s.down] 30)).alloc (.cells #[.slice none 0 0, .slice none 0 0, .int .i64 0, .int .i64 0, .bool false] 30)) (w.heap.size + 1) #[.slice none 0 0, .slice none 0 0, .int .i64 0, .int .i64 0, .bool false] 30) := by
    have := CellsAt.made (w.alloc (.cells #[.slice A n c, .slice B m e, .int .i64 (s.ops : Nat), .int .i64 s.fuse, .bool s.down] 30)) #[.slice none 0 0, .slice none 0 0, .int .i64 0, .int .i64 0, .bool false] 30
    rw [World.size_alloc] at this
    exact this
  have HL2 := Lib.hid hl2
  clear hl2
  obtain ⟨g2, hg2⟩ : ∃ g, g = w.heap.size := ⟨_, rfl⟩
  obtain ⟨g4, hg4⟩ : ∃ g, g = w.heap.size + 1 := ⟨_, rfl⟩
  have HG : Hid (w.heap.size ≤ g2 ∧ w.heap.size ≤ g4 ∧ g4 ≠ g2) := ⟨by omega, by omega, by omega⟩
  rw [← hg4] at HR2
  rw [← hg2] at HB2
  rw [← hg4, ← hg2]
  clear hg2 hg4
  generalize hw2 : (w.alloc (.cells #[.slice A n c, .slice B m e, .int .i64 (s.ops : Nat), .int .i64 s.fuse, .bool s.down] 30)).alloc (.cells #[.slice none 0 0, .slice none 0 0, .int .i64 0, .int .i64 0, .bool false] 30) = w2 at HB2 HR2 HL2 ⊢
  have HE : Hid (OwnK 47 64 w (w2.alloc (.cells #[] 47)) (.slice (some ⟨w2.heap.size, 0, none⟩) 0 0) []) := OwnK.empty0 HL2.out
  have hl3 : Later w2 (w2.alloc (.cells #[] 47)) := (Later.refl w2).alloc _
  have HB3 := Lib.hid (HB2.out.later hl3); have HR3 := Lib.hid (HR2.out.later hl3); have HL3 := Lib.hid (HL2.out.trans hl3)
  have HS3 := Lib.hid (HS.out.later HL3.out)
  have q0 : (w2.alloc (.cells #[] 47)).cell? ⟨g2, 0, none⟩ = some (.slice A n c) := HB3.out.cell rfl
  clear hw2 hl3 HB2 HR2 HL2
  go_wp2_with (at_builtin; refine wpList_append_fresh rfl _ _ _ rfl i0 _ 64 Try.underlying27 HI.out.1 HI.out.2.1 HI.out.2.2.1 HI.out.2.2.2.1 HI.out.2.2.2.2 (by decide) rfl rfl HE.out HS3.out.l (fun cs hcs u hu => by
    obtain ⟨x, _, rfl⟩ := List.mem_map.1 hcs
    exact bc_one _ u hu) (by omega) (by decide) (fun h0 => absurd h0 (by omega)) ?_; intro v5 w5 how hl5; refine Hid.out ?_)
  have HOW := Lib.hid how
  have HB5 := Lib.hid (HB3.out.later hl5); have HR5 := Lib.hid (HR3.out.later hl5)
  clear hl5 q0 HB3 HR3 HL3 HS3 HE HI
  obtain ⟨A5, c5, rfl, hc5, _⟩ := how.row
  obtain ⟨b, cur, rfl, _, _, _, _, _⟩ := how.block_ (by
    intro e
    have := congrArg List.length e
    rw [List.length_map, HLEN.out] at this
    exact absurd this (by simp; omega))
  clear how hc5
  rw [List.length_map, HLEN.out] at HOW ⊢
  have HLP0 : Hid (CrLp w w5 b c5 n g2 g4 #[.slice A n c, .slice B m e, .int .i64 (s.ops : Nat), .int .i64 s.fuse, .bool s.down] ((formsR fs 0 (s.row.take 0) s.l).map Lib.byteCells)) := ⟨HOW.out, HB5.out, HR5.out, HOW.out.2.2⟩
  clear HOW HB5 HR5
  refine Lib.hid ?_
  go_wp2
  go_loopg [6] (m + 1) (fun g0 s6 wr => ∃ (k : Nat), k ≤ m ∧ m - k ≤ g0 ∧ s6 = .int .i64 (k : Nat) ∧ Hid (CrLp w wr b c5 n g2 g4 #[.slice A n c, .slice B m e, .int .i64 (s.ops : Nat), .int .i64 s.fuse, .bool s.down] ((formsR fs 0 (s.row.take k) s.l).map Lib.byteCells)))
  case atStart => exact ⟨0, Nat.zero_le _, by omega, rfl, HLP0⟩
  case round =>
    clear HLP0
    rename World => wk
    obtain ⟨k, hk, hg, rfl, hlp⟩ := hrel
    have q1 : wk.cell? ⟨g2, 1, none⟩ = some (.slice B m e) := hlp.out.box.cell rfl
    have q2 : wk.cell? ⟨g2, 2, none⟩ = some (.int .i64 (s.ops : Nat)) := hlp.out.box.cell rfl
    by_cases hlt : k < m
    · obtain ⟨rb, ro, ⟨kx, bx⟩, hRB, hx, hrg, h64⟩ := (HS.out.later hlp.out.base).getW hlt
      subst hRB
      dsimp only at h64
      obtain ⟨hk0, hkn⟩ := HRW.out _ (List.mem_of_getElem? hx)
      dsimp only at hk0 hkn
      obtain ⟨K, rfl⟩ : ∃ K : Nat, kx = K := ⟨kx.toNat, by omega⟩
      have hKn : K < n := by omega
      obtain ⟨Lk, hLk⟩ : ∃ L, L = formsR fs 0 (s.row.take k) s.l := ⟨_, rfl⟩
      have HLL : Hid (Lk.length = n ∧ ∀ b ∈ Lk, b.length = 64) := by
        have h1 := formsR_ok fs (row := s.row.take k) HS.out.sz fun x hx => by
          have hm := List.mem_of_mem_take hx
          have h2 := HRW.out x hm
          exact ⟨h2.1, by rw [HLEN.out]; exact h2.2, HS.out.rz x hm⟩
        rw [← hLk] at h1
        exact ⟨h1.1.trans HLEN.out, h1.2⟩
      rw [← hLk] at hlp
      have HLK : Hid (formsR fs 0 (s.row.take k) s.l = Lk) := hLk.symm
      have HNOW : Hid ((Lk.getD K []).length = 64) := by
        show _ = _
        have hlt2 : K < Lk.length := by rw [HLL.out.1]; exact hKn
        simp only [List.getD, List.getElem?_eq_getElem hlt2, Option.getD_some]
        exact HLL.out.2 _ (List.getElem_mem hlt2)
      have HX := Lib.hid hx; have HRG := Lib.hid hrg; have HH64 := Lib.hid h64
      clear hLk hx hrg h64 hk0 hkn
      by_cases hfm0 : fm = 0
      · have HFB : Hid (formB fs k = 0) := by
          show _ = _
          unfold formB
          rw [if_pos (List.eq_nil_of_length_eq_zero (HF.out.1.trans hfm0))]
        subst hfm0
        go_wp2_with (with_reducible show wpList _ _ _ ({ dst := some 46, op := Op.load _ _, type := _, pos := _, after := _, guard := _ } :: _) _ _; refine Hid.out ?_)
        refine Lib.hid (wpList_load_mid rfl _ _ rfl rb (ro + k * 65) rfl (rowC ((K : Int), bx)) _ HRG.out Try.underlying49 rfl (by rw [rowC_len (x := ((K : Int), bx)) HH64.out]; exact Try.rwriteSize) ?_)
        refine wpList_alloc_new rfl _ rfl _ Try.rwriteZero ?_
        intro w8 hc8 hl8 _
        refine wpList_store_mids rfl rfl _ _ _ rfl wk.heap.size 0 (rowC ((K : Int), bx)) rfl rfl (hc8.there (by simp only [Value.cells, List.size_toArray]; rw [rowC_len (x := ((K : Int), bx)) HH64.out, rowC_len (x := (0, zeros 64)) (zeros_length 64)]; decide)) (by rw [rowC_len (x := ((K : Int), bx)) HH64.out]; exact Try.rwriteSize) (rowC_one _) ?_
        intro w9 hw9
        have hc9 : CellsAt w9 wk.heap.size (rowC ((K : Int), bx)).toArray 49 := by
          have := hc8.sets (rowC ((K : Int), bx)) (o := 0)
          rw [set_all (by simp only [Value.cells, List.size_toArray]; rw [rowC_len (x := ((K : Int), bx)) HH64.out, rowC_len (x := (0, zeros 64)) (zeros_length 64)])] at this
          rw [hw9]
          exact this
        have hch9 : Chg (fun q => q = wk.heap.size) w8 w9 := by rw [hw9]; exact sets_chg _ _ _
        have hl9 : Later wk w9 := hch9.low hl8 (fun q hq => by rw [hq]; exact Nat.le_refl _)
        have HLP9 := Lib.hid (hlp.out.later hl9)
        have HNE8 : Hid (wk.heap.size ≠ b) := by have := hlp.out.own.lt b rfl; show _ ≠ _; omega
        obtain ⟨g8, hg8⟩ : ∃ g, g = wk.heap.size := ⟨_, rfl⟩
        rw [← hg8] at hc9 HNE8 ⊢
        have HC9 := Lib.hid hc9
        clear hw9 hc8 hl8 hc9 hch9 hl9 HRG hlp hg8
        have HLP0 : Hid (CrLp w w9 b c5 n g2 g4 #[.slice A n c, .slice (some ⟨rb, ro, none⟩) m e, .int .i64 (s.ops : Nat), .int .i64 s.fuse, .bool s.down] ((Lk.map Lib.byteCells).set K (Lib.byteCells (partB 0 0 (Lk.getD K []) bx)))) := by
          show CrLp _ _ _ _ _ _ _ _ _
          rw [partB_zero, list_set_same (by rw [List.getElem?_map, List.getElem?_eq_getElem (show K < Lk.length by rw [HLL.out.1]; exact hKn)]; simp [List.getD, show K < Lk.length by rw [HLL.out.1]; exact hKn])]
          exact HLP9.out
        clear HLP9
        refine Lib.hid ?_
        go_wp2
        go_loopg [9] 65 (fun g0 s9 wr => ∃ (j : Nat), j ≤ 64 ∧ 64 - j ≤ g0 ∧ s9 = .int .i64 (j : Nat) ∧ Hid (CrLp w wr b c5 n g2 g4 #[.slice A n c, .slice (some ⟨rb, ro, none⟩) m e, .int .i64 (s.ops : Nat), .int .i64 s.fuse, .bool s.down] ((Lk.map Lib.byteCells).set K (Lib.byteCells (partB 0 j (Lk.getD K []) bx)))) ∧ Hid (CellsAt wr g8 (rowC ((K : Int), bx)).toArray 49))
        case atStart => exact ⟨0, by omega, by omega, rfl, HLP0, HC9⟩
        case round =>
          clear HLP0 HC9
          obtain ⟨j, hj, hgj, rfl, hlp, h8⟩ := hrel
          by_cases hj64 : j < 64
          · have HND := Lib.hid hlp.out
            rw [← partB_off (f := 0) HNOW.out HH64.out (by rintro (h | ⟨h, _⟩ | ⟨h, _⟩) <;> cases h) hj64] at HND
            have HN8 := Lib.hid h8.out
            clear hlp h8
            go_wp2
            go_roundg (64 - (j + 1))
            case measure => omega
            case rel => exact ⟨j + 1, by omega, by omega, by go_num, HND, HN8⟩

          · obtain rfl : j = 64 := by omega
            have HND : Hid (CrLp w wr b c5 n g2 g4 #[.slice A n c, .slice (some ⟨rb, ro, none⟩) m e, .int .i64 (s.ops : Nat), .int .i64 s.fuse, .bool s.down] ((formsR fs 0 (s.row.take (k + 1)) s.l).map Lib.byteCells)) := by
              show CrLp _ _ _ _ _ _ _ _ _
              rw [formsR_step fs HX.out, HLK.out]
              have h1 := hlp.out
              rw [partB_all HNOW.out HH64.out] at h1
              rw [HFB.out]
              unfold takeB
              rw [List.map_set]
              exact h1
            clear hlp h8
            go_wp2
            go_roundg (m - (k + 1))
            case measure => omega
            case rel => exact ⟨k + 1, by omega, by omega, by go_num, HND⟩
      · obtain ⟨fb, fo, hFe, hcf⟩ := HF.out.2 (by omega)
        subst hFe
        have hqlt : k % fm < fm := Nat.mod_lt _ (by omega)
        have hfl := HF.out.1
        have hz : fs[k % fm]? = some (fs[k % fm]'(by omega)) := List.getElem?_eq_getElem _
        have hcell0 := hcf _ _ hz
        have hbb := HFR.out _ (List.mem_of_getElem? hz)
        have e1 : formB fs k = (max 0 (fs[k % fm]'(by omega))).toNat % 4 := by
          unfold formB
          rw [if_neg (by rintro rfl; exact hfm0 hfl.symm)]
          subst hfl
          simp only [List.getD, hz, Option.getD_some]
        obtain ⟨x, hxe⟩ : ∃ x, x = fs[k % fm]'(by omega) := ⟨_, rfl⟩
        rw [← hxe] at hcell0 hbb e1
        have hcell : wk.cell? ⟨fb, fo + k % fm, none⟩ = some (.int .i64 x) := hlp.out.base.cell hcell0
        obtain ⟨q, hq⟩ : ∃ q, q = k % fm := ⟨_, rfl⟩
        rw [← hq] at hcell hqlt
        have hrem : ((k : Nat) : Int).tmod ((fm : Nat) : Int) = (q : Nat) := by rw [hq]; rfl
        have hfmp : (0 : Int) < (fm : Nat) := by omega
        clear hxe hz hcf hcell0 hq hfl
        by_cases hx0 : 0 < x
        · have HFB0 : Hid (formB fs k = x.toNat % 4) := by rw [e1]; congr 2; omega
          obtain ⟨f, hf⟩ : ∃ f : Nat, f = x.toNat % 4 := ⟨_, rfl⟩
          have HFB : Hid (formB fs k = f) := by rw [hf]; exact HFB0.out
          have hf4 : f = 0 ∨ f = 1 ∨ f = 2 ∨ f = 3 := by omega
          have HRM : Hid (x % 4 = (f : Nat)) := by
            show _ = _
            rw [hf]
            omega
          clear e1 HFB0 hf
          go_upto_region 8 with fail
          rw [HRM.out]
          go_wp2_with (with_reducible show wpList _ _ _ ({ dst := some 46, op := Op.load _ _, type := _, pos := _, after := _, guard := _ } :: _) _ _; refine Hid.out ?_)
          refine Lib.hid (wpList_load_mid rfl _ _ rfl rb (ro + k * 65) rfl (rowC ((K : Int), bx)) _ HRG.out Try.underlying49 rfl (by rw [rowC_len (x := ((K : Int), bx)) HH64.out]; exact Try.rwriteSize) ?_)
          refine wpList_alloc_new rfl _ rfl _ Try.rwriteZero ?_
          intro w8 hc8 hl8 _
          refine wpList_store_mids rfl rfl _ _ _ rfl wk.heap.size 0 (rowC ((K : Int), bx)) rfl rfl (hc8.there (by simp only [Value.cells, List.size_toArray]; rw [rowC_len (x := ((K : Int), bx)) HH64.out, rowC_len (x := (0, zeros 64)) (zeros_length 64)]; decide)) (by rw [rowC_len (x := ((K : Int), bx)) HH64.out]; exact Try.rwriteSize) (rowC_one _) ?_
          intro w9 hw9
          have hc9 : CellsAt w9 wk.heap.size (rowC ((K : Int), bx)).toArray 49 := by
            have := hc8.sets (rowC ((K : Int), bx)) (o := 0)
            rw [set_all (by simp only [Value.cells, List.size_toArray]; rw [rowC_len (x := ((K : Int), bx)) HH64.out, rowC_len (x := (0, zeros 64)) (zeros_length 64)])] at this
            rw [hw9]
            exact this
          have hch9 : Chg (fun q => q = wk.heap.size) w8 w9 := by rw [hw9]; exact sets_chg _ _ _
          have hl9 : Later wk w9 := hch9.low hl8 (fun q hq => by rw [hq]; exact Nat.le_refl _)
          have HLP9 := Lib.hid (hlp.out.later hl9)
          have HNE8 : Hid (wk.heap.size ≠ b) := by have := hlp.out.own.lt b rfl; show _ ≠ _; omega
          obtain ⟨g8, hg8⟩ : ∃ g, g = wk.heap.size := ⟨_, rfl⟩
          rw [← hg8] at hc9 HNE8 ⊢
          have HC9 := Lib.hid hc9
          clear hw9 hc8 hl8 hc9 hch9 hl9 HRG hlp hg8
          have HLP0 : Hid (CrLp w w9 b c5 n g2 g4 #[.slice A n c, .slice (some ⟨rb, ro, none⟩) m e, .int .i64 (s.ops : Nat), .int .i64 s.fuse, .bool s.down] ((Lk.map Lib.byteCells).set K (Lib.byteCells (partB f 0 (Lk.getD K []) bx)))) := by
            show CrLp _ _ _ _ _ _ _ _ _
            rw [partB_zero, list_set_same (by rw [List.getElem?_map, List.getElem?_eq_getElem (show K < Lk.length by rw [HLL.out.1]; exact hKn)]; simp [List.getD, show K < Lk.length by rw [HLL.out.1]; exact hKn])]
            exact HLP9.out
          clear HLP9
          refine Lib.hid ?_
          go_wp2
          go_loopg [9] 65 (fun g0 s9 wr => ∃ (j : Nat), j ≤ 64 ∧ 64 - j ≤ g0 ∧ s9 = .int .i64 (j : Nat) ∧ Hid (CrLp w wr b c5 n g2 g4 #[.slice A n c, .slice (some ⟨rb, ro, none⟩) m e, .int .i64 (s.ops : Nat), .int .i64 s.fuse, .bool s.down] ((Lk.map Lib.byteCells).set K (Lib.byteCells (partB f j (Lk.getD K []) bx)))) ∧ Hid (CellsAt wr g8 (rowC ((K : Int), bx)).toArray 49))
          case atStart => exact ⟨0, by omega, by omega, rfl, HLP0, HC9⟩
          case round =>
            clear HLP0 HC9
            obtain ⟨j, hj, hgj, rfl, hlp, h8⟩ := hrel
            by_cases hj64 : j < 64
            · rcases hf4 with rfl | rfl | rfl | rfl
              · have HND := Lib.hid hlp.out
                rw [← partB_off (f := 0) HNOW.out HH64.out (by rintro (h | ⟨h, _⟩ | ⟨h, _⟩) <;> cases h) hj64] at HND
                have HN8 := Lib.hid h8.out
                clear hlp h8
                go_wp2
                go_roundg (64 - (j + 1))
                case measure => omega
                case rel => exact ⟨j + 1, by omega, by omega, by go_num, HND, HN8⟩
              · have hfz := hlp.out.own.there (j := K) (p := j) (q := 1) (by rw [List.length_set, List.length_map, HLL.out.1]; exact hKn) (by omega) 0 (by decide)
                have hold := hfz.1
                obtain ⟨u0, hu0⟩ : ∃ u, wr.cell? ⟨b, K * 64 + j, none⟩ = some u := Option.isSome_iff_exists.1 hfz.1
                have hfr0 : wr.frozen? ⟨b, K * 64 + j, none⟩ = false := hfz.2
                obtain ⟨y, hy⟩ : ∃ y, bx[j]? = some y := ⟨_, List.getElem?_eq_getElem (by rw [HH64.out]; exact hj64)⟩
                have y1 : wr.cell? ⟨g8, 1 + j, none⟩ = some (.int .u8 (y.toNat : Int)) := h8.out.cell (by rw [List.getElem?_toArray, Nat.add_comm]; show (Lib.byteCells bx)[j]? = _; unfold Lib.byteCells; rw [List.getElem?_map, hy]; rfl)
                have y0 : wr.cell? ⟨g8, 0, none⟩ = some (.int .i64 (K : Nat)) := h8.out.cell rfl
                have HND := Lib.hid (hlp.out.set (v := .int .u8 (y.toNat : Int)) (cs' := Lib.byteCells (partB 1 (j + 1) (Lk.getD K []) bx)) (List.getElem?_set_self (by rw [List.length_map, HLL.out.1]; exact hKn)) hj64 (by rw [bc_len]; exact partB_length HNOW.out HH64.out (by omega)) (by unfold Lib.byteCells; rw [List.getElem?_map, partB_on HNOW.out HH64.out (.inl rfl) hj64, if_pos rfl, hy]; rfl) (fun i hi => by unfold Lib.byteCells; rw [List.getElem?_map, List.getElem?_map, partB_on HNOW.out HH64.out (.inl rfl) hj64, if_neg hi]))
                rw [List.set_set] at HND
                have HN8 := Lib.hid (h8.out.chg (chg_set wr b (K * 64 + j) (.int .u8 (y.toNat : Int))) (fun e => HNE8.out e))
                clear hlp h8 hfz hold hy
                go_wp2
                go_region
                go_wp2
                go_roundg (64 - (j + 1))
                case measure => omega
                case rel => exact ⟨j + 1, by omega, by omega, by go_num, HND.out.later (Later.refl _).drew, HN8.out.later (Later.refl _).drew⟩
              · by_cases hj32 : j < 32
                · have hfz := hlp.out.own.there (j := K) (p := j) (q := 1) (by rw [List.length_set, List.length_map, HLL.out.1]; exact hKn) (by omega) 0 (by decide)
                  have hold := hfz.1
                  obtain ⟨u0, hu0⟩ : ∃ u, wr.cell? ⟨b, K * 64 + j, none⟩ = some u := Option.isSome_iff_exists.1 hfz.1
                  have hfr0 : wr.frozen? ⟨b, K * 64 + j, none⟩ = false := hfz.2
                  obtain ⟨y, hy⟩ : ∃ y, bx[j]? = some y := ⟨_, List.getElem?_eq_getElem (by rw [HH64.out]; exact hj64)⟩
                  have y1 : wr.cell? ⟨g8, 1 + j, none⟩ = some (.int .u8 (y.toNat : Int)) := h8.out.cell (by rw [List.getElem?_toArray, Nat.add_comm]; show (Lib.byteCells bx)[j]? = _; unfold Lib.byteCells; rw [List.getElem?_map, hy]; rfl)
                  have y0 : wr.cell? ⟨g8, 0, none⟩ = some (.int .i64 (K : Nat)) := h8.out.cell rfl
                  have HND := Lib.hid (hlp.out.set (v := .int .u8 (y.toNat : Int)) (cs' := Lib.byteCells (partB 2 (j + 1) (Lk.getD K []) bx)) (List.getElem?_set_self (by rw [List.length_map, HLL.out.1]; exact hKn)) hj64 (by rw [bc_len]; exact partB_length HNOW.out HH64.out (by omega)) (by unfold Lib.byteCells; rw [List.getElem?_map, partB_on HNOW.out HH64.out (.inr (.inl ⟨rfl, hj32⟩)) hj64, if_pos rfl, hy]; rfl) (fun i hi => by unfold Lib.byteCells; rw [List.getElem?_map, List.getElem?_map, partB_on HNOW.out HH64.out (.inr (.inl ⟨rfl, hj32⟩)) hj64, if_neg hi]))
                  rw [List.set_set] at HND
                  have HN8 := Lib.hid (h8.out.chg (chg_set wr b (K * 64 + j) (.int .u8 (y.toNat : Int))) (fun e => HNE8.out e))
                  clear hlp h8 hfz hold hy
                  go_wp2
                  go_region
                  go_wp2
                  go_roundg (64 - (j + 1))
                  case measure => omega
                  case rel => exact ⟨j + 1, by omega, by omega, by go_num, HND.out.later (Later.refl _).drew, HN8.out.later (Later.refl _).drew⟩
                · have HND := Lib.hid hlp.out
                  rw [← partB_off (f := 2) HNOW.out HH64.out (fun h => h.elim (fun e => absurd e (by decide)) (fun e => e.elim (fun e => hj32 e.2) (fun e => absurd e.1 (by decide)))) hj64] at HND
                  have HN8 := Lib.hid h8.out
                  clear hlp h8
                  go_wp2
                  go_roundg (64 - (j + 1))
                  case measure => omega
                  case rel => exact ⟨j + 1, by omega, by omega, by go_num, HND, HN8⟩
              · by_cases hj32 : j < 32
                · have HND := Lib.hid hlp.out
                  rw [← partB_off (f := 3) HNOW.out HH64.out (fun h => h.elim (fun e => absurd e (by decide)) (fun e => e.elim (fun e => absurd e.1 (by decide)) (fun e => by have := e.2; omega))) hj64] at HND
                  have HN8 := Lib.hid h8.out
                  clear hlp h8
                  go_wp2
                  go_roundg (64 - (j + 1))
                  case measure => omega
                  case rel => exact ⟨j + 1, by omega, by omega, by go_num, HND, HN8⟩
                · have hfz := hlp.out.own.there (j := K) (p := j) (q := 1) (by rw [List.length_set, List.length_map, HLL.out.1]; exact hKn) (by omega) 0 (by decide)
                  have hold := hfz.1
                  obtain ⟨u0, hu0⟩ : ∃ u, wr.cell? ⟨b, K * 64 + j, none⟩ = some u := Option.isSome_iff_exists.1 hfz.1
                  have hfr0 : wr.frozen? ⟨b, K * 64 + j, none⟩ = false := hfz.2
                  obtain ⟨y, hy⟩ : ∃ y, bx[j]? = some y := ⟨_, List.getElem?_eq_getElem (by rw [HH64.out]; exact hj64)⟩
                  have y1 : wr.cell? ⟨g8, 1 + j, none⟩ = some (.int .u8 (y.toNat : Int)) := h8.out.cell (by rw [List.getElem?_toArray, Nat.add_comm]; show (Lib.byteCells bx)[j]? = _; unfold Lib.byteCells; rw [List.getElem?_map, hy]; rfl)
                  have y0 : wr.cell? ⟨g8, 0, none⟩ = some (.int .i64 (K : Nat)) := h8.out.cell rfl
                  have HND := Lib.hid (hlp.out.set (v := .int .u8 (y.toNat : Int)) (cs' := Lib.byteCells (partB 3 (j + 1) (Lk.getD K []) bx)) (List.getElem?_set_self (by rw [List.length_map, HLL.out.1]; exact hKn)) hj64 (by rw [bc_len]; exact partB_length HNOW.out HH64.out (by omega)) (by unfold Lib.byteCells; rw [List.getElem?_map, partB_on HNOW.out HH64.out (.inr (.inr ⟨rfl, by omega⟩)) hj64, if_pos rfl, hy]; rfl) (fun i hi => by unfold Lib.byteCells; rw [List.getElem?_map, List.getElem?_map, partB_on HNOW.out HH64.out (.inr (.inr ⟨rfl, by omega⟩)) hj64, if_neg hi]))
                  rw [List.set_set] at HND
                  have HN8 := Lib.hid (h8.out.chg (chg_set wr b (K * 64 + j) (.int .u8 (y.toNat : Int))) (fun e => HNE8.out e))
                  clear hlp h8 hfz hold hy
                  go_wp2
                  go_region
                  go_wp2
                  go_roundg (64 - (j + 1))
                  case measure => omega
                  case rel => exact ⟨j + 1, by omega, by omega, by go_num, HND.out.later (Later.refl _).drew, HN8.out.later (Later.refl _).drew⟩

            · obtain rfl : j = 64 := by omega
              have HND : Hid (CrLp w wr b c5 n g2 g4 #[.slice A n c, .slice (some ⟨rb, ro, none⟩) m e, .int .i64 (s.ops : Nat), .int .i64 s.fuse, .bool s.down] ((formsR fs 0 (s.row.take (k + 1)) s.l).map Lib.byteCells)) := by
                show CrLp _ _ _ _ _ _ _ _ _
                rw [formsR_step fs HX.out, HLK.out]
                have h1 := hlp.out
                rw [partB_all HNOW.out HH64.out] at h1
                rw [HFB.out]
                unfold takeB
                rw [List.map_set]
                exact h1
              clear hlp h8
              go_wp2
              go_roundg (m - (k + 1))
              case measure => omega
              case rel => exact ⟨k + 1, by omega, by omega, by go_num, HND⟩
        · have HFB : Hid (formB fs k = 0) := by
            show _ = _
            rw [e1, show max 0 x = 0 by omega]
            rfl
          clear e1
          go_wp2_with (with_reducible show wpList _ _ _ ({ dst := some 46, op := Op.load _ _, type := _, pos := _, after := _, guard := _ } :: _) _ _; refine Hid.out ?_)
          refine Lib.hid (wpList_load_mid rfl _ _ rfl rb (ro + k * 65) rfl (rowC ((K : Int), bx)) _ HRG.out Try.underlying49 rfl (by rw [rowC_len (x := ((K : Int), bx)) HH64.out]; exact Try.rwriteSize) ?_)
          refine wpList_alloc_new rfl _ rfl _ Try.rwriteZero ?_
          intro w8 hc8 hl8 _
          refine wpList_store_mids rfl rfl _ _ _ rfl wk.heap.size 0 (rowC ((K : Int), bx)) rfl rfl (hc8.there (by simp only [Value.cells, List.size_toArray]; rw [rowC_len (x := ((K : Int), bx)) HH64.out, rowC_len (x := (0, zeros 64)) (zeros_length 64)]; decide)) (by rw [rowC_len (x := ((K : Int), bx)) HH64.out]; exact Try.rwriteSize) (rowC_one _) ?_
          intro w9 hw9
          have hc9 : CellsAt w9 wk.heap.size (rowC ((K : Int), bx)).toArray 49 := by
            have := hc8.sets (rowC ((K : Int), bx)) (o := 0)
            rw [set_all (by simp only [Value.cells, List.size_toArray]; rw [rowC_len (x := ((K : Int), bx)) HH64.out, rowC_len (x := (0, zeros 64)) (zeros_length 64)])] at this
            rw [hw9]
            exact this
          have hch9 : Chg (fun q => q = wk.heap.size) w8 w9 := by rw [hw9]; exact sets_chg _ _ _
          have hl9 : Later wk w9 := hch9.low hl8 (fun q hq => by rw [hq]; exact Nat.le_refl _)
          have HLP9 := Lib.hid (hlp.out.later hl9)
          have HNE8 : Hid (wk.heap.size ≠ b) := by have := hlp.out.own.lt b rfl; show _ ≠ _; omega
          obtain ⟨g8, hg8⟩ : ∃ g, g = wk.heap.size := ⟨_, rfl⟩
          rw [← hg8] at hc9 HNE8 ⊢
          have HC9 := Lib.hid hc9
          clear hw9 hc8 hl8 hc9 hch9 hl9 HRG hlp hg8
          have HLP0 : Hid (CrLp w w9 b c5 n g2 g4 #[.slice A n c, .slice (some ⟨rb, ro, none⟩) m e, .int .i64 (s.ops : Nat), .int .i64 s.fuse, .bool s.down] ((Lk.map Lib.byteCells).set K (Lib.byteCells (partB 0 0 (Lk.getD K []) bx)))) := by
            show CrLp _ _ _ _ _ _ _ _ _
            rw [partB_zero, list_set_same (by rw [List.getElem?_map, List.getElem?_eq_getElem (show K < Lk.length by rw [HLL.out.1]; exact hKn)]; simp [List.getD, show K < Lk.length by rw [HLL.out.1]; exact hKn])]
            exact HLP9.out
          clear HLP9
          refine Lib.hid ?_
          go_wp2
          go_loopg [9] 65 (fun g0 s9 wr => ∃ (j : Nat), j ≤ 64 ∧ 64 - j ≤ g0 ∧ s9 = .int .i64 (j : Nat) ∧ Hid (CrLp w wr b c5 n g2 g4 #[.slice A n c, .slice (some ⟨rb, ro, none⟩) m e, .int .i64 (s.ops : Nat), .int .i64 s.fuse, .bool s.down] ((Lk.map Lib.byteCells).set K (Lib.byteCells (partB 0 j (Lk.getD K []) bx)))) ∧ Hid (CellsAt wr g8 (rowC ((K : Int), bx)).toArray 49))
          case atStart => exact ⟨0, by omega, by omega, rfl, HLP0, HC9⟩
          case round =>
            clear HLP0 HC9
            obtain ⟨j, hj, hgj, rfl, hlp, h8⟩ := hrel
            by_cases hj64 : j < 64
            · have HND := Lib.hid hlp.out
              rw [← partB_off (f := 0) HNOW.out HH64.out (by rintro (h | ⟨h, _⟩ | ⟨h, _⟩) <;> cases h) hj64] at HND
              have HN8 := Lib.hid h8.out
              clear hlp h8
              go_wp2
              go_roundg (64 - (j + 1))
              case measure => omega
              case rel => exact ⟨j + 1, by omega, by omega, by go_num, HND, HN8⟩

            · obtain rfl : j = 64 := by omega
              have HND : Hid (CrLp w wr b c5 n g2 g4 #[.slice A n c, .slice (some ⟨rb, ro, none⟩) m e, .int .i64 (s.ops : Nat), .int .i64 s.fuse, .bool s.down] ((formsR fs 0 (s.row.take (k + 1)) s.l).map Lib.byteCells)) := by
                show CrLp _ _ _ _ _ _ _ _ _
                rw [formsR_step fs HX.out, HLK.out]
                have h1 := hlp.out
                rw [partB_all HNOW.out HH64.out] at h1
                rw [HFB.out]
                unfold takeB
                rw [List.map_set]
                exact h1
              clear hlp h8
              go_wp2
              go_roundg (m - (k + 1))
              case measure => omega
              case rel => exact ⟨k + 1, by omega, by omega, by go_num, HND⟩
    · obtain rfl : k = m := by omega
      have htk : s.row.take k = s.row := by rw [← HS.out.rlen, List.take_length]
      rw [htk] at hlp
      have hres := hlp.out.res; have hown0 := hlp.out.own; have hbase := hlp.out.base
      clear htk hlp
      go_wp2_with (with_reducible show wpList _ _ _ ({ dst := none, op := Op.store _ _ _, type := _, pos := _, after := _, guard := _ } :: _) _ _; refine Hid.out ?_)
      refine Lib.hid (wpList_store_mids rfl rfl _ _ _ rfl g4 0 [.slice (some ⟨b, 0, none⟩) n c5, .slice none 0 0, .int .i64 (s.ops : Nat), .int .i64 (-1), .bool false] rfl rfl (hres.there (Nat.le_refl _)) Try.stateSize (fun v hv => by
        simp only [List.mem_cons, List.not_mem_nil, or_false] at hv
        rcases hv with rfl | rfl | rfl | rfl | rfl <;> rfl) ?_)
      intro w9 hw9
      have hc9 : CellsAt w9 g4 #[.slice (some ⟨b, 0, none⟩) n c5, .slice none 0 0, .int .i64 (s.ops : Nat), .int .i64 (-1), .bool false] 30 := by
        have := hres.sets [.slice (some ⟨b, 0, none⟩) n c5, .slice none 0 0, .int .i64 (s.ops : Nat), .int .i64 (-1), .bool false] (o := 0)
        rw [hw9]
        exact this
      have hch9 : Chg (fun q => q = g4) wk w9 := by rw [hw9]; exact sets_chg _ _ _
      have hl9 : Later w w9 := hch9.low hbase (fun q hq => by rw [hq]; exact HG.out.2.1)
      have hown9 : OwnK 47 64 w w9 (.slice (some ⟨b, 0, none⟩) n c5) ((formsR fs 0 s.row s.l).map Lib.byteCells) := hown0.chg hch9 (fun q hq e => own_ne2 hown0 hres (by rw [← e]; exact hq)) hl9
      have HEND : Hid (StAt w9 (some ⟨b, 0, none⟩) n none 0 (crashR s fs) ∧ Later w w9 ∧ w.heap.size ≤ b) := by
        obtain ⟨A9, c9, e9, _, hr9⟩ := hown9.row
        cases e9
        rw [List.length_map] at hr9
        have hok := formsR_ok fs HS.out.sz (fun x hx => ⟨(HRW.out x hx).1, by rw [HLEN.out]; exact (HRW.out x hx).2, HS.out.rz x hx⟩)
        rw [hok.1, HLEN.out] at hr9
        exact ⟨⟨hr9, RowK.none, hok.2, (fun x hx => by cases hx), fun _ => rfl⟩, hl9, (hown9.lt b rfl).1⟩
      have HC9 := Lib.hid hc9
      clear hw9 hc9 hch9 hl9 hown9 hres hown0 hbase
      refine Lib.hid ?_
      go_wp2
      refine bodyPost_ret (results_cell_row rfl _ _ g4 _ _ _ _ rfl HC9.out Try.underlying30 rfl Try.stateSize) rfl ?_
      exact ⟨_, c5, rfl, HEND.out.1, HEND.out.2.1, fun a ha => by cases ha; exact HEND.out.2.2⟩
end

end Go.Proofs.Ytaonfedjilfgjaa

/-
  The reference's Do at all kinds, as a call.
-/
namespace Go.Proofs.Ytaonfedjilfgjaa
open Go.RowKit

section
variable {w : World} {A B : Option Addr} {n m : Nat} {s : StP}
set_option maxRecDepth 100000 in
set_option maxHeartbeats 1600000 in
theorem do_crash (h : StAt w A n B m s) (hrw : ∀ x ∈ s.row, 0 ≤ x.1 ∧ x.1 < (n : Nat)) (hn0 : 0 < n) (hn : n ≤ 4096) (hm : m ≤ 900000) (c e : Nat) (x : OpC) (hk : x.kind = 3) (hx : OpOk w x) (hm1 : x.m ≤ 1000000000) :
    Calls Try.prog 16 #[.agg #[.slice A n c, .slice B m e, .int .i64 (s.ops : Nat), .int .i64 s.fuse, .bool s.down], opV x] w fun e9 w' => ∃ A' n' c' B' m' e', e9 = .returned (.tuple #[.agg #[.slice A' n' c', .slice B' m' e', .int .i64 ((doS s x).1.ops : Nat), .int .i64 (doS s x).1.fuse, .bool (doS s x).1.down], .int .i64 (doS s x).2]) ∧ StAt w' A' n' B' m' (doS s x).1 ∧ Later w w' ∧ (∀ a, A' = some a → A' = A ∨ w.heap.size ≤ a.block) ∧ ∀ a, B' = some a → B' = B ∨ w.heap.size ≤ a.block := by
  obtain ⟨kd, k, A1, n1, c1, bs, F, m1, e1, fs⟩ := x
  dsimp only at hk hm1
  subst hk
  have hd : doS s ⟨3, k, A1, n1, c1, bs, F, m1, e1, fs⟩ = (crashR s fs, 0) := rfl
  rw [hd]
  unfold opV opL
  dsimp only
  have hl3 : ∀ o1 o2 o3 : Obj, Later w (((w.alloc o1).alloc o2).alloc o3) := fun _ _ _ => (((Later.refl w).alloc _).alloc _).alloc _
  have HC := Lib.hid (fun w3 (hl : Later w w3) => crashRef_any (h.later hl) hrw hn0 hn hm c e F m1 e1 fs (hx.forms.later hl) hm1 hx.range)
  have HL3 := Lib.hid hl3
  have HR4 : Hid (CellsAt (((w.alloc (.cells #[.slice A n c, .slice B m e, .int .i64 (s.ops : Nat), .int .i64 s.fuse, .bool s.down] 30)).alloc (.cells #[.int .i64 3, .int .i64 k, .slice A1 n1 c1, .slice F m1 e1] 36)).alloc (.cells #[.slice none 0 0, .slice none 0 0, .int .i64 0, .int .i64 0, .bool false] 30)) (w.heap.size + 1 + 1) #[.slice none 0 0, .slice none 0 0, .int .i64 0, .int .i64 0, .bool false] 30) := made3 w _ _ #[.slice none 0 0, .slice none 0 0, .int .i64 0, .int .i64 0, .bool false] 30
  clear h hrw hx hd hl3
  go_enter Try.func16, Try.ntmps16
  go_wp2_with fail
  refine (HC.out _ (HL3.out _ _ _)).mono ?_
  rintro e5 w4 ⟨A', c', rfl, hst, hl4, hA⟩
  have hl := (HL3.out (.cells #[.slice A n c, .slice B m e, .int .i64 (s.ops : Nat), .int .i64 s.fuse, .bool s.down] 30) (.cells #[.int .i64 3, .int .i64 k, .slice A1 n1 c1, .slice F m1 e1] 36) (.cells #[.slice none 0 0, .slice none 0 0, .int .i64 0, .int .i64 0, .bool false] 30)).trans hl4
  have hr4 := HR4.out.later hl4
  have HA : Hid (∀ a, A' = some a → w.heap.size + 1 + 1 < a.block) := fun a ha => by
    have h1 := hA a ha
    have h2 := HR4.out.lt
    omega
  have HLT := Lib.hid (hst.lLt hn0)
  obtain ⟨g4, hg4⟩ : ∃ g, g = w.heap.size + 1 + 1 := ⟨_, rfl⟩
  have hgw : w.heap.size ≤ g4 := by omega
  rw [← hg4] at hr4 HA ⊢
  clear hg4 hl4 hA HC HL3 HR4
  go_wp2_with (with_reducible show wpList _ _ _ ({ dst := none, op := Op.store _ _ _, type := _, pos := _, after := _, guard := _ } :: _) _ _; refine Hid.out ?_)
  refine Lib.hid (wpList_store_mids rfl rfl _ _ _ rfl g4 0 [.slice A' n c', .slice none 0 0, .int .i64 (s.ops : Nat), .int .i64 (-1), .bool false] rfl rfl (hr4.there (Nat.le_refl _)) Try.stateSize (fun v hv => by
    simp only [List.mem_cons, List.not_mem_nil, or_false] at hv
    rcases hv with rfl | rfl | rfl | rfl | rfl <;> rfl) ?_)
  intro w9 hw9
  have hc9 : CellsAt w9 g4 #[.slice A' n c', .slice none 0 0, .int .i64 (s.ops : Nat), .int .i64 (-1), .bool false] 30 := by
    have := hr4.sets [.slice A' n c', .slice none 0 0, .int .i64 (s.ops : Nat), .int .i64 (-1), .bool false] (o := 0)
    rw [hw9]
    exact this
  have hch9 : Chg (fun q => q = g4) w4 w9 := by rw [hw9]; exact sets_chg _ _ _
  have HEND : Hid (StAt w9 A' n none 0 (crashR s fs) ∧ Later w w9) := ⟨hst.chg hch9 (fun a ha e => by have := HA.out a ha; omega) (fun a ha => by cases ha), hch9.low hl fun q hq => by rw [hq]; exact hgw⟩
  have HC9 := Lib.hid hc9
  clear hw9 hc9 hch9 hst hl hr4
  (try simp only [Act.put, List.setIfInBounds_toArray, List.set_cons_zero, List.set_cons_succ])
  go_wp2
  (try simp only [Exit.inBlock, Exit.then])
  refine bodyPost_ret (results_cell_two rfl _ _ g4 _ _ _ _ rfl HC9.out Try.underlying30 rfl Try.stateSize) rfl ?_
  exact ⟨A', n, c', none, 0, 0, rfl, HEND.out.1, HEND.out.2, fun a ha => .inr (by have := HA.out a ha; omega), fun a ha => by cases ha⟩
/-- The reference's Do. -/
theorem do_full (h : StAt w A n B m s) (hrw : ∀ x ∈ s.row, 0 ≤ x.1 ∧ x.1 < (n : Nat)) (hn0 : 0 < n) (c e : Nat) (x : OpC) (hx : OpOk w x) (hn1 : x.n ≤ 100000) (hm1 : x.m ≤ 1000000000) (ho : s.ops ≤ 1000000000) (hf0 : -9223372036854775808 ≤ s.fuse) (hf1 : s.fuse ≤ 9223372036854775807) (hm : m ≤ 900000) (hn : n ≤ 4096) :
    Calls Try.prog 16 #[.agg #[.slice A n c, .slice B m e, .int .i64 (s.ops : Nat), .int .i64 s.fuse, .bool s.down], opV x] w fun e9 w' => ∃ A' n' c' B' m' e', e9 = .returned (.tuple #[.agg #[.slice A' n' c', .slice B' m' e', .int .i64 ((doS s x).1.ops : Nat), .int .i64 (doS s x).1.fuse, .bool (doS s x).1.down], .int .i64 (doS s x).2]) ∧ StAt w' A' n' B' m' (doS s x).1 ∧ Later w w' ∧ (∀ a, A' = some a → A' = A ∨ w.heap.size ≤ a.block) ∧ ∀ a, B' = some a → B' = B ∨ w.heap.size ≤ a.block := by
  by_cases hk : x.kind = 3
  · exact do_crash h hrw hn0 hn hm c e x hk hx hm1
  · have e1 : doS s x = doR s x := by unfold doS; rw [if_neg hk]
    rw [e1]
    exact do_all h c e x hk hx hn1 ho hf0 hf1 hm hn
end

end Go.Proofs.Ytaonfedjilfgjaa

/-
  What the law BlockLost comes to, as a call.
-/
namespace Go.Proofs.Ytaonfedjilfgjaa
open Go.RowKit

/-- What the law's loop keeps. -/
structure LostLp (W w : World) (S : Nat → Prop) (g k : Nat) (d : DvP) (f : List Bs) (lb ln : Nat) : Prop where
  dev : DevAt W w S g d
  inv : LostI d f
  arm : DownI (-1) d
  last : BsAt w (some ⟨lb, 0, none⟩) ln f.flatten
  lt : lb < w.heap.size
  out : ¬ S lb
  ops : d.ops ≤ k
  row : d.row.length ≤ k
theorem downI_newL (n : Nat) : DownI (-1) (newP n) := by
  refine ⟨?_, rfl, fun h => absurd h (by decide)⟩
  show false = decide (0 ≤ (-1 : Int) ∧ (-1 : Int) < ((0 : Nat) : Int))
  decide
theorem ints_made (w : World) (z : Int) : IntsAt (w.alloc (.cells #[.int .i64 z] 3)) (some ⟨w.heap.size, 0, none⟩) 1 [z] := ⟨rfl, fun _ => ⟨_, _, rfl, fun j x hx => by
  match j, hx with
  | 0, hx =>
    simp at hx; subst hx
    exact (CellsAt.made w #[.int .i64 z] 3).cell (i := 0) rfl
  | j + 1, hx => simp at hx⟩⟩

end Go.Proofs.Ytaonfedjilfgjaa
