/-
  The blocks as they were flushed: back, as a call.
-/
import Derived.Test.YtknjkkdoeanhbaaBkBackH
import Derived.Test.YtknjkkdoeanhbaaBkBackR
import Derived.Test.YtknjkkdoeanhbaaBkTake
namespace Go.Proofs.Ytknjkkdoeanhbaa
open Go.RowKit
attribute [local go_sem] Oper.semAt_some

section
variable {W w V V' : World} {S : Nat → Prop} {g l B : Nat} {d : DvP} {o o' : Obj}
theorem chg_shut (V : World) (l : Nat) (o' : Obj) : Chg (fun q => q = l) V (V.putObj l o') := ⟨rfl, rfl, rfl, by simp, fun i _ hne => World.putObj_heap_other hne⟩
theorem DevAt.shut (h : DevAt W V S g d) (hS : ∀ q, S q → q ≠ l) (hl : W.heap.size ≤ l) : DevAt W (V.putObj l o') S g d :=
  h.chg (chg_shut V l o') hS ((chg_shut V l o').low h.base fun q hq => by rw [hq]; exact hl)
theorem CellsAt.shut {q : Nat} {cs : Array Value} {T : TypeId} (h : CellsAt V q cs T) (hl : V.heap[l]? = some o) (ho : o.isCells = false) : CellsAt (V.putObj l o') q cs T :=
  h.chg (chg_shut V l o') (fun e => by
    subst e
    unfold CellsAt at h
    rw [h] at hl
    cases hl
    cases ho)
theorem KeepsFrom.chg {q : Nat} {cs : Array Value} {T : TypeId} (h : Chg (fun k => k = q) V V') (hb : CellsAt V q cs T) : KeepsFrom B V V' :=
  ⟨h.size, fun k o _ hk ho => (h.block k (Array.getElem?_eq_some_iff.1 hk).1 (fun e => by
    subst e
    unfold CellsAt at hb
    rw [hb] at hk
    cases hk
    cases ho)).trans hk⟩
theorem KeepsFrom.ofLater (h : Later V V') : KeepsFrom B V V' := ⟨h.size, fun k _ _ hk _ => (h.block k (Array.getElem?_eq_some_iff.1 hk).1).trans hk⟩
/-- Between two rounds of back. -/
structure InvB (W w : World) (S : Nat → Prop) (g gb : Nat) (d : DvP) (A : Option Addr) (n c Bs k : Nat) (V : World) : Prop where
  dev : DevAt W V S g { d with bl := backP d.bl (d.row.drop (n - k)) }
  box : CellsAt V gb #[.pointer (some ⟨g, 0, none⟩)] 25
  row : RowOk A n c Bs d.row V
  chg : Chg S w V
theorem InvB.later {gb n c Bs k : Nat} {A : Option Addr} (h : InvB W w S g gb d A n c Bs k V) (hl : Later V V') : InvB W w S g gb d A n c Bs k V' := ⟨h.dev.later hl, h.box.later hl, h.row.later hl, h.chg.then hl⟩
theorem InvB.shut {gb n c Bs k : Nat} {A : Option Addr} (h : InvB W w S g gb d A n c Bs k V) (hw : w.heap.size ≤ l) (hS : ∀ q, S q → q < w.heap.size) (hW : W.heap.size ≤ w.heap.size) (hl : V.heap[l]? = some o) (ho : o.isCells = false) : InvB W w S g gb d A n c Bs k (V.putObj l o') :=
  ⟨h.dev.shut (fun q hq e => by have := hS q hq; omega) (by omega), h.box.shut hl ho, h.row.shut hl ho, h.chg.trans (chg_shut V l o') fun q hq => by rw [hq]; exact .inr hw⟩

set_option maxRecDepth 100000 in
set_option maxHeartbeats 1600000 in
theorem back_any (h : DevAt W w S g d) (hro : d.row.length ≤ 900000) :
    Calls Try.prog 38 #[.pointer (some ⟨g, 0, none⟩)] w fun e w' => e = .returned (.tuple #[]) ∧ DevAt W w' S g { d with bl := backP d.bl d.row } ∧ Chg S w w' := by
  obtain ⟨b, cc, A, n, c, hb, h1, hc, h2, hm, hc2, hr2, sb, bg, s2⟩ := h.parts
  have hlS : ∀ q, S q → q < w.heap.size := fun q hq => (h.low q hq).2
  have hWw := h.base.le
  have hl1 : Later w (w.alloc (.cells #[.pointer (some ⟨g, 0, none⟩)] 25)) := (Later.refl w).alloc _
  have q1 := (hb.later hl1).cell (i := 1) rfl
  simp only [List.getElem_toArray, List.getElem_cons_zero, List.getElem_cons_succ] at q1
  have HH := Lib.hid h; have HR := Lib.hid hr2; have HLS := Lib.hid hlS; have HWW := Lib.hid hWw
  have HXS : Hid (∀ x ∈ d.row, x.was.length = 64 ∧ x.is.length = 64) := fun x hx => (h.ok.row x hx).2
  have hgl := hb.lt
  have HBK := Lib.hid (fun (w1 : World) => backW_any A n c w1)
  have HM := Lib.hid hm; have HTY := Lib.hid h2.typed
  clear h hb h1 h2 s2 hlS hm
  refine (callsIn_wide (n := 3)).1 (callsIn_of_wp_marks Try.func38 rfl trivial (wpIn_wide.2 ?_) rfl)
  simp only [Try.ntmps38, List.size_toArray, List.length_cons, List.length_nil, Nat.reduceAdd, Nat.reduceSub, Array.replicate_succ, Array.replicate_zero, List.push_toArray, List.append_toArray, List.nil_append, List.cons_append]
  go_wp2_with fail
  refine (HBK.out _).mono ?_
  rintro e w1 ⟨rfl, rfl⟩
  clear HBK
  go_wp2_with fail
  obtain ⟨b0, b1, hl0, hsz⟩ : CellsAt ((w.alloc (.cells #[.pointer (some ⟨g, 0, none⟩)] 25)).alloc (.cells #[.slice A n c] 65)) w.heap.size #[.pointer (some ⟨g, 0, none⟩)] 25 ∧ CellsAt ((w.alloc (.cells #[.pointer (some ⟨g, 0, none⟩)] 25)).alloc (.cells #[.slice A n c] 65)) (w.heap.size + 1) #[.slice A n c] 65 ∧ Later w ((w.alloc (.cells #[.pointer (some ⟨g, 0, none⟩)] 25)).alloc (.cells #[.slice A n c] 65)) ∧ ((w.alloc (.cells #[.pointer (some ⟨g, 0, none⟩)] 25)).alloc (.cells #[.slice A n c] 65)).heap.size = w.heap.size + 2 := by
    refine ⟨(CellsAt.made w _ _).later ((Later.refl _).alloc _), ?_, ((Later.refl w).alloc _).alloc _, by simp⟩
    have := CellsAt.made (w.alloc (.cells #[.pointer (some ⟨g, 0, none⟩)] 25)) #[.slice A n c] 65
    rw [World.size_alloc] at this
    exact this
  generalize (w.alloc (.cells #[.pointer (some ⟨g, 0, none⟩)] 25)).alloc (.cells #[.slice A n c] 65) = wL at b0 b1 hl0 hsz ⊢
  clear q1 hl1
  have hrow : RowOk A n c (w.heap.size + 1) d.row wL := ⟨HR.out.later hl0, b1.cell rfl, fun q hq => (HTY.out q hq).imp fun _ hc => hc.later hl0⟩
  have hI0 : InvB W w S g w.heap.size d A n c (w.heap.size + 1) 0 wL := by
    refine ⟨?_, b0, hrow, Chg.later hl0⟩
    rw [Nat.sub_zero, List.drop_of_length_le (by rw [HM.out]; exact Nat.le_refl _)]
    exact HH.out.later hl0
  refine range_rows (zs := roundsW d.row) (w0 := wL) rfl (enters_of Try.func51 (by kernel_rfl) rfl) (backW_hands 2 (w.heap.size + 1) (by decide) A n c d.row (by rw [HM.out]; omega) wL hrow) (Later.refl _) (fun _ => rfl) (fun h k => fun h0 => k (h h0)) (fun V l o o' _ hh ho => fun h0 => h0.shut hh ho)
    (InvB W w S g w.heap.size d A n c (w.heap.size + 1)) (fun _ _ => False)
    (fun k z a' V => InvB W w S g w.heap.size d A n c (w.heap.size + 1) k V ∧ ∃ gx, CellsAt V gx (wrL z.2).toArray 75 ∧ a' = { tmps := #[.pointer (some ⟨g, 0, none⟩), .pointer (some ⟨w.heap.size, 0, none⟩), undef, .pointer (some ⟨gx, 0, none⟩), .pointer (some ⟨g, 0, none⟩), .pointer (some ⟨g, 0, none⟩), .pointer (some ⟨g, 1, none⟩), .slice A n c, .func (.func 51) #[] #[.pointer (some ⟨w.heap.size + 1, 0, none⟩)], .int .i64 z.1, .agg (wrL z.2).toArray, undef, undef, undef, undef, undef, undef, undef, undef, undef], defers := [] })
    (fun k V l o o' h1 hl hh ho => h1.shut (by omega) HLS.out HWW.out hh ho) (fun k V l o o' h => h.elim) (fun k z a' V l o o' ⟨h1, gx, h2, h3⟩ hl hh ho => ⟨h1.shut (by omega) HLS.out HWW.out hh ho, gx, h2.shut hh ho, h3⟩)
    (fun o o' h => h.later (((Later.refl wL).alloc o).alloc o')) hI0 ?assign ?body ?done ?stop
  case assign =>
    intro l k z V K hz hi hK
    obtain ⟨j, x⟩ := z
    have hxx := HXS.out x (List.mem_of_getElem? (roundsW_at hz).2)
    simp only [backVW]
    gi_wp2_with (with_reducible show wpListIn _ _ _ _ _ ({ dst := some 3, op := Op.alloc 75, type := _, pos := _, after := _, guard := _ } :: _) _ _; refine Hid.out ?_)
    refine Lib.hid (wpListIn_round rfl (fun c e => by cases e) (wp_alloc_new _ rfl _ Try.writeZero fun w2 hc2' hl2 hs2 => ?_))
    refine wpListIn_round rfl (fun c e => by cases e) (wp_store_mid _ _ _ rfl V.heap.size 0 (wrL x).toArray rfl rfl (hc2'.there (by simp only [List.size_toArray, Value.cells]; rw [wrL_len hxx, wrL_len ⟨zeros_length 64, zeros_length 64⟩]; decide)) (by simp only [List.size_toArray]; rw [wrL_len hxx]; exact Try.writeSize) (all_oneCell_toArray (wrL_one x)) ?_)
    have hl3 : Later V (w2.setCells V.heap.size 0 (wrL x)) := (sets_chg (g := V.heap.size) (wrL x) w2 0).low hl2 (fun k hk => by rw [hk]; exact Nat.le_refl _)
    have hc3 : CellsAt (w2.setCells V.heap.size 0 (wrL x)) V.heap.size (wrL x).toArray 75 := by
      have := hc2'.sets (wrL x) (o := 0)
      rw [set_all (by simp only [Value.cells, List.size_toArray]; rw [wrL_len hxx, wrL_len ⟨zeros_length 64, zeros_length 64⟩])] at this
      exact this
    exact hK _ _ (KeepsFrom.ofLater hl3) (fun h0 => h0.later hl3) ⟨hi.later hl3, _, hc3, rfl⟩
  case body =>
    rintro l k ⟨j, x⟩ a' V hz ⟨hi, gx, hbx, rfl⟩
    obtain ⟨hj, hat⟩ := roundsW_at hz
    dsimp only at hj hat hbx ⊢
    have hxr := HH.out.ok.row x (List.mem_of_getElem? hat)
    obtain ⟨b', cc', A', n', c', hb', g1, gc, g2, gm, gc2, gr2, gsb, gbg, gs2⟩ := hi.dev.parts
    have hbl : (backP d.bl (d.row.drop (n - k))).length = d.bl.length := backP_length _
    dsimp only at hb' g1 gc g2 gm gs2
    rw [hbl] at hb' g1 gc
    have hth : ∀ v, Later V v → v.there b' (x.pl * 64) (Lib.byteCells x.was).length := fun v hv => by
      have := (g1.on hv).there (j := x.pl) (p := 0) (q := 64) (by simp only [blL, List.length_map]; rw [hbl]; exact hxr.1) (by decide)
      rw [bc_len, hxr.2.1]
      exact this
    refine wpIn_block (bkBack3 rfl (by kernel_rfl) (by kernel_rfl) ⟨_, rfl, rfl, rfl, rfl, by kernel_rfl⟩ ⟨_, rfl, rfl, rfl, rfl, by kernel_rfl⟩ ⟨_, rfl, rfl, rfl, rfl, by kernel_rfl⟩ ⟨_, rfl, rfl, rfl, rfl, by kernel_rfl⟩ ⟨_, rfl, rfl, rfl, rfl, by kernel_rfl⟩ ⟨_, rfl, rfl, rfl, rfl, by kernel_rfl⟩ ⟨_, rfl, rfl, rfl, rfl, by kernel_rfl⟩ ⟨_, rfl, rfl, rfl, rfl, by kernel_rfl⟩ ⟨_, rfl, rfl, rfl, rfl, by kernel_rfl⟩ ⟨_, rfl, rfl, rfl, rfl, by kernel_rfl⟩ (of_decide_eq_true rfl) (gb := w.heap.size) (gx := gx) (b := b') (N := d.bl.length) (c := cc') (x := x) rfl rfl (hi.box.cell rfl) (hb'.cell rfl) hbx hxr.2.1 hxr.1 hth (fun ⟨_, _, h⟩ => h) (fun a w1 w2 v0 so l1 hx => ?_))
    have hw2 : w2 = w1.setCells b' (x.pl * 64) (Lib.byteCells x.was) := hx
    have hch : Chg (fun q => q = b') w1 w2 := by rw [hw2]; exact sets_chg _ _ _
    have hch2 : Chg (fun q => q = b') V w2 := (Chg.later l1).trans hch fun q hq => .inl hq
    obtain ⟨curb, hcb⟩ := g1.typed b' rfl
    have hdw : d.row.drop j = x :: d.row.drop (j + 1) := by
      have hjl := (List.getElem?_eq_some_iff.1 hat)
      obtain ⟨h1, h2⟩ := hjl
      rw [← h2]
      exact List.drop_eq_getElem_cons h1
    have hnk : n - k = j + 1 := by have := HM.out; omega
    have hbk : backP d.bl (d.row.drop (n - (k + 1))) = (backP d.bl (d.row.drop (n - k))).set x.pl x.was := by
      rw [show n - (k + 1) = j by omega, hdw, hnk]
      rfl
    have hset : OwnK 73 64 W w2 (.slice (some ⟨b', 0, none⟩) d.bl.length cc') ((backP d.bl (d.row.drop (n - (k + 1)))).map Lib.byteCells) := by
      have := (g1.on l1).setAll (j := x.pl) (vs := Lib.byteCells x.was) (by simp only [blL, List.length_map]; rw [hbl]; exact hxr.1) (by rw [bc_len]; exact hxr.2.1)
      rw [hw2, hbk, List.map_set]
      exact this
    have hdev : DevAt W w2 S g { d with bl := backP d.bl (d.row.drop (n - (k + 1))) } := by
      have := (hi.dev.later l1).blocks (bl' := backP d.bl (d.row.drop (n - (k + 1)))) (b := b') (c := cc') (m := n') (c2 := c') (B := A') (by dsimp only; rw [hbl]; exact hb'.later l1) (g2.on l1) gsb gbg gs2 hch (by dsimp only; rw [hbl]; exact hset) (by dsimp only; rw [backP_length, backP_length]) (fun y hy => backP_size HH.out.ok.size (fun z hz => (HH.out.ok.row z (List.mem_of_mem_drop hz)).2.1) y hy)
      exact this
    have hbne : b' ≠ w.heap.size := fun e => by have := HLS.out b' gsb; omega
    have hrowk : RowOk A n c (w.heap.size + 1) d.row w2 := by
      have hne : ∀ q, (Value.slice A n c).ownBlock = some q → q ≠ b' := fun q hq => by
        obtain ⟨cq, hq2⟩ := hi.row.2.2 q hq
        exact cells_apart hq2 hcb (by decide)
      refine ⟨⟨hi.row.1.1, hi.row.1.2.1, fun h0 => ?_⟩, hch2.cell hi.row.2.1 (fun e => by have := HLS.out b' gsb; dsimp only at e; omega), fun q hq => ?_⟩
      · obtain ⟨bq, oq, e, hcq⟩ := hi.row.1.2.2 h0
        exact ⟨bq, oq, e, fun j i cs v h1 h2 => hch2.cell (hcq j i cs v h1 h2) (hne bq (by rw [e]; rfl))⟩
      · obtain ⟨cq, hq2⟩ := hi.row.2.2 q hq
        exact ⟨cq, hq2.chg hch2 (hne q hq)⟩
    refine ⟨(KeepsFrom.ofLater l1).trans (KeepsFrom.chg hch (hcb.later l1)), fun _ => hrowk, hdev, (hi.box.later l1).chg hch (fun e => hbne e.symm), hrowk, hi.chg.trans hch2 fun q hq => .inl (by rw [hq]; exact gsb)⟩
  case done =>
    rintro D V hD hi hd
    have hdev := hi.dev
    rw [roundsW_length, HM.out, Nat.sub_self, List.drop_zero] at hdev
    have HDV := Lib.hid hdev; have HCG := Lib.hid hi.chg; have HD := Lib.hid hd
    clear hdev hi hd
    go_wp2
    refine ⟨by simp, .inl ⟨_, _, rfl, run_takeDeferred HD.out, ?_⟩⟩
    have hWD : W.heap.size ≤ D := by have := HWW.out; omega
    exact ⟨_, results_none rfl _ _ _, rfl, HDV.out.shut (fun q hq e => by have := HLS.out q hq; omega) hWD, HCG.out.trans (chg_shut V D _) fun q hq => by rw [hq]; exact .inr (by omega)⟩
  case stop =>
    rintro D k V _ _ h _
    exact h.elim
end

end Go.Proofs.Ytknjkkdoeanhbaa
