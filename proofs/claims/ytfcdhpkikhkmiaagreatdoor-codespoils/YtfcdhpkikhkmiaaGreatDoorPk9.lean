import Derived.Test.YtfcdhpkikhkmiaaGreatDoorPk8
import Derived.Test.YtfcdhpkikhkmiaaGreatDoorPk4
import Derived.StillTailTactics
import Derived.Test.YtfcdhpkikhkmiaaGreatDoorPk7
import Derived.Deep.LoopGhost
import Derived.Deep.QuietTactic
import Derived.BigQuiet

/-
  An In's Prim, as a call.
-/
namespace Go.Proofs.YtfcdhpkikhkmiaaGreatDoor
open Go.RowKit Go.Maps

theorem got_of {α : Type} {W w w' : World} {g : Nat} {zero : Value} {V : α → World → Value → Prop} {r : Option (α × Bs)} {s : Bs} {e : Ending} (h : GivesV W g zero V r s w e w') (x0 : α) (hz : V x0 w' zero) (P : α → Prop) (h0 : P x0) (hp : ∀ x t, r = some (x, t) → P x) :
    ∃ x t v bd, e = .returned v ∧ V x w' v ∧ InAt W w' g t bd ∧ Got r bd x t ∧ P x ∧ Turned g w w' := by
  obtain ⟨ht, ⟨hr, rfl, hi⟩ | ⟨x, t, v, hr, rfl, hv, hi⟩⟩ := h
  · exact ⟨x0, s, zero, true, rfl, hz, hi, .inl ⟨rfl, hr⟩, h0, ht⟩
  · exact ⟨x, t, v, false, rfl, hv, hi, .inr ⟨rfl, hr⟩, hp x t hr, ht⟩
theorem owns_row {B : Nat} {w : World} {A : Option Addr} {n c : Nat} {ss : List ByteArray} (h : w.ownsRow B 9 1 (.slice A n c) ss.length (ss.map Value.string)) : n = ss.length ∧ n ≤ c ∧ Row w A n ss := by
  rcases h.2 with ⟨hv, h0⟩ | ⟨b, cap, cur, hv, hb, hh, hnc, _⟩
  · cases hv
    have : ss = [] := List.eq_nil_of_length_eq_zero h0
    subst this
    exact ⟨rfl, Nat.le_refl _, Row.none⟩
  · cases hv
    refine ⟨rfl, hnc, rfl, fun _ => ⟨b, 0, rfl, fun j s hj => ?_⟩⟩
    have hc := h.cells (g := b) rfl j (.string s) (by rw [List.getElem?_map, hj]; rfl)
    rw [plain_add] at hc
    exact hc
theorem vT_slice {B : Nat} {w : World} {v : Value} {ss : List ByteArray} (h : vT B ss w v) : ∃ A n c, v = .slice A n c ∧ w.ownsRow B 9 1 (.slice A n c) ss.length (ss.map Value.string) := by
  rcases h.2 with ⟨rfl, h0⟩ | ⟨b, cap, cur, rfl, _⟩
  · exact ⟨none, 0, 0, rfl, h⟩
  · exact ⟨_, _, _, rfl, h⟩
theorem text_small {m : Int} {b : Bool} {s t : Bs} {x : ByteArray} (hs : s.length ≤ 190000) (h : (if b = true then none else textR m s) = some (x, t)) : x.size ≤ 190000 := by
  cases b
  · have e := (textR_some h).1
    rw [e, List.length_append, textC_length] at hs
    omega
  · cases h
theorem texts_small {m e : Int} {b : Bool} {s t : Bs} {l : List ByteArray} (hs : s.length ≤ 190000) (h : (if b = true then none else textsR m e s) = some (l, t)) : l.length ≤ 65536 ∧ ∀ x ∈ l, x.size ≤ 190000 := by
  cases b
  · have h1 := textsR_many h
    refine ⟨by omega, fun x hx => ?_⟩
    have e := (textsR_some h).1
    have h2 := mem_flat_length (f := textC) hx
    rw [e] at hs
    unfold rowC at hs
    simp only [List.length_append] at hs
    rw [textC_length] at h2
    omega
  · cases h
theorem num_small {b : Bool} {s t : Bs} {n : Int} (h : (if b = true then none else numR s) = some (n, t)) : -1099511627776 ≤ n ∧ n ≤ 1099511627776 := by
  cases b
  · exact (numR_some h).2
  · cases h

theorem results_p2 {P : Program} {fn : Func} {i j : Tmp} (h : fn.results = #[.cell i 57, .tmp j]) (hP : P = Tryz.prog) (tmps : Array Value) (w : World) (g : Nat) (y : PrC) (b : Value) {t : TypeId}
    (h4 : tmps.getD i undef = .pointer (some ⟨g, 0, none⟩)) (h5 : tmps.getD j undef = b) (c4 : BoxAt w g (prL y).toArray t) : (results fn tmps).run P w = .ok (.tuple #[prV y, b]) w := by
  subst hP
  have p4 : tmps[i]?.getD undef = .pointer (some ⟨g, 0, none⟩) := by simpa using h4
  have p5 : tmps[j]?.getD undef = b := by simpa using h5
  have r4 := run_loadVar_row (P := Tryz.prog) w g t 57 (prL y).toArray (0, 0) _ c4 Tryz.underlying57 rfl Tryz.primSize
  simp [results, h, p4, p5, asAddr, r4, prV, prL]
theorem readsP_end {W w V : World} {g B : Nat} {s t : Bs} {bad : Bool} {x : PrC} (hg : (bad = false ∧ rightP x.v = true ∧ primR s = some (x.v, t)) ∨ ((rightP x.v && !bad) = false ∧ primR s = none)) (ht : Turned g w V) (hi : InAt W V g t bad) (ho : OwnP B V x) : ReadsP W g B (primR s) w (.returned (.tuple #[prV x, .bool (rightP x.v)])) V := by
  refine ⟨ht, x, rightP x.v, t, bad, rfl, hi, ?_⟩
  rcases hg with ⟨h1, h2, h3⟩ | ⟨h1, h2⟩
  · exact .inl ⟨h3, ho, h2, h1⟩
  · exact .inr ⟨h2, h1⟩

section
variable (W : World) (hB : Base W) (g : Nat) (s : Bs) (w : World)
include hB
set_option maxRecDepth 100000 in
set_option maxHeartbeats 3200000 in
theorem rightPrim_any (B : Nat) (hBw : B ≤ w.heap.size) (h : InAt W w g s false) : Calls Tryz.prog 74 (#[.pointer (some ⟨g, 0, none⟩)] ++ #[]) w (ReadsP W g B (primR s) w) := by
  suffices H : ∀ R : Ending → World → Prop, (∀ e w', ReadsP W g B (primR s) w e w' → R e w') → Calls Tryz.prog 74 #[.pointer (some ⟨g, 0, none⟩)] w R from H _ (fun _ _ h => h)
  intro R hR
  have HRR := Lib.hid hR
  have HG : Hid (w.heap.size ≠ g) := by have := h.lt; show _ ≠ _; omega
  have HG1 : Hid (w.heap.size + 1 ≠ g) := by have := h.lt; show _ ≠ _; omega
  have HNE : Hid (w.heap.size ≠ w.heap.size + 1) := by show _ ≠ _; omega
  have HWW : Hid (W.heap.size ≤ w.heap.size) := h.base.le
  have HWP : Hid (W.heap.size ≤ w.heap.size + 1) := Nat.le_succ_of_le h.base.le
  have hl0 : Later w ((w.alloc (.cells #[.int .i64 0, .string ⟨#[]⟩, .string ⟨#[]⟩, .int .i64 0, .slice none 0 0, .slice none 0 0] 57)).alloc (.cells #[.int .i64 0, .string ⟨#[]⟩, .string ⟨#[]⟩, .int .i64 0, .slice none 0 0, .slice none 0 0] 57)) := ((Later.refl w).alloc _).alloc _
  have HR0 : Hid (BoxAt ((w.alloc (.cells #[.int .i64 0, .string ⟨#[]⟩, .string ⟨#[]⟩, .int .i64 0, .slice none 0 0, .slice none 0 0] 57)).alloc (.cells #[.int .i64 0, .string ⟨#[]⟩, .string ⟨#[]⟩, .int .i64 0, .slice none 0 0, .slice none 0 0] 57)) w.heap.size #[.int .i64 0, .string ⟨#[]⟩, .string ⟨#[]⟩, .int .i64 0, .slice none 0 0, .slice none 0 0] 57) := (BoxAt.made w _ _).alloc _
  have HP0 : Hid (BoxAt ((w.alloc (.cells #[.int .i64 0, .string ⟨#[]⟩, .string ⟨#[]⟩, .int .i64 0, .slice none 0 0, .slice none 0 0] 57)).alloc (.cells #[.int .i64 0, .string ⟨#[]⟩, .string ⟨#[]⟩, .int .i64 0, .slice none 0 0, .slice none 0 0] 57)) (w.heap.size + 1) #[.int .i64 0, .string ⟨#[]⟩, .string ⟨#[]⟩, .int .i64 0, .slice none 0 0, .slice none 0 0] 57) := by
    have := BoxAt.made (w.alloc (.cells #[.int .i64 0, .string ⟨#[]⟩, .string ⟨#[]⟩, .int .i64 0, .slice none 0 0, .slice none 0 0] 57)) #[.int .i64 0, .string ⟨#[]⟩, .string ⟨#[]⟩, .int .i64 0, .slice none 0 0, .slice none 0 0] 57
    rw [World.size_alloc] at this
    exact this
  have HI0 := Lib.hid (h.later hl0)
  have HT0 : Hid (Turned g w ((w.alloc (.cells #[.int .i64 0, .string ⟨#[]⟩, .string ⟨#[]⟩, .int .i64 0, .slice none 0 0, .slice none 0 0] 57)).alloc (.cells #[.int .i64 0, .string ⟨#[]⟩, .string ⟨#[]⟩, .int .i64 0, .slice none 0 0, .slice none 0 0] 57))) := hl0.turned g
  have HBS : Hid (∀ V, Turned g w V → B ≤ V.heap.size) := fun V hV => Nat.le_trans hBw hV.size
  clear hR h hl0 hBw
  go_enter Tryz.func74, Tryz.ntmps74
  go_upto_region 2 with fail
  generalize (w.alloc (.cells #[.int .i64 0, .string ⟨#[]⟩, .string ⟨#[]⟩, .int .i64 0, .slice none 0 0, .slice none 0 0] 57)).alloc (.cells #[.int .i64 0, .string ⟨#[]⟩, .string ⟨#[]⟩, .int .i64 0, .slice none 0 0, .slice none 0 0] 57) = w0 at *
  have HC := Lib.hid (inNum_any W hB g s w0 false HI0.out)
  go_wp2_with fail
  refine HC.out.mono ?_
  rintro e v1 hg
  obtain ⟨kd, t1, _, b1, rfl, rfl, hi, hgot, hP, ht⟩ := got_of hg 0 rfl (fun n => -1099511627776 ≤ n ∧ n ≤ 1099511627776) (by decide) (fun x t h => num_small (b := false) h)
  have HGT1 := Lib.hid hgot; have HPP1 := Lib.hid hP
  have hp1 := HP0.out.other ht HG1.out
  have hr1 := HR0.out.other ht HG.out
  have hset := turned_set v1 (w.heap.size + 1) 0 (.int .i64 kd)
  have k1 := hp1.cell (i := 0) rfl
  have k2 := hp1.frozen 0
  have HP1 : Hid (BoxAt (v1.setCell ⟨w.heap.size + 1, 0, none⟩ (.int .i64 kd)) (w.heap.size + 1) #[.int .i64 kd, .string ⟨#[]⟩, .string ⟨#[]⟩, .int .i64 0, .slice none 0 0, .slice none 0 0] 57) := hp1.set 0 (.int .i64 kd)
  have HR1 := Lib.hid (hr1.other hset HNE.out)
  have HI1 := Lib.hid (hi.other hset hp1 ⟨by decide, by decide⟩ HWP.out)
  have HT1 := Lib.hid ((HT0.out.trans ht).fresh hset (Nat.le_succ _))
  clear hg hgot hP hi ht hp1 hr1 hset HC HP0 HR0 HI0 HT0
  go_upto_region 3 with fail
  generalize v1.setCell ⟨w.heap.size + 1, 0, none⟩ (.int .i64 kd) = w1 at HP1 HR1 HI1 HT1 ⊢
  clear k1 k2
  have HC := Lib.hid (inText_any W hB g t1 w1 (t1.length : Nat) b1 HI1.out)
  go_wp2_with (go_at_call 15; refine (left_any W g t1 w1 b1 HI1.out).mono ?_; rintro e w9 ⟨rfl, e9⟩; obtain rfl := e9.symm; clear e9)
  refine HC.out.mono ?_
  rintro e v2 hg
  obtain ⟨nm, t2, _, b2, rfl, rfl, hi, hgot, hP, ht⟩ := got_of hg ByteArray.empty rfl (fun x => x.size ≤ 190000) (by decide) (fun x t h => text_small (b := b1) HI1.out.most h)
  have HGT2 := Lib.hid hgot; have HPP2 := Lib.hid hP
  have hp1 := HP1.out.other ht HG1.out
  have hr1 := HR1.out.other ht HG.out
  have hset := turned_set v2 (w.heap.size + 1) 1 (.string nm)
  have k1 := hp1.cell (i := 1) rfl
  have k2 := hp1.frozen 1
  have HP2 : Hid (BoxAt (v2.setCell ⟨w.heap.size + 1, 1, none⟩ (.string nm)) (w.heap.size + 1) #[.int .i64 kd, .string nm, .string ⟨#[]⟩, .int .i64 0, .slice none 0 0, .slice none 0 0] 57) := hp1.set 1 (.string nm)
  have HR2 := Lib.hid (hr1.other hset HNE.out)
  have HI2 := Lib.hid (hi.other hset hp1 ⟨by decide, by decide⟩ HWP.out)
  have HT2 := Lib.hid ((HT1.out.trans ht).fresh hset (Nat.le_succ _))
  clear hg hgot hP hi ht hp1 hr1 hset HC HP1 HR1 HI1 HT1
  go_upto_region 4 with fail
  generalize v2.setCell ⟨w.heap.size + 1, 1, none⟩ (.string nm) = w2 at HP2 HR2 HI2 HT2 ⊢
  clear k1 k2
  have HC := Lib.hid (inText_any W hB g t2 w2 (t2.length : Nat) b2 HI2.out)
  go_wp2_with (go_at_call 15; refine (left_any W g t2 w2 b2 HI2.out).mono ?_; rintro e w9 ⟨rfl, e9⟩; obtain rfl := e9.symm; clear e9)
  refine HC.out.mono ?_
  rintro e v3 hg
  obtain ⟨to, t3, _, b3, rfl, rfl, hi, hgot, hP, ht⟩ := got_of hg ByteArray.empty rfl (fun x => x.size ≤ 190000) (by decide) (fun x t h => text_small (b := b2) HI2.out.most h)
  have HGT3 := Lib.hid hgot; have HPP3 := Lib.hid hP
  have hp1 := HP2.out.other ht HG1.out
  have hr1 := HR2.out.other ht HG.out
  have hset := turned_set v3 (w.heap.size + 1) 2 (.string to)
  have k1 := hp1.cell (i := 2) rfl
  have k2 := hp1.frozen 2
  have HP3 : Hid (BoxAt (v3.setCell ⟨w.heap.size + 1, 2, none⟩ (.string to)) (w.heap.size + 1) #[.int .i64 kd, .string nm, .string to, .int .i64 0, .slice none 0 0, .slice none 0 0] 57) := hp1.set 2 (.string to)
  have HR3 := Lib.hid (hr1.other hset HNE.out)
  have HI3 := Lib.hid (hi.other hset hp1 ⟨by decide, by decide⟩ HWP.out)
  have HT3 := Lib.hid ((HT2.out.trans ht).fresh hset (Nat.le_succ _))
  clear hg hgot hP hi ht hp1 hr1 hset HC HP2 HR2 HI2 HT2
  go_upto_region 5 with fail
  generalize v3.setCell ⟨w.heap.size + 1, 2, none⟩ (.string to) = w3 at HP3 HR3 HI3 HT3 ⊢
  clear k1 k2
  have HC := Lib.hid (inNum_any W hB g t3 w3 b3 HI3.out)
  go_wp2_with fail
  refine HC.out.mono ?_
  rintro e v4 hg
  obtain ⟨pl, t4, _, b4, rfl, rfl, hi, hgot, hP, ht⟩ := got_of hg 0 rfl (fun n => -1099511627776 ≤ n ∧ n ≤ 1099511627776) (by decide) (fun x t h => num_small (b := b3) h)
  have HGT4 := Lib.hid hgot; have HPP4 := Lib.hid hP
  have hp1 := HP3.out.other ht HG1.out
  have hr1 := HR3.out.other ht HG.out
  have hset := turned_set v4 (w.heap.size + 1) 3 (.int .i64 pl)
  have k1 := hp1.cell (i := 3) rfl
  have k2 := hp1.frozen 3
  have HP4 : Hid (BoxAt (v4.setCell ⟨w.heap.size + 1, 3, none⟩ (.int .i64 pl)) (w.heap.size + 1) #[.int .i64 kd, .string nm, .string to, .int .i64 pl, .slice none 0 0, .slice none 0 0] 57) := hp1.set 3 (.int .i64 pl)
  have HR4 := Lib.hid (hr1.other hset HNE.out)
  have HI4 := Lib.hid (hi.other hset hp1 ⟨by decide, by decide⟩ HWP.out)
  have HT4 := Lib.hid ((HT3.out.trans ht).fresh hset (Nat.le_succ _))
  clear hg hgot hP hi ht hp1 hr1 hset HC HP3 HR3 HI3 HT3
  go_upto_region 6 with fail
  generalize v4.setCell ⟨w.heap.size + 1, 3, none⟩ (.int .i64 pl) = w4 at HP4 HR4 HI4 HT4 ⊢
  clear k1 k2
  have HC := Lib.hid (inTexts_any W hB g t4 w4 (t4.length : Nat) (t4.length : Nat) b4 HI4.out)
  go_wp2_with (go_at_call 15; refine (left_any W g t4 w4 b4 HI4.out).mono ?_; rintro e w9 ⟨rfl, e9⟩; obtain rfl := e9.symm; clear e9)
  refine HC.out.mono ?_
  rintro e v5 hg
  obtain ⟨old, t5, u, b5, rfl, hv, hi, hgot, hP, ht⟩ := got_of hg [] (World.ownsRow_nil _ _ _ _) (fun l => l.length ≤ 65536 ∧ ∀ x ∈ l, x.size ≤ 190000) ⟨by decide, fun x hx => by cases hx⟩ (fun x t h => texts_small (b := b4) HI4.out.most h)
  obtain ⟨A4, n4, c4, rfl, hv⟩ := vT_slice hv
  have hv := owns_low hv (HBS.out _ HT4.out)
  have HGT5 := Lib.hid hgot; have HPP5 := Lib.hid hP
  have hp1 := HP4.out.other ht HG1.out
  have hr1 := HR4.out.other ht HG.out
  have hset := turned_set v5 (w.heap.size + 1) 4 (.slice A4 n4 c4)
  have k1 := hp1.cell (i := 4) rfl
  have k2 := hp1.frozen 4
  have HP5 : Hid (BoxAt (v5.setCell ⟨w.heap.size + 1, 4, none⟩ (.slice A4 n4 c4)) (w.heap.size + 1) #[.int .i64 kd, .string nm, .string to, .int .i64 pl, .slice A4 n4 c4, .slice none 0 0] 57) := hp1.set 4 (.slice A4 n4 c4)
  have HR5 := Lib.hid (hr1.other hset HNE.out)
  have HI5 := Lib.hid (hi.other hset hp1 ⟨by decide, by decide⟩ HWP.out)
  have HT5 := Lib.hid ((HT4.out.trans ht).fresh hset (Nat.le_succ _))
  have HO4 := Lib.hid (owns_turned hv hset (owns_apart hv hp1 (by decide)))
  clear hg hgot hP hi ht hp1 hr1 hset HC HP4 HR4 HI4 HT4 hv
  go_upto_region 7 with fail
  generalize v5.setCell ⟨w.heap.size + 1, 4, none⟩ (.slice A4 n4 c4) = w5 at HP5 HR5 HI5 HT5 HO4 ⊢
  clear k1 k2
  have HC := Lib.hid (inTexts_any W hB g t5 w5 (t5.length : Nat) (t5.length : Nat) b5 HI5.out)
  go_wp2_with (go_at_call 15; refine (left_any W g t5 w5 b5 HI5.out).mono ?_; rintro e w9 ⟨rfl, e9⟩; obtain rfl := e9.symm; clear e9)
  refine HC.out.mono ?_
  rintro e v6 hg
  obtain ⟨new, t6, u, b6, rfl, hv, hi, hgot, hP, ht⟩ := got_of hg [] (World.ownsRow_nil _ _ _ _) (fun l => l.length ≤ 65536 ∧ ∀ x ∈ l, x.size ≤ 190000) ⟨by decide, fun x hx => by cases hx⟩ (fun x t h => texts_small (b := b5) HI5.out.most h)
  obtain ⟨A5, n5, c5, rfl, hv⟩ := vT_slice hv
  have hv := owns_low hv (HBS.out _ HT5.out)
  have HGT6 := Lib.hid hgot; have HPP6 := Lib.hid hP
  have hp1 := HP5.out.other ht HG1.out
  have hr1 := HR5.out.other ht HG.out
  have hset := turned_set v6 (w.heap.size + 1) 5 (.slice A5 n5 c5)
  have k1 := hp1.cell (i := 5) rfl
  have k2 := hp1.frozen 5
  have HP6 : Hid (BoxAt (v6.setCell ⟨w.heap.size + 1, 5, none⟩ (.slice A5 n5 c5)) (w.heap.size + 1) #[.int .i64 kd, .string nm, .string to, .int .i64 pl, .slice A4 n4 c4, .slice A5 n5 c5] 57) := hp1.set 5 (.slice A5 n5 c5)
  have HR6 := Lib.hid (hr1.other hset HNE.out)
  have HI6 := Lib.hid (hi.other hset hp1 ⟨by decide, by decide⟩ HWP.out)
  have HT6 := Lib.hid ((HT5.out.trans ht).fresh hset (Nat.le_succ _))
  have HO5 := Lib.hid (owns_turned hv hset (owns_apart hv hp1 (by decide)))
  have HO4 := Lib.hid (owns_turned (owns_turned HO4.out ht (by obtain ⟨cs9, hb9⟩ := HI5.out.box; exact owns_apart HO4.out hb9 (by decide))) hset (owns_apart (owns_turned HO4.out ht (by obtain ⟨cs9, hb9⟩ := HI5.out.box; exact owns_apart HO4.out hb9 (by decide))) hp1 (by decide)))
  clear hg hgot hP hi ht hp1 hr1 hset HC HP5 HR5 HI5 HT5 hv
  have e4 := owns_row HO4.out
  have e5 := owns_row HO5.out
  have HGX := Lib.hid (prim_got HGT1.out HGT2.out HGT3.out HGT4.out HGT5.out HGT6.out)
  have HXV : ∃ x : PrC, x = ⟨⟨kd, nm, to, pl, old, new⟩, A4, n4, c4, A5, n5, c5⟩ := ⟨_, rfl⟩
  have HOK : Hid (PrOk (v6.setCell ⟨w.heap.size + 1, 5, none⟩ (.slice A5 n5 c5)) ⟨⟨kd, nm, to, pl, old, new⟩, A4, n4, c4, A5, n5, c5⟩) := by
    have hh1 := HPP2.out; have hh2 := HPP3.out; have hh3 := HPP4.out; have hh4 := HPP5.out; have hh5 := HPP6.out
    refine ⟨e4.2.2, e5.2.2, e4.2.1, e5.2.1, by show n4 ≤ _; omega, by show n5 ≤ _; omega, Nat.le_trans hh1 (by simp only [maxLen]; omega), Nat.le_trans hh2 (by simp only [maxLen]; omega), by show _ ≤ pl; omega, by show pl ≤ _; omega, fun s hs => Nat.le_trans (hh4.2 s hs) (by simp only [maxLen]; omega), fun s hs => Nat.le_trans (hh5.2 s hs) (by simp only [maxLen]; omega)⟩
  have HMK : Hid (∀ V, OwnP B V ⟨⟨kd, nm, to, pl, old, new⟩, A4, n4, c4, A5, n5, c5⟩ → PrOk V ⟨⟨kd, nm, to, pl, old, new⟩, A4, n4, c4, A5, n5, c5⟩) := fun V hV => ⟨(owns_row hV.old).2.2, (owns_row hV.new).2.2, HOK.out.oroom, HOK.out.nroom, HOK.out.omost, HOK.out.nmost, HOK.out.name, HOK.out.to, HOK.out.lo, HOK.out.hi, HOK.out.olds, HOK.out.news⟩
  have HOW : Hid (OwnP B (v6.setCell ⟨w.heap.size + 1, 5, none⟩ (.slice A5 n5 c5)) ⟨⟨kd, nm, to, pl, old, new⟩, A4, n4, c4, A5, n5, c5⟩) := ⟨HO4.out, HO5.out⟩
  clear e4 e5 HXV HO4 HO5
  go_upto_region 8 with fail
  generalize v6.setCell ⟨w.heap.size + 1, 5, none⟩ (.slice A5 n5 c5) = w6 at HP6 HR6 HI6 HT6 HOK HOW ⊢
  clear k1 k2
  have x0 := HP6.out.cell (i := 0) rfl; have x1 := HP6.out.cell (i := 1) rfl; have x2 := HP6.out.cell (i := 2) rfl; have x3 := HP6.out.cell (i := 3) rfl; have x4 := HP6.out.cell (i := 4) rfl; have x5 := HP6.out.cell (i := 5) rfl
  have d1 := HR6.out
  have y0 := d1.cell (i := 0) rfl; have y1 := d1.cell (i := 1) rfl; have y2 := d1.cell (i := 2) rfl; have y3 := d1.cell (i := 3) rfl; have y4 := d1.cell (i := 4) rfl; have y5 := d1.cell (i := 5) rfl
  have z0 := d1.frozen 0; have z1 := d1.frozen 1; have z2 := d1.frozen 2; have z3 := d1.frozen 3; have z4 := d1.frozen 4; have z5 := d1.frozen 5
  clear d1
  have HSET := Lib.hid (turned_set6 w6 w.heap.size (.int .i64 kd) (.string nm) (.string to) (.int .i64 pl) (.slice A4 n4 c4) (.slice A5 n5 c5))
  have HOS : Hid (PrOk ((((((w6.setCell ⟨w.heap.size, 0, none⟩ (.int .i64 kd)).setCell ⟨w.heap.size, 1, none⟩ (.string nm)).setCell ⟨w.heap.size, 2, none⟩ (.string to)).setCell ⟨w.heap.size, 3, none⟩ (.int .i64 pl)).setCell ⟨w.heap.size, 4, none⟩ (.slice A4 n4 c4)).setCell ⟨w.heap.size, 5, none⟩ (.slice A5 n5 c5)) ⟨⟨kd, nm, to, pl, old, new⟩, A4, n4, c4, A5, n5, c5⟩) := HMK.out _ (HOW.out.other HSET.out HR6.out (by decide))
  go_region_with (go_at_call 93; refine (primRight_any ⟨⟨kd, nm, to, pl, old, new⟩, A4, n4, c4, A5, n5, c5⟩ _ (by first | exact HOK.out | exact HOK.out.later (Later.refl _).drew | exact HOK.out.later (Later.refl _).drew.drew | exact HOS.out | exact HOS.out.later (Later.refl _).drew | exact HOS.out.later (Later.refl _).drew.drew)).mono ?_; rintro e w8 ⟨rfl, hl8⟩; first | (have d8 := HR6.out.later (Later.trans (by first | exact Later.refl _ | exact (Later.refl _).drew | exact (Later.refl _).drew.drew) hl8); have y0 := d8.cell (i := 0) rfl; have y1 := d8.cell (i := 1) rfl; have y2 := d8.cell (i := 2) rfl; have y3 := d8.cell (i := 3) rfl; have y4 := d8.cell (i := 4) rfl; have y5 := d8.cell (i := 5) rfl; have z0 := d8.frozen 0; have z1 := d8.frozen 1; have z2 := d8.frozen 2; have z3 := d8.frozen 3; have z4 := d8.frozen 4; have z5 := d8.frozen 5; clear d8; have p8 := HP6.out.later (Later.trans (by first | exact Later.refl _ | exact (Later.refl _).drew | exact (Later.refl _).drew.drew) hl8); have x0 := p8.cell (i := 0) rfl; have x1 := p8.cell (i := 1) rfl; have x2 := p8.cell (i := 2) rfl; have x3 := p8.cell (i := 3) rfl; have x4 := p8.cell (i := 4) rfl; have x5 := p8.cell (i := 5) rfl; clear p8; have HL8 : Hid (Later w6 w8) := Later.trans (by first | exact Later.refl _ | exact (Later.refl _).drew | exact (Later.refl _).drew.drew) hl8; clear hl8) | (have HL8 := Lib.hid hl8; clear hl8))
  all_goals
    have hset := turned_set6 w8 w.heap.size (.int .i64 kd) (.string nm) (.string to) (.int .i64 pl) (.slice A4 n4 c4) (.slice A5 n5 c5)
    have d8 := HR6.out.later HL8.out
    have HBX := Lib.hid (d8.set6 (.int .i64 kd) (.string nm) (.string to) (.int .i64 pl) (.slice A4 n4 c4) (.slice A5 n5 c5))
    have HTX := Lib.hid ((HT6.out.trans (HL8.out.turned g)).fresh hset (Nat.le_refl _))
    have HIX := Lib.hid ((HI6.out.later HL8.out).other hset d8 ⟨by decide, by decide⟩ HWW.out)
    have HOX := Lib.hid ((HOW.out.later HL8.out).other hset d8 (by decide))
    clear hset d8 HOS HSET
    go_wp2
    first
    | refine bodyPost_ret (results_p2 rfl rfl _ _ w.heap.size ⟨⟨kd, nm, to, pl, old, new⟩, A4, n4, c4, A5, n5, c5⟩ _ rfl rfl HBX.out) rfl ?_
      exact HRR.out _ _ (readsP_end HGX.out HTX.out HIX.out HOX.out)
    | refine bodyPost_ret (results_p2 rfl rfl _ _ w.heap.size ⟨⟨kd, nm, to, pl, old, new⟩, A4, n4, c4, A5, n5, c5⟩ _ rfl rfl (HBX.out.later (Later.refl _).drew)) rfl ?_
      exact HRR.out _ _ (readsP_end HGX.out (HTX.out.trans ((Later.refl _).drew.turned g)) (HIX.out.later (Later.refl _).drew) (HOX.out.later (Later.refl _).drew))
set_option maxRecDepth 100000 in
set_option maxHeartbeats 1600000 in
theorem inPrim_any (bad : Bool) (h : InAt W w g s bad) : Calls Tryz.prog 25 #[.pointer (some ⟨g, 0, none⟩)] w (GivesP9 W g w.heap.size (if bad = true then none else primR s) s w) := by
  have hl0 : Later w (w.alloc (.cells #[.int .i64 0, .string ⟨#[]⟩, .string ⟨#[]⟩, .int .i64 0, .slice none 0 0, .slice none 0 0] 57)) := (Later.refl w).alloc _
  have HG : Hid (w.heap.size ≠ g) := by have := h.lt; show _ ≠ _; omega
  have HWW : Hid (W.heap.size ≤ w.heap.size) := h.base.le
  have HB0 : Hid (BoxAt (w.alloc (.cells #[.int .i64 0, .string ⟨#[]⟩, .string ⟨#[]⟩, .int .i64 0, .slice none 0 0, .slice none 0 0] 57)) w.heap.size #[.int .i64 0, .string ⟨#[]⟩, .string ⟨#[]⟩, .int .i64 0, .slice none 0 0, .slice none 0 0] 57) := BoxAt.made w _ _
  have HT0 : Hid (Turned g w (w.alloc (.cells #[.int .i64 0, .string ⟨#[]⟩, .string ⟨#[]⟩, .int .i64 0, .slice none 0 0, .slice none 0 0] 57))) := hl0.turned g
  have HW := Lib.hid (wholePrim_any W g s bad _ 74 #[.pointer (some ⟨g, 0, none⟩)] #[] (primR s) w.heap.size (h.later hl0) (enters_of Tryz.func74 (by kernel_rfl) rfl) (fun V hV hl e => by subst e; exact rightPrim_any W hB g s V w.heap.size (Nat.le_trans hl0.le hl.le) hV))
  clear h hl0
  generalize (if bad = true then none else primR s) = r at HW ⊢
  go_enter Tryz.func25, Tryz.ntmps25
  go_wp2_with fail
  refine HW.out.mono ?_
  generalize w.alloc (.cells #[.int .i64 0, .string ⟨#[]⟩, .string ⟨#[]⟩, .int .i64 0, .slice none 0 0, .slice none 0 0] 57) = w0 at *
  rintro e w1 ⟨ht, hc⟩
  have HD := Lib.hid (HB0.out.other ht HG.out)
  have HT := Lib.hid (HT0.out.trans ht)
  clear ht HW HB0 HT0
  rcases hc with ⟨hr, rfl, hi⟩ | ⟨x, t, hr, rfl, ho, hi⟩
  · have HX := Lib.hid hr; have HI := Lib.hid hi
    clear hr hi
    have d1 := HD.out
    have y0 := d1.cell (i := 0) rfl; have y1 := d1.cell (i := 1) rfl; have y2 := d1.cell (i := 2) rfl; have y3 := d1.cell (i := 3) rfl; have y4 := d1.cell (i := 4) rfl; have y5 := d1.cell (i := 5) rfl
    have z0 := d1.frozen 0; have z1 := d1.frozen 1; have z2 := d1.frozen 2; have z3 := d1.frozen 3; have z4 := d1.frozen 4; have z5 := d1.frozen 5
    clear d1
    unfold prV zeroC9
    dsimp only
    go_wp2
    have hset := turned_set6 w1 w.heap.size (.int .i64 0) (.string ⟨#[]⟩) (.string ⟨#[]⟩) (.int .i64 0) (.slice none 0 0) (.slice none 0 0)
    refine bodyPost_ret (results_cell_row rfl _ _ w.heap.size 57 _ (0, 0) _ rfl (HD.out.set6 (.int .i64 0) (.string ⟨#[]⟩) (.string ⟨#[]⟩) (.int .i64 0) (.slice none 0 0) (.slice none 0 0)) Tryz.underlying57 rfl Tryz.primSize) rfl ?_
    exact ⟨HT.out.fresh hset (Nat.le_refl _), .inl ⟨HX.out, rfl, HI.out.other hset HD.out ⟨by decide, by decide⟩ HWW.out⟩⟩
  · have HX := Lib.hid hr; have HI := Lib.hid hi; have HO := Lib.hid ho
    clear hr hi ho
    have d1 := HD.out
    have y0 := d1.cell (i := 0) rfl; have y1 := d1.cell (i := 1) rfl; have y2 := d1.cell (i := 2) rfl; have y3 := d1.cell (i := 3) rfl; have y4 := d1.cell (i := 4) rfl; have y5 := d1.cell (i := 5) rfl
    have z0 := d1.frozen 0; have z1 := d1.frozen 1; have z2 := d1.frozen 2; have z3 := d1.frozen 3; have z4 := d1.frozen 4; have z5 := d1.frozen 5
    clear d1
    unfold prV
    go_wp2
    have hset := turned_set6 w1 w.heap.size (.int .i64 x.v.kind) (.string x.v.name) (.string x.v.to) (.int .i64 x.v.place) (.slice x.A x.n x.c) (.slice x.B x.m x.d)
    refine bodyPost_ret (results_cell_row rfl _ _ w.heap.size 57 _ (0, 0) _ rfl (HD.out.set6 (.int .i64 x.v.kind) (.string x.v.name) (.string x.v.to) (.int .i64 x.v.place) (.slice x.A x.n x.c) (.slice x.B x.m x.d)) Tryz.underlying57 rfl Tryz.primSize) rfl ?_
    exact ⟨HT.out.fresh hset (Nat.le_refl _), .inr ⟨x, t, HX.out, rfl, HO.out.other hset HD.out (by decide), HI.out.other hset HD.out ⟨by decide, by decide⟩ HWW.out⟩⟩
end

end Go.Proofs.YtfcdhpkikhkmiaaGreatDoor

/-
  What an Out's Text comes to, as a call.
-/
namespace Go.Proofs.YtfcdhpkikhkmiaaGreatDoor
open Go.RowKit Go.Maps

theorem byteCells_append (a b : Bs) : Lib.byteCells (a ++ b) = Lib.byteCells a ++ Lib.byteCells b := by simp [Lib.byteCells]
theorem byteCells_str (s : ByteArray) : Lib.strCells s = Lib.byteCells s.data.toList := rfl

set_option maxRecDepth 100000 in
set_option maxHeartbeats 1600000 in
theorem outText_any (W : World) (hB : Base W) (B g : Nat) (bs : Bs) (w : World) (s : ByteArray) (h : OutAt W B w g bs) (hl : bs.length ≤ 100000000) (hs0 : s.size ≤ 100000000) :
    Calls Tryz.prog 34 #[.pointer (some ⟨g, 0, none⟩), .string s] w fun e w' => e = .returned (.tuple #[]) ∧ OutAt W B w' g (bs ++ textC s) ∧ Wr B g w w' := by
  obtain ⟨i, hi, hz, hs, hby⟩ := info_parts Tryz.byteInfo
  have HH := Lib.hid h
  have HD := Lib.hid (outDigits_any W hB B g bs w (s.size : Nat) 58 h (by omega) (by omega) hl)
  have e58 : ((58 : UInt8).toNat : Int) = 58 := rfl
  rw [e58] at HD
  have hi20 := itoa_20 (n := (s.size : Nat)) (by omega) (by omega)
  have HL : Hid ((bs ++ (Lib.itoa (s.size : Nat) ++ [58])).length ≤ 100000021) := by show _ ≤ _; simp only [List.length_append, List.length_cons, List.length_nil]; omega
  have HP : Hid (0 < (bs ++ (Lib.itoa (s.size : Nat) ++ [58])).length) := by show _ < _; simp only [List.length_append, List.length_cons, List.length_nil]; omega
  have HE : Hid (bs ++ textC s = bs ++ (Lib.itoa (s.size : Nat) ++ [58]) ++ s.data.toList ++ [44]) := by show _ = _; unfold textC; simp only [List.append_assoc, List.cons_append, List.nil_append]
  rw [HE.out]
  clear h hl hi20 e58 HE
  generalize bs ++ (Lib.itoa (s.size : Nat) ++ [58]) = b1 at HD HL HP ⊢
  go_enter Tryz.func34, Tryz.ntmps34
  go_wp2_with fail
  refine HD.out.mono ?_
  rintro e w1 ⟨rfl, ho1, hw1⟩
  have HO1 := Lib.hid ho1; have HW1 := Lib.hid hw1
  obtain ⟨⟨v1, hb1, hown1, hne1⟩, hle1, _, _, _⟩ := ho1
  have HB1 := Lib.hid hb1; have HN1 := Lib.hid hown1
  have q1 := hb1.cell (i := 0) rfl
  have f1 := hb1.frozen 0
  simp only [List.getElem_toArray, List.getElem_cons_zero] at q1
  have HLN : Hid (b1.length + s.size ≤ 140737488355328) := by have := HL.out; show _ ≤ _; omega
  have HLM : Hid (b1.length + s.size ≤ maxLen) := by have := HL.out; show _ ≤ maxLen; simp only [maxLen]; omega
  have HS0 := Lib.hid hs0
  clear hb1 hown1 hw1 HD hne1 hs0
  go_wp2_with (at_builtin; refine Lib.wpList_append_own_string _ rfl _ _ 25 9 rfl B 5 i Tryz.underlying25 Tryz.underlying9 hi hz hs hby _ _ _ rfl HN1.out s rfl HLM.out HLN.out hle1 ?_)
  intro v2 w2 hown2 hgrow _
  rw [byteCells_str, ← byteCells_append, show b1.length + s.size = (b1 ++ s.data.toList).length from by rw [List.length_append, Array.length_toList]; rfl] at hown2
  have hb2 := box_grown HB1.out hgrow (owns_apart HN1.out HB1.out (by decide))
  have HW2 := Lib.hid (HW1.out.trans (Wr.of_grown (g := g) hgrow HN1.out))
  have HL2 : Hid ((b1 ++ s.data.toList).length + 1 ≤ 140737488355328) := by
    have h1 := HL.out
    show _ ≤ _
    have h3 : s.data.toList.length = s.size := by rw [Array.length_toList]; rfl
    have h4 := HS0.out
    rw [List.length_append]
    omega
  have HP2 : Hid (0 < (b1 ++ s.data.toList).length) := by have := HP.out; show _ < _; rw [List.length_append]; omega
  clear hgrow HLN HLM HL HP q1 f1 HN1 HB1 hle1
  generalize hE2 : b1 ++ s.data.toList = b2 at hown2 HL2 HP2
  have HE2 := Lib.hid hE2
  clear hE2
  obtain ⟨a2, cap2, rfl, _, _, _, _⟩ := owns_slice hown2 HP2.out
  have q2 := hb2.cell (i := 0) rfl
  have f2 := hb2.frozen 0
  simp only [List.getElem_toArray, List.getElem_cons_zero] at q2
  have hne2 := owns_apart hown2 hb2 (by decide)
  have HO2 := Lib.hid ((owns_turned hown2 (turned_set w2 g 0 (.slice (some ⟨a2, 0, none⟩) b2.length cap2)) hne2).alloc (.cells #[.int .u8 44] 5))
  have HB2 := Lib.hid ((hb2.set 0 (.slice (some ⟨a2, 0, none⟩) b2.length cap2)).alloc (.cells #[.int .u8 44] 5))
  have HW3 : Hid (Wr B g w ((w2.setCell ⟨g, 0, none⟩ (.slice (some ⟨a2, 0, none⟩) b2.length cap2)).alloc (.cells #[.int .u8 44] 5))) := (HW2.out.trans (Wr.of_turned (turned_set w2 g 0 _))).trans (Wr.of_later ((Later.refl _).alloc _))
  have hs2 : B ≤ ((w2.setCell ⟨g, 0, none⟩ (.slice (some ⟨a2, 0, none⟩) b2.length cap2)).alloc (.cells #[.int .u8 44] 5)).heap.size := Nat.le_trans HH.out.le HW3.out.size
  have HCL : Hid (((w2.setCell ⟨g, 0, none⟩ (.slice (some ⟨a2, 0, none⟩) b2.length cap2)).alloc (.cells #[.int .u8 44] 5)).cell? ⟨w2.heap.size, 0, none⟩ = some (.int .u8 44)) := by
    have h := (BoxAt.made (w2.setCell ⟨g, 0, none⟩ (.slice (some ⟨a2, 0, none⟩) b2.length cap2)) #[Value.int .u8 44] 5).cell (i := 0) rfl
    exact Lib.hid (by simpa using h)
  have HM : Hid ((b2.length + 1) * 1 ≤ 140737488355328) := by have := HL2.out; show _ ≤ _; omega
  have HM2 : Hid (b2.length + 1 ≤ maxLen) := by have := HL2.out; show _ ≤ maxLen; simp only [maxLen]; omega
  have HN : Hid (b2.length + 1 = (b2 ++ [(44 : UInt8)]).length) := by show _ = _; simp
  have HX : Hid (Lib.byteCells b2 ++ [Value.int .u8 44] = Lib.byteCells (b2 ++ [44])) := by show _ = _; rw [byteCells_append]; rfl
  clear hown2 hb2 hne2
  generalize Lib.byteCells b2 = XS at HO2 HX
  go_wp2_with (at_builtin; refine wpList_append_own _ rfl _ _ 25 rfl B 5 i (.int .u8 0) 1 1 Tryz.underlying25 hi hz hs hby rfl (by decide) _ _ XS rfl HO2.out _ 1 1 [Value.int .u8 44] rfl rfl ?_ ?_ HM2.out HM.out hs2 ?_)
  · intro j u hj
    match j, hj with
    | 0, hj => simp only [List.getElem?_cons_zero, Option.some.injEq] at hj; subst hj; exact HCL.out
    | j + 1, hj => simp at hj
  · intro u hu
    simp at hu
    subst hu
    rfl
  · intro v3 w3 hown3 hgrow3 _
    rw [HX.out, HN.out] at hown3
    have hb3 := box_grown HB2.out hgrow3 (owns_apart HO2.out HB2.out (by decide))
    have HW4 := Lib.hid (HW3.out.trans (Wr.of_grown hgrow3 HO2.out))
    obtain ⟨a3, cap3, rfl, _, _, _, _⟩ := owns_slice hown3 (by rw [← HN.out]; omega)
    have q3 := hb3.cell (i := 0) rfl
    have f3 := hb3.frozen 0
    simp only [Array.setIfInBounds] at q3
    have HC := Lib.hid (HH.out.close HW4.out hb3 hown3)
    clear hown3 hgrow3 hb3 HX HO2 HB2
    generalize (b2 ++ [(44 : UInt8)]).length = M at q3 HC
    go_wp2
    go_end0
    exact ⟨rfl, by rw [HE2.out]; exact HC.out⟩

end Go.Proofs.YtfcdhpkikhkmiaaGreatDoor

/-
  What an Out's Texts comes to, as a call.
-/
namespace Go.Proofs.YtfcdhpkikhkmiaaGreatDoor
open Go.RowKit Go.Maps

def firstK {α : Type} (f : α → Bs) (l : List α) (k : Nat) : Bs := (l.take k).flatMap f
theorem firstK_succ {α : Type} {f : α → Bs} {l : List α} {k : Nat} {x : α} (h : l[k]? = some x) : firstK f l (k + 1) = firstK f l k ++ f x := by
  obtain ⟨hk, rfl⟩ := List.getElem?_eq_some_iff.1 h
  unfold firstK
  rw [List.take_succ_eq_append_getElem hk, List.flatMap_append]
  simp
theorem firstK_all {α : Type} {f : α → Bs} {l : List α} {k : Nat} (h : l.length ≤ k) : firstK f l k = l.flatMap f := by unfold firstK; rw [List.take_of_length_le h]
theorem firstK_le {α : Type} (f : α → Bs) (l : List α) (k : Nat) : (firstK f l k).length ≤ (l.flatMap f).length := by
  have : l.flatMap f = firstK f l k ++ (l.drop k).flatMap f := by unfold firstK; rw [← List.flatMap_append, List.take_append_drop]
  rw [this, List.length_append]
  omega

set_option maxRecDepth 100000 in
set_option maxHeartbeats 800000 in
theorem writeTexts_any (W : World) (hB : Base W) (B g : Nat) (bs : Bs) (w : World) (A : Option Addr) (n c : Nat) (ss : List ByteArray) (h : OutAt W B w g bs) (hr : ∀ V, Wr B g w V → Row V A n ss) (hn : n ≤ 65536) (hs : ∀ s ∈ ss, s.size ≤ 100000000) (hl : (bs ++ rowC textC ss).length ≤ 100000000) :
    Calls Tryz.prog 79 #[.pointer (some ⟨g, 0, none⟩), .slice A n c, .func (.func 34) #[.pointer (some ⟨g, 0, none⟩)] #[]] w fun e w' => e = .returned (.tuple #[]) ∧ OutAt W B w' g (bs ++ rowC textC ss) ∧ Wr B g w w' := by
  have hlen := (hr w (Wr.refl _ _ _)).len
  have HH := Lib.hid h; have HR := Lib.hid hr; have HS := Lib.hid hs
  have hl1 : (bs ++ rowC textC ss).length = bs.length + ((numC (ss.length : Nat)).length + (ss.flatMap textC).length) := by unfold rowC; simp only [List.length_append]
  have HLL : Hid (bs.length + ((numC (ss.length : Nat)).length + (ss.flatMap textC).length) ≤ 100000000) := by show _ ≤ _; omega
  have HN := Lib.hid (outNum_any W hB B g bs w (n : Nat) h (by omega) (by omega) (by omega))
  have et : ∀ args w, (callFunc 34 args).run Tryz.prog w = .ok (.enter 34 args) w := enters_of Tryz.func34 (by kernel_rfl) rfl
  have HE : Hid (rowC textC ss = numC (n : Nat) ++ ss.flatMap textC) := by show _ = _; unfold rowC; rw [hlen]
  rw [HE.out]
  rw [hlen] at HLL
  have HLN := Lib.hid hlen
  clear h hr hs hl hl1 hlen
  go_enter Tryz.func79, Tryz.ntmps79
  go_wp2_with fail
  refine HN.out.mono ?_
  rintro e w1 ⟨rfl, ho1, hw1⟩
  have HO1 : Hid (OutAt W B w1 g (bs ++ numC (n : Nat) ++ firstK textC ss 0)) := by
    show OutAt _ _ _ _ _
    have : firstK textC ss 0 = [] := rfl
    rw [this, List.append_nil]
    exact ho1
  have HW1 := Lib.hid hw1
  clear ho1 hw1 HN
  go_wp2
  go_loopg [7, 14] (n + 1) (fun g0 s7 s14 wr => ∃ k : Nat, k ≤ n ∧ n - k ≤ g0 ∧ s14 = .int .i64 k ∧ Hid (OutAt W B wr g (bs ++ numC (n : Nat) ++ firstK textC ss k)) ∧ Hid (Wr B g w wr))
  case atStart => exact ⟨0, Nat.zero_le _, by omega, rfl, HO1, HW1⟩
  case round =>
    obtain ⟨k, hk, hg, rfl, ho, hw⟩ := hrel
    by_cases hlt : k < n
    · obtain ⟨b1, o1, rfl, g1⟩ := (HR.out wr hw.out).get hlt
      have hz : ss[k]? = some (ss.getD k ByteArray.empty) := by
        have : k < ss.length := by rw [HLN.out]; exact hlt
        simp [List.getD, List.getElem?_eq_getElem this]
      generalize ss.getD k ByteArray.empty = s at g1 hz
      have h1 := firstK_le textC ss k
      have HT := Lib.hid (outText_any W hB B g _ wr s ho.out (by have := HLL.out; rw [List.length_append, List.length_append]; omega) (HS.out s (List.mem_of_getElem? hz)))
      have HZ := Lib.hid (firstK_succ (f := textC) hz)
      clear ho hz h1
      go_wp2_with (go_at_fn 34; refine HT.out.mono ?_; rintro e w2 ⟨rfl, ho2, hw2⟩)
      have HO2 : Hid (OutAt W B w2 g (bs ++ numC (n : Nat) ++ firstK textC ss (k + 1))) := by
        show OutAt _ _ _ _ _
        rw [HZ.out, ← List.append_assoc]
        exact ho2
      have HW2 := Lib.hid (hw.out.trans hw2)
      clear ho2 hw2 hw
      go_roundg (n - (k + 1))
      case measure => omega
      case rel => exact ⟨k + 1, by omega, Nat.le_refl _, by go_num, HO2, HW2⟩
    · have HO2 : Hid (OutAt W B wr g (bs ++ (numC (n : Nat) ++ ss.flatMap textC))) := by
        show OutAt _ _ _ _ _
        rw [← List.append_assoc, ← firstK_all (f := textC) (l := ss) (k := k) (by rw [HLN.out]; omega)]
        exact ho.out
      clear ho
      go_wp2
      go_end0
      exact ⟨rfl, HO2.out, hw.out⟩

set_option maxRecDepth 100000 in
set_option maxHeartbeats 800000 in
theorem outTexts_any (W : World) (hB : Base W) (B g : Nat) (bs : Bs) (w : World) (A : Option Addr) (n c : Nat) (ss : List ByteArray) (h : OutAt W B w g bs) (hr : ∀ V, Wr B g w V → Row V A n ss) (hn : n ≤ 65536) (hs : ∀ s ∈ ss, s.size ≤ 100000000) (hl : (bs ++ rowC textC ss).length ≤ 100000000) :
    Calls Tryz.prog 35 #[.pointer (some ⟨g, 0, none⟩), .slice A n c] w fun e w' => e = .returned (.tuple #[]) ∧ OutAt W B w' g (bs ++ rowC textC ss) ∧ Wr B g w w' := by
  have HN := Lib.hid (writeTexts_any W hB B g bs w A n c ss h hr hn hs hl)
  clear h hr hs hl
  go_enter Tryz.func35, Tryz.ntmps35
  go_wp2_with fail
  refine HN.out.mono ?_
  rintro e w1 ⟨rfl, h1⟩
  go_wp2
  go_end0
  exact ⟨rfl, h1⟩

end Go.Proofs.YtfcdhpkikhkmiaaGreatDoor

/-
  What an Out's Prim comes to, as a call.
-/
namespace Go.Proofs.YtfcdhpkikhkmiaaGreatDoor
open Go.RowKit Go.Maps

set_option maxRecDepth 100000 in
set_option maxHeartbeats 1600000 in
theorem outPrim_any (W : World) (hB : Base W) (B g : Nat) (bs : Bs) (w : World) (x : PrC) (h : OutAt W B w g bs) (hr : ∀ V, Wr B g w V → PrOk V x) (hk : -9223372036854775808 ≤ x.v.kind ∧ x.v.kind ≤ 9223372036854775807) (hz : x.v.name.size ≤ 100000000 ∧ x.v.to.size ≤ 100000000 ∧ (∀ s ∈ x.v.old, s.size ≤ 100000000) ∧ ∀ s ∈ x.v.new, s.size ≤ 100000000) (hl : (bs ++ primC x.v).length ≤ 100000000) :
    Calls Tryz.prog 36 #[.pointer (some ⟨g, 0, none⟩), prV x] w fun e w' => e = .returned (.tuple #[]) ∧ OutAt W B w' g (bs ++ primC x.v) ∧ Wr B g w w' := by
  have hlw : Later w (w.alloc (.cells #[.int .i64 x.v.kind, .string x.v.name, .string x.v.to, .int .i64 x.v.place, .slice x.A x.n x.c, .slice x.B x.m x.d] 57)) := (Later.refl w).alloc _
  have HW0 : Hid (Wr B g w (w.alloc (.cells #[.int .i64 x.v.kind, .string x.v.name, .string x.v.to, .int .i64 x.v.place, .slice x.A x.n x.c, .slice x.B x.m x.d] 57))) := Wr.of_later hlw
  have HBX : Hid (BoxAt (w.alloc (.cells #[.int .i64 x.v.kind, .string x.v.name, .string x.v.to, .int .i64 x.v.place, .slice x.A x.n x.c, .slice x.B x.m x.d] 57)) w.heap.size (prL x).toArray 57) := BoxAt.made w (prL x).toArray 57
  have HO0 := Lib.hid (h.later hlw)
  have hx := hr w (Wr.refl _ _ _)
  have hlen := hl
  unfold primC at hlen
  simp only [List.length_append] at hlen
  have HG : Hid (w.heap.size ≠ g) := by have := h.lt; show _ ≠ _; omega
  have HR := Lib.hid hr
  have HX := Lib.hid hx; have HZ := Lib.hid hz; have HK := Lib.hid hk
  have HLL := Lib.hid hlen
  have HN := Lib.hid (outNum_any W hB B g bs _ x.v.kind HO0.out hk.1 hk.2 (by omega))
  have HE : Hid (bs ++ primC x.v = bs ++ numC x.v.kind ++ textC x.v.name ++ textC x.v.to ++ numC x.v.place ++ rowC textC x.v.old ++ rowC textC x.v.new) := by show _ = _; unfold primC; simp only [List.append_assoc]
  rw [HE.out]
  clear h hr hz hl hlw hlen hx hk HE
  unfold prV
  go_enter Tryz.func36, Tryz.ntmps36
  go_wp2_with fail
  refine HN.out.mono ?_
  rintro e w1 ⟨rfl, ho, hw⟩
  have HO1 := Lib.hid ho; have HW1 := Lib.hid (HW0.out.trans hw); have HB1 := Lib.hid (HBX.out.wr hw HG.out (by decide))
  clear ho hw HN HBX HO0 HW0
  have q1 := HB1.out.cell (i := 1) rfl
  simp only [prL, List.getElem_toArray, List.getElem_cons_zero, List.getElem_cons_succ] at q1
  have HN := Lib.hid (outText_any W hB B g (bs ++ numC x.v.kind) w1 x.v.name HO1.out (by have := HLL.out; simp only [List.length_append]; omega) HZ.out.1)
  go_wp2_with fail
  refine HN.out.mono ?_
  rintro e w2 ⟨rfl, ho, hw⟩
  have HO2 := Lib.hid ho; have HW2 := Lib.hid (HW1.out.trans hw); have HB2 := Lib.hid (HB1.out.wr hw HG.out (by decide))
  clear ho hw HN HO1 HW1 HB1 q1
  have q2 := HB2.out.cell (i := 2) rfl
  simp only [prL, List.getElem_toArray, List.getElem_cons_zero, List.getElem_cons_succ] at q2
  have HN := Lib.hid (outText_any W hB B g (bs ++ numC x.v.kind ++ textC x.v.name) w2 x.v.to HO2.out (by have := HLL.out; simp only [List.length_append]; omega) HZ.out.2.1)
  go_wp2_with fail
  refine HN.out.mono ?_
  rintro e w3 ⟨rfl, ho, hw⟩
  have HO3 := Lib.hid ho; have HW3 := Lib.hid (HW2.out.trans hw); have HB3 := Lib.hid (HB2.out.wr hw HG.out (by decide))
  clear ho hw HN HO2 HW2 HB2 q2
  have q3 := HB3.out.cell (i := 3) rfl
  simp only [prL, List.getElem_toArray, List.getElem_cons_zero, List.getElem_cons_succ] at q3
  have HN := Lib.hid (outNum_any W hB B g (bs ++ numC x.v.kind ++ textC x.v.name ++ textC x.v.to) w3 x.v.place HO3.out HX.out.lo HX.out.hi (by have := HLL.out; simp only [List.length_append]; omega))
  go_wp2_with fail
  refine HN.out.mono ?_
  rintro e w4 ⟨rfl, ho, hw⟩
  have HO4 := Lib.hid ho; have HW4 := Lib.hid (HW3.out.trans hw); have HB4 := Lib.hid (HB3.out.wr hw HG.out (by decide))
  clear ho hw HN HO3 HW3 HB3 q3
  have q4 := HB4.out.cell (i := 4) rfl
  simp only [prL, List.getElem_toArray, List.getElem_cons_zero, List.getElem_cons_succ] at q4
  have HN := Lib.hid (outTexts_any W hB B g (bs ++ numC x.v.kind ++ textC x.v.name ++ textC x.v.to ++ numC x.v.place) w4 x.A x.n x.c x.v.old HO4.out (fun V hV => (HR.out V (HW4.out.trans hV)).old) HX.out.omost HZ.out.2.2.1 (by have := HLL.out; simp only [List.length_append]; omega))
  go_wp2_with fail
  refine HN.out.mono ?_
  rintro e w5 ⟨rfl, ho, hw⟩
  have HO5 := Lib.hid ho; have HW5 := Lib.hid (HW4.out.trans hw); have HB5 := Lib.hid (HB4.out.wr hw HG.out (by decide))
  clear ho hw HN HO4 HW4 HB4 q4
  have q5 := HB5.out.cell (i := 5) rfl
  simp only [prL, List.getElem_toArray, List.getElem_cons_zero, List.getElem_cons_succ] at q5
  have HN := Lib.hid (outTexts_any W hB B g (bs ++ numC x.v.kind ++ textC x.v.name ++ textC x.v.to ++ numC x.v.place ++ rowC textC x.v.old) w5 x.B x.m x.d x.v.new HO5.out (fun V hV => (HR.out V (HW5.out.trans hV)).new) HX.out.nmost HZ.out.2.2.2 (by have := HLL.out; simp only [List.length_append]; omega))
  go_wp2_with fail
  refine HN.out.mono ?_
  rintro e w6 ⟨rfl, ho, hw⟩
  have HO6 := Lib.hid ho; have HW6 := Lib.hid (HW5.out.trans hw); have HB6 := Lib.hid (HB5.out.wr hw HG.out (by decide))
  clear ho hw HN HO5 HW5 HB5 q5
  go_wp2
  go_end0
  exact ⟨rfl, HO6.out, HW6.out⟩

end Go.Proofs.YtfcdhpkikhkmiaaGreatDoor
