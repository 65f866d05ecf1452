import Derived.Test.YtfcdhpkikhkmiaaGreatDoorPk6
import Derived.Test.YtfcdhpkikhkmiaaGreatDoorPk2
import Derived.Lib.AppendStr
import Derived.Lib.SliceRun

/-
  An In's Num, Flag, Left and Done, as calls.
-/
namespace Go.Proofs.YtfcdhpkikhkmiaaGreatDoor
open Go.RowKit Go.Maps

def vI (x : Int) (_ : World) (v : Value) : Prop := v = .int .i64 x
def vB (x : Bool) (_ : World) (v : Value) : Prop := v = .bool x
def vS (x : ByteArray) (_ : World) (v : Value) : Prop := v = .string x

section
variable (W : World) (hB : Base W) (g : Nat) (s : Bs) (w : World)
include hB
set_option maxRecDepth 100000 in
set_option maxHeartbeats 800000 in
theorem number_any (h : InAt W w g s false) : Calls Tryz.prog 65 (#[.pointer (some ⟨g, 0, none⟩)] ++ #[]) w (ReadsV W g vI (numR s) w) := by
  show Calls Tryz.prog 65 #[.pointer (some ⟨g, 0, none⟩)] w _
  have HD := Lib.hid (inDigits_any W hB g s false 59 w h)
  have e59 : ((59 : UInt8).toNat : Int) = 59 := rfl
  rw [e59] at HD
  unfold numR
  clear h e59
  generalize digitsR 59 s = d at HD
  go_enter Tryz.func65, Tryz.ntmps65
  go_wp2_with fail
  refine HD.out.mono ?_
  rintro e w1 ⟨ht, hc⟩
  have HT := Lib.hid ht
  clear ht HD
  rcases hc with ⟨hd, ⟨n, rfl⟩, hi⟩ | ⟨n, t, hd, rfl, hi⟩
  · have HI := Lib.hid hi; have HX := Lib.hid hd
    clear hi hd
    go_wp2
    go_ret2
    exact ⟨HT.out, _, false, s, false, rfl, HI.out, .inr ⟨by rw [HX.out]; rfl, rfl⟩⟩
  · have HI := Lib.hid hi; have HX := Lib.hid hd
    clear hi hd
    by_cases h1 : -1099511627776 ≤ n
    · by_cases h2 : n ≤ 1099511627776
      · have HH : Hid (-1099511627776 ≤ n ∧ n ≤ 1099511627776) := ⟨h1, h2⟩
        go_wp2
        go_ret2
        exact ⟨HT.out, _, _, t, false, rfl, HI.out, .inl ⟨n, by rw [HX.out, Option.bind_some, if_pos HH.out], rfl, rfl, rfl⟩⟩
      · have HH : Hid (¬ (-1099511627776 ≤ n ∧ n ≤ 1099511627776)) := fun h => h2 h.2
        go_wp2
        go_ret2
        exact ⟨HT.out, _, _, t, false, rfl, HI.out, .inr ⟨by rw [HX.out, Option.bind_some, if_neg HH.out], by simp [h2]⟩⟩
    · have HH : Hid (¬ (-1099511627776 ≤ n ∧ n ≤ 1099511627776)) := fun h => h1 h.1
      go_wp2
      go_ret2
      exact ⟨HT.out, _, false, t, false, rfl, HI.out, .inr ⟨by rw [HX.out, Option.bind_some, if_neg HH.out], rfl⟩⟩

set_option maxRecDepth 100000 in
set_option maxHeartbeats 800000 in
theorem inNum_any (bad : Bool) (h : InAt W w g s bad) : Calls Tryz.prog 19 #[.pointer (some ⟨g, 0, none⟩)] w (GivesV W g (.int .i64 0) vI (if bad = true then none else numR s) s w) := by
  have HW := Lib.hid (wholeInt_any W g s bad w 65 #[.pointer (some ⟨g, 0, none⟩)] #[] vI (numR s) h (enters_of Tryz.func65 (by kernel_rfl) rfl) (fun e => by subst e; exact number_any W hB g s w h))
  clear h
  generalize (if bad = true then none else numR s) = r at HW ⊢
  go_enter Tryz.func19, Tryz.ntmps19
  go_wp2_with fail
  refine HW.out.mono ?_
  rintro e w1 ⟨ht, hc⟩
  rcases hc with ⟨hr, rfl, hi⟩ | ⟨x, t, v, hr, rfl, rfl, hi⟩
  · go_wp2
    go_ret
    exact ⟨ht, .inl ⟨hr, rfl, hi⟩⟩
  · go_wp2
    go_ret
    exact ⟨ht, .inr ⟨x, t, _, hr, rfl, rfl, hi⟩⟩

set_option maxRecDepth 100000 in
set_option maxHeartbeats 800000 in
theorem flag_any (h : InAt W w g s false) : Calls Tryz.prog 67 (#[.pointer (some ⟨g, 0, none⟩)] ++ #[]) w (ReadsV W g vB (flagR s) w) := by
  show Calls Tryz.prog 67 #[.pointer (some ⟨g, 0, none⟩)] w _
  have HD := Lib.hid (inNum_any W hB g s w false h)
  simp only [Bool.false_eq_true, if_false] at HD
  unfold flagR
  clear h
  generalize numR s = d at HD
  go_enter Tryz.func67, Tryz.ntmps67
  go_wp2_with fail
  refine HD.out.mono ?_
  rintro e w1 ⟨ht, hc⟩
  have HT := Lib.hid ht
  clear ht HD
  rcases hc with ⟨hd, rfl, hi⟩ | ⟨n, t, v, hd, rfl, rfl, hi⟩
  · have HI := Lib.hid hi; have HX := Lib.hid hd
    clear hi hd
    go_wp2
    go_ret2
    exact ⟨HT.out, _, true, s, true, rfl, HI.out, .inr ⟨by rw [HX.out]; rfl, rfl⟩⟩
  · have HI := Lib.hid hi; have HX := Lib.hid hd
    clear hi hd
    by_cases h0 : n = 0
    · subst h0
      go_wp2
      go_ret2
      exact ⟨HT.out, _, true, t, false, rfl, HI.out, .inl ⟨false, by rw [HX.out]; rfl, rfl, rfl, rfl⟩⟩
    · by_cases h1 : n = 1
      · subst h1
        go_wp2
        go_ret2
        exact ⟨HT.out, _, true, t, false, rfl, HI.out, .inl ⟨true, by rw [HX.out]; rfl, rfl, rfl, rfl⟩⟩
      · have b0 : (n == 0) = false := by simpa using h0
        have b1 : (n == 1) = false := by simpa using h1
        have HH : Hid (¬ (n = 0 ∨ n = 1)) := fun h => h.elim h0 h1
        clear h0 h1
        go_wp2
        go_ret2
        exact ⟨HT.out, _, false, t, false, rfl, HI.out, .inr ⟨by rw [HX.out, Option.bind_some, if_neg HH.out], rfl⟩⟩

set_option maxRecDepth 100000 in
set_option maxHeartbeats 800000 in
theorem inFlag_any (bad : Bool) (h : InAt W w g s bad) : Calls Tryz.prog 20 #[.pointer (some ⟨g, 0, none⟩)] w (GivesV W g (.bool false) vB (if bad = true then none else flagR s) s w) := by
  have HW := Lib.hid (wholeBool_any W g s bad w 67 #[.pointer (some ⟨g, 0, none⟩)] #[] vB (flagR s) h (enters_of Tryz.func67 (by kernel_rfl) rfl) (fun e => by subst e; exact flag_any W hB g s w h))
  clear h
  generalize (if bad = true then none else flagR s) = r at HW ⊢
  go_enter Tryz.func20, Tryz.ntmps20
  go_wp2_with fail
  refine HW.out.mono ?_
  rintro e w1 ⟨ht, hc⟩
  rcases hc with ⟨hr, rfl, hi⟩ | ⟨x, t, v, hr, rfl, rfl, hi⟩
  · go_wp2
    go_ret
    exact ⟨ht, .inl ⟨hr, rfl, hi⟩⟩
  · go_wp2
    go_ret
    exact ⟨ht, .inr ⟨x, t, _, hr, rfl, rfl, hi⟩⟩
omit hB in
set_option maxRecDepth 100000 in
set_option maxHeartbeats 800000 in
theorem left_any (bad : Bool) (h : InAt W w g s bad) : Calls Tryz.prog 15 #[.pointer (some ⟨g, 0, none⟩)] w fun e w' => e = .returned (.int .i64 (s.length : Nat)) ∧ w' = w := by
  obtain ⟨A, c, q0, q1, _⟩ := h.cells
  clear h
  go_enter Tryz.func15, Tryz.ntmps15
  go_wp2
  go_ret
  exact ⟨rfl, rfl⟩
omit hB in
set_option maxRecDepth 100000 in
set_option maxHeartbeats 800000 in
theorem done_any (bad : Bool) (h : InAt W w g s bad) : Calls Tryz.prog 16 #[.pointer (some ⟨g, 0, none⟩)] w fun e w' => e = .returned (.bool (!bad && decide (s = []))) ∧ w' = w := by
  obtain ⟨A, c, q0, q1, _⟩ := h.cells
  clear h
  cases bad with
  | true =>
    go_enter Tryz.func16, Tryz.ntmps16
    go_wp2
    go_ret
    exact ⟨rfl, rfl⟩
  | false =>
    have e : decide (s = []) = (((s.length : Nat) : Int) == 0) := by cases s <;> simp <;> omega
    rw [e]
    clear e
    go_enter Tryz.func16, Tryz.ntmps16
    go_wp2
    go_ret
    exact ⟨rfl, rfl⟩
end

end Go.Proofs.YtfcdhpkikhkmiaaGreatDoor

/-
  An In's whole, at texts and rows.
-/
namespace Go.Proofs.YtfcdhpkikhkmiaaGreatDoor
open Go.RowKit Go.Maps

set_option maxRecDepth 100000 in
set_option maxHeartbeats 800000 in
theorem wholeText_any {α : Type} (W : World) (g : Nat) (s : Bs) (bad : Bool) (w : World) (f : Nat) (first captured : Array Value) (V : α → World → Value → Prop) (r : Option (α × Bs)) (h : InAt W w g s bad)
    (hf : ∀ args w, (callFunc f args).run Tryz.prog w = .ok (.enter f args) w)
    (hread : bad = false → Calls Tryz.prog f (first ++ captured) w (ReadsV W g V r w)) :
    Calls Tryz.prog 68 #[.pointer (some ⟨g, 0, none⟩), .func (.func f) first captured] w (GivesV W g (.string ByteArray.empty) V (if bad = true then none else r) s w) := by
  have HH := Lib.hid h
  obtain ⟨A, c, q0, q1, _, _, _, _, fz⟩ := h.cells
  have f0 := fz 0
  have f1 := fz 1
  clear fz h
  cases bad with
  | true =>
    go_enter Tryz.func68, Tryz.ntmps68
    go_wp2
    go_ret
    exact ⟨(HH.out.spoil HH.out (Turned.refl _ _) q0).1, .inl ⟨rfl, rfl, (HH.out.spoil HH.out (Turned.refl _ _) q0).2⟩⟩
  | false =>
    have HR := Lib.hid (hread rfl)
    have HQ := Lib.hid q0
    clear hread
    go_enter Tryz.func68, Tryz.ntmps68
    go_wp2_with fail
    refine HR.out.mono ?_
    rintro e w1 ⟨ht, v, b, t, bd, rfl, hi, hc⟩
    have HT := Lib.hid ht; have HI := Lib.hid hi
    obtain ⟨A1, c1, p0, p1, _, _, _, _, fz⟩ := hi.cells
    have p2 := fz 0
    have p3 := fz 1
    clear fz ht hi q0 q1 f0 f1
    rcases hc with ⟨x, hr, hv, rfl, rfl⟩ | ⟨hr, hb⟩
    · have HX := Lib.hid hr; have HV := Lib.hid hv
      clear hr hv
      go_wp2
      go_ret
      exact ⟨HT.out, .inr ⟨x, t, v, HX.out, rfl, HV.out, HI.out⟩⟩
    · have HX := Lib.hid hr
      clear hr
      cases b with
      | false =>
        clear hb
        go_wp2
        go_ret
        exact ⟨(HH.out.spoil HI.out HT.out HQ.out).1, .inl ⟨HX.out, rfl, (HH.out.spoil HI.out HT.out HQ.out).2⟩⟩
      | true =>
        obtain rfl : bd = true := by simpa using hb
        clear hb
        go_wp2
        go_ret
        exact ⟨(HH.out.spoil HI.out HT.out HQ.out).1, .inl ⟨HX.out, rfl, (HH.out.spoil HI.out HT.out HQ.out).2⟩⟩

set_option maxRecDepth 100000 in
set_option maxHeartbeats 800000 in
theorem wholeTexts_any {α : Type} (W : World) (g : Nat) (s : Bs) (bad : Bool) (w : World) (f : Nat) (first captured : Array Value) (V : α → World → Value → Prop) (r : Option (α × Bs)) (h : InAt W w g s bad)
    (hf : ∀ args w, (callFunc f args).run Tryz.prog w = .ok (.enter f args) w)
    (hread : bad = false → Calls Tryz.prog f (first ++ captured) w (ReadsV W g V r w)) :
    Calls Tryz.prog 91 #[.pointer (some ⟨g, 0, none⟩), .func (.func f) first captured] w (GivesV W g (.slice none 0 0) V (if bad = true then none else r) s w) := by
  have HH := Lib.hid h
  obtain ⟨A, c, q0, q1, _, _, _, _, fz⟩ := h.cells
  have f0 := fz 0
  have f1 := fz 1
  clear fz h
  cases bad with
  | true =>
    go_enter Tryz.func91, Tryz.ntmps91
    go_wp2
    go_ret
    exact ⟨(HH.out.spoil HH.out (Turned.refl _ _) q0).1, .inl ⟨rfl, rfl, (HH.out.spoil HH.out (Turned.refl _ _) q0).2⟩⟩
  | false =>
    have HR := Lib.hid (hread rfl)
    have HQ := Lib.hid q0
    clear hread
    go_enter Tryz.func91, Tryz.ntmps91
    go_wp2_with fail
    refine HR.out.mono ?_
    rintro e w1 ⟨ht, v, b, t, bd, rfl, hi, hc⟩
    have HT := Lib.hid ht; have HI := Lib.hid hi
    obtain ⟨A1, c1, p0, p1, _, _, _, _, fz⟩ := hi.cells
    have p2 := fz 0
    have p3 := fz 1
    clear fz ht hi q0 q1 f0 f1
    rcases hc with ⟨x, hr, hv, rfl, rfl⟩ | ⟨hr, hb⟩
    · have HX := Lib.hid hr; have HV := Lib.hid hv
      clear hr hv
      go_wp2
      go_ret
      exact ⟨HT.out, .inr ⟨x, t, v, HX.out, rfl, HV.out, HI.out⟩⟩
    · have HX := Lib.hid hr
      clear hr
      cases b with
      | false =>
        clear hb
        go_wp2
        go_ret
        exact ⟨(HH.out.spoil HI.out HT.out HQ.out).1, .inl ⟨HX.out, rfl, (HH.out.spoil HI.out HT.out HQ.out).2⟩⟩
      | true =>
        obtain rfl : bd = true := by simpa using hb
        clear hb
        go_wp2
        go_ret
        exact ⟨(HH.out.spoil HI.out HT.out HQ.out).1, .inl ⟨HX.out, rfl, (HH.out.spoil HI.out HT.out HQ.out).2⟩⟩

end Go.Proofs.YtfcdhpkikhkmiaaGreatDoor

/-
  An In's Text, as a call.
-/
namespace Go.Proofs.YtfcdhpkikhkmiaaGreatDoor
open Go.RowKit Go.Maps

section
variable (W : World) (hB : Base W) (g : Nat) (s : Bs) (w : World)
include hB
set_option maxRecDepth 100000 in
set_option maxHeartbeats 1600000 in
theorem text1_any (most : Int) (bi bm : Nat) (h : InAt W w g s false) (hbi : w.cell? ⟨bi, 0, none⟩ = some (.pointer (some ⟨g, 0, none⟩))) (hbm : w.cell? ⟨bm, 0, none⟩ = some (.int .i64 most)) (hi : bi ≠ g) (hm : bm ≠ g) :
    Calls Tryz.prog 69 (#[] ++ #[.pointer (some ⟨bi, 0, none⟩), .pointer (some ⟨bm, 0, none⟩)]) w (ReadsV W g vS (textR most s) w) := by
  show Calls Tryz.prog 69 #[.pointer (some ⟨bi, 0, none⟩), .pointer (some ⟨bm, 0, none⟩)] w _
  have HD := Lib.hid (inDigits_any W hB g s false 58 w h)
  have e58 : ((58 : UInt8).toNat : Int) = 58 := rfl
  rw [e58] at HD
  unfold textR
  clear h e58
  generalize digitsR 58 s = d at HD
  have HBI := Lib.hid (show ∀ V, Turned g w V → V.cell? ⟨bi, 0, none⟩ = some (.pointer (some ⟨g, 0, none⟩)) from fun V hV => hV.cell hbi hi)
  have HBM := Lib.hid (show ∀ V, Turned g w V → V.cell? ⟨bm, 0, none⟩ = some (.int .i64 most) from fun V hV => hV.cell hbm hm)
  have HNE := Lib.hid hi
  clear hi hm hbm
  go_enter Tryz.func69, Tryz.ntmps69
  go_wp2_with fail
  refine HD.out.mono ?_
  rintro e w1 ⟨ht, hc⟩
  have HT := Lib.hid ht
  have b1 := HBI.out w1 ht
  have b2 := HBM.out w1 ht
  clear ht HD hbi
  rcases hc with ⟨hd, ⟨n, rfl⟩, hi⟩ | ⟨n, t, hd, rfl, hi⟩
  · have HI := Lib.hid hi; have HX := Lib.hid hd
    clear hi hd
    go_wp2
    go_ret2
    exact ⟨HT.out, _, false, s, false, rfl, HI.out, .inr ⟨by rw [HX.out]; rfl, rfl⟩⟩
  · have HI := Lib.hid hi; have HX := Lib.hid hd
    have HM := Lib.hid hi.most
    obtain ⟨A, c, q0, q1, hbs, hle, hA, hty, fz⟩ := hi.cells
    have f0 := fz 0
    have HBS := Lib.hid hbs; have HA := Lib.hid hA; have HTY := Lib.hid hty; have HLE := Lib.hid hle
    clear hi hd fz hbs hA hty hle
    by_cases h0 : n < 0
    · have HH : Hid (¬ (0 ≤ n ∧ n ≤ most ∧ n < (t.length : Nat) ∧ t[n.toNat]? = some 44)) := fun h => by omega
      go_wp2
      go_ret2
      exact ⟨HT.out, _, false, t, false, rfl, HI.out, .inr ⟨by rw [HX.out, Option.bind_some, if_neg HH.out], rfl⟩⟩
    obtain ⟨k, rfl⟩ := Int.eq_ofNat_of_zero_le (show 0 ≤ n by omega)
    by_cases h1 : (k : Int) > most
    · have HH : Hid (¬ (0 ≤ (k : Int) ∧ (k : Int) ≤ most ∧ (k : Int) < (t.length : Nat) ∧ t[((k : Int)).toNat]? = some 44)) := fun h => by omega
      go_wp2
      go_ret2
      exact ⟨HT.out, _, false, t, false, rfl, HI.out, .inr ⟨by rw [HX.out, Option.bind_some, if_neg HH.out], rfl⟩⟩
    by_cases h2 : (k : Int) ≥ (t.length : Nat)
    · have HH : Hid (¬ (0 ≤ (k : Int) ∧ (k : Int) ≤ most ∧ (k : Int) < (t.length : Nat) ∧ t[((k : Int)).toNat]? = some 44)) := fun h => by omega
      go_wp2
      go_ret2
      exact ⟨HT.out, _, false, t, false, rfl, HI.out, .inr ⟨by rw [HX.out, Option.bind_some, if_neg HH.out], rfl⟩⟩
    have hk : k < t.length := by omega
    obtain ⟨bb, oo, hAA, g1⟩ := HBS.out.get hk
    have hz : t[k]? = some (t.getD k 0) := by simp [List.getD, List.getElem?_eq_getElem hk]
    have HZ := Lib.hid hz
    generalize t.getD k 0 = y at g1 HZ
    subst hAA
    clear hz
    have HK := Lib.hid hk
    by_cases h3 : y = 44
    · subst h3
      have HS : Hid ((if 0 ≤ (k : Int) ∧ (k : Int) ≤ most ∧ (k : Int) < (t.length : Nat) ∧ t[((k : Int)).toNat]? = some 44 then some ((⟨(t.take ((k : Int)).toNat).toArray⟩ : ByteArray), t.drop (((k : Int)).toNat + 1)) else none) = some ((⟨(t.take k).toArray⟩ : ByteArray), t.drop (k + 1))) := by
        rw [if_pos ⟨by omega, by omega, by omega, by rw [Int.toNat_natCast]; exact HZ.out⟩, Int.toNat_natCast]
        rfl
      have hcv := string_bytes w1 (some ⟨bb, oo, none⟩) k c (t.take k) (HBS.out.take (by omega))
      have g2 : w1.cell? ⟨bb, oo + k, none⟩ = some (.int .u8 44) := g1
      have d0 : decide ((k : Int) < 0) = false := by simp
      have d1 : decide (most < (k : Int)) = false := by simp; omega
      have d2 : decide (t.length ≤ k) = false := by simp; omega
      have hkc : k ≤ c := by have := HLE.out; omega
      have hle2 := HLE.out
      have HMV : ∀ V, Drew w1 V → Hid (Turned g w1 (V.setCell ⟨g, 0, none⟩ (.slice (if c = k + 1 then some ⟨bb, oo, none⟩ else some ⟨bb, oo + (k + 1), none⟩) (t.length - (k + 1)) (c - (k + 1)))) ∧ InAt W (V.setCell ⟨g, 0, none⟩ (.slice (if c = k + 1 then some ⟨bb, oo, none⟩ else some ⟨bb, oo + (k + 1), none⟩) (t.length - (k + 1)) (c - (k + 1)))) g (t.drop (k + 1)) false) := fun V hV => by
        have e : (if c = k + 1 then some (⟨bb, oo, none⟩ : Addr) else some ⟨bb, oo + (k + 1), none⟩) = (if c = k + 1 then some (⟨bb, oo, none⟩ : Addr) else (some (⟨bb, oo, none⟩ : Addr)).map (·.add (k + 1))) := by simp only [Option.map_some, plain_add]
        have hr := HBS.out.from_ (c := c) (k := k + 1) (by omega) hle2
        have hy := HTY.out.cut c (k + 1)
        rw [← e] at hr hy
        exact HI.out.move hV.later hr (by omega) (fun e => by split at e <;> cases e) hy (by rw [List.length_drop]; have := HM.out; omega)
      clear g1 h0 h1 h2
      have hk1 : k + 1 ≤ t.length := hk
      have hm1 := HM.out
      go_wp2
      by_cases hcc : c = k + 1
      · have e0 : c - (k + 1) = 0 := by omega
        simp only [if_pos hcc, e0] at HMV
        clear e0
        go_region
        all_goals go_wp2
        all_goals go_ret2
        all_goals exact ⟨HT.out.trans ((HMV w1 (Drew.refl _)).out.1.trans ((Later.refl _).drew.turned g)), _, true, t.drop (k + 1), false, rfl, (HMV w1 (Drew.refl _)).out.2.later (Later.refl _).drew, .inl ⟨_, by rw [HX.out, Option.bind_some]; exact HS.out, rfl, rfl, rfl⟩⟩
      · simp only [if_neg hcc] at HMV
        go_region
        all_goals go_wp2
        all_goals go_ret2
        all_goals exact ⟨HT.out.trans ((HMV w1 (Drew.refl _)).out.1.trans ((Later.refl _).drew.turned g)), _, true, t.drop (k + 1), false, rfl, (HMV w1 (Drew.refl _)).out.2.later (Later.refl _).drew, .inl ⟨_, by rw [HX.out, Option.bind_some]; exact HS.out, rfl, rfl, rfl⟩⟩
    · have hb : (((y.toNat : Nat) : Int) == 44) = false := by
        have : y.toNat ≠ 44 := fun e => h3 (UInt8.toNat.inj e)
        simpa using fun e => this (by omega)
      have hb2 : (((y.toNat : Nat) : Int) != 44) = true := by rw [bne, hb]; rfl
      have d0 : decide ((k : Int) < 0) = false := by simp
      have d1 : decide (most < (k : Int)) = false := by simp; omega
      have d2 : decide (t.length ≤ k) = false := by simp; omega
      have HH : Hid (¬ (0 ≤ (k : Int) ∧ (k : Int) ≤ most ∧ (k : Int) < (t.length : Nat) ∧ t[((k : Int)).toNat]? = some 44)) := fun h => by
        have e := h.2.2.2
        rw [Int.toNat_natCast, HZ.out, Option.some.injEq] at e
        exact h3 e
      clear h3 h0 h1 h2
      go_wp2
      go_ret2
      exact ⟨HT.out, _, false, t, false, rfl, HI.out, .inr ⟨by rw [HX.out, Option.bind_some, if_neg HH.out], rfl⟩⟩

set_option maxRecDepth 100000 in
set_option maxHeartbeats 800000 in
theorem inText_any (most : Int) (bad : Bool) (h : InAt W w g s bad) : Calls Tryz.prog 21 #[.pointer (some ⟨g, 0, none⟩), .int .i64 most] w (GivesV W g (.string ByteArray.empty) vS (if bad = true then none else textR most s) s w) := by
  have hl : Later w ((w.alloc (.cells #[.pointer (some ⟨g, 0, none⟩)] 41)).alloc (.cells #[.int .i64 most] 3)) := ((Later.refl w).alloc _).alloc _
  have hg := h.lt
  have hb1 : BoxAt (w.alloc (.cells #[.pointer (some ⟨g, 0, none⟩)] 41)) w.heap.size #[.pointer (some ⟨g, 0, none⟩)] 41 := BoxAt.made w _ _
  have c1 : ((w.alloc (.cells #[.pointer (some ⟨g, 0, none⟩)] 41)).alloc (.cells #[.int .i64 most] 3)).cell? ⟨w.heap.size, 0, none⟩ = some (.pointer (some ⟨g, 0, none⟩)) := (hb1.alloc _).cell (i := 0) rfl
  have hb2 : BoxAt ((w.alloc (.cells #[.pointer (some ⟨g, 0, none⟩)] 41)).alloc (.cells #[.int .i64 most] 3)) (w.heap.size + 1) #[.int .i64 most] 3 := by
    have := BoxAt.made (w.alloc (.cells #[.pointer (some ⟨g, 0, none⟩)] 41)) #[.int .i64 most] 3
    rw [World.size_alloc] at this
    exact this
  have c2 : ((w.alloc (.cells #[.pointer (some ⟨g, 0, none⟩)] 41)).alloc (.cells #[.int .i64 most] 3)).cell? ⟨w.heap.size + 1, 0, none⟩ = some (.int .i64 most) := hb2.cell (i := 0) rfl
  have HL := Lib.hid hl
  have HW := Lib.hid (wholeText_any W g s bad _ 69 #[] #[.pointer (some ⟨w.heap.size, 0, none⟩), .pointer (some ⟨w.heap.size + 1, 0, none⟩)] vS (textR most s) (h.later hl) (enters_of Tryz.func69 (by kernel_rfl) rfl) (fun e => by subst e; exact text1_any W hB g s _ most w.heap.size (w.heap.size + 1) (h.later hl) c1 c2 (by omega) (by omega)))
  clear h hb1 hb2 c2 hl
  generalize (if bad = true then none else textR most s) = r at HW ⊢
  go_enter Tryz.func21, Tryz.ntmps21
  go_wp2_with fail
  refine HW.out.mono ?_
  rintro e w1 ⟨ht, hc⟩
  rcases hc with ⟨hr, rfl, hi⟩ | ⟨x, t, v, hr, rfl, rfl, hi⟩
  · go_wp2
    go_ret
    exact ⟨(HL.out.turned g).trans ht, .inl ⟨hr, rfl, hi⟩⟩
  · go_wp2
    go_ret
    exact ⟨(HL.out.turned g).trans ht, .inr ⟨x, t, _, hr, rfl, rfl, hi⟩⟩

set_option maxRecDepth 100000 in
set_option maxHeartbeats 800000 in
theorem limText_any (most : Int) (bad : Bool) (h : InAt W w g s bad) : Calls Tryz.prog 72 (#[.agg #[.pointer (some ⟨g, 0, none⟩), .int .i64 most]] ++ #[]) w (GivesV W g (.string ByteArray.empty) vS (if bad = true then none else textR most s) s w) := by
  show Calls Tryz.prog 72 #[.agg #[.pointer (some ⟨g, 0, none⟩), .int .i64 most]] w _
  have hl : Later w (w.alloc (.cells #[.pointer (some ⟨g, 0, none⟩), .int .i64 most] 120)) := (Later.refl w).alloc _
  have HL := Lib.hid hl
  have HT := Lib.hid (inText_any W hB g s _ most bad (h.later hl))
  clear h hl
  generalize (if bad = true then none else textR most s) = r at HT ⊢
  go_enter Tryz.func72, Tryz.ntmps72
  go_wp2_with fail
  refine HT.out.mono ?_
  rintro e w1 ⟨ht, hc⟩
  rcases hc with ⟨hr, rfl, hi⟩ | ⟨x, t, v, hr, rfl, rfl, hi⟩
  · go_wp2
    go_ret
    exact ⟨(HL.out.turned g).trans ht, .inl ⟨hr, rfl, hi⟩⟩
  · go_wp2
    go_ret
    exact ⟨(HL.out.turned g).trans ht, .inr ⟨x, t, _, hr, rfl, rfl, hi⟩⟩
end

end Go.Proofs.YtfcdhpkikhkmiaaGreatDoor

/-
  The document's own way to read numbers and what stands behind them, as plain values; that it is the same. Nothing of any program.
-/
namespace Go.Proofs.YtfcdhpkikhkmiaaGreatDoor
open Go.RowKit Go

theorem nDigits_le : ∀ (k u : Nat), u < 10 ^ (k + 1) → Lib.nDigits u ≤ k + 1
  | 0, u, h => by rw [Lib.nDigits_small (by simpa using h)]; omega
  | k + 1, u, h => by
    by_cases hu : u < 10
    · rw [Lib.nDigits_small hu]; omega
    · rw [Lib.nDigits_big hu]
      have := nDigits_le k (u / 10) (by rw [Nat.pow_succ] at h; omega)
      omega
theorem itoa_20 {n : Int} (h0 : -9223372036854775808 ≤ n) (h1 : n ≤ 9223372036854775807) : (Lib.itoa n).length ≤ 20 := by
  unfold Lib.itoa
  split
  · rw [List.length_cons, Lib.decDigits_length]
    have := nDigits_le 18 n.natAbs (by omega)
    omega
  · rw [Lib.decDigits_length]
    have := nDigits_le 18 n.toNat (by omega)
    omega
theorem itoa_one (n : Int) : 1 ≤ (Lib.itoa n).length := by
  unfold Lib.itoa
  split
  · simp
  · rw [Lib.decDigits_length]; exact Lib.nDigits_pos _

end Go.Proofs.YtfcdhpkikhkmiaaGreatDoor

/-
  What an Out's digits, Num and Flag come to, as calls.
-/
namespace Go.Proofs.YtfcdhpkikhkmiaaGreatDoor
open Go.RowKit Go.Maps

theorem Tryz.byteInfo : (Tryz.prog.info? 5).map (fun i => (i.zero, i.size, i.bytes)) = some (some (.int .u8 0), 1, 1) := by kernel_rfl
section
variable {w w' : World} {B n g : Nat} {e : TypeId} {v : Value} {xs : List Value}
theorem owns_slice (h : w.ownsRow B e 1 v n xs) (hn : 0 < n) : ∃ b cap, v = .slice (some ⟨b, 0, none⟩) n cap ∧ B ≤ b ∧ n ≤ cap ∧ ∃ cur, w.heap[b]? = some (.cells cur e (0, 0)) := by
  rcases h.2 with ⟨_, h0⟩ | ⟨b, cap, cur, hv, hb, hh, hnc, _⟩
  · omega
  · exact ⟨b, cap, hv, hb, hnc, cur, hh⟩
theorem owns_kept (h : w.ownsRow B e 1 v n xs) (hk : ∀ b, v.ownBlock = some b → w'.heap[b]? = w.heap[b]?) : w'.ownsRow B e 1 v n xs := by
  refine ⟨h.1, ?_⟩
  rcases h.2 with h | ⟨b, cap, cur, hv, hb, hh, hr⟩
  · exact .inl h
  · exact .inr ⟨b, cap, cur, hv, hb, (hk b (by rw [hv]; rfl)).trans hh, hr⟩
theorem owns_turned (h : w.ownsRow B e 1 v n xs) (ht : Turned g w w') (hne : v.ownBlock ≠ some g) : w'.ownsRow B e 1 v n xs :=
  owns_kept h fun b hb => by
    rcases h.2 with ⟨rfl, _⟩ | ⟨b', cap, cur, rfl, _, hh, _⟩
    · cases hb
    · simp only [Value.ownBlock, Option.some.injEq] at hb
      subst hb
      exact ht.block _ (Array.getElem?_eq_some_iff.1 hh).1 (fun e => hne (by rw [← e]; rfl))
theorem owns_apart {cs : Array Value} {T : TypeId} (h : w.ownsRow B e 1 v n xs) (hb : BoxAt w g cs T) (hT : T ≠ e) : v.ownBlock ≠ some g := by
  rcases h.2 with ⟨rfl, _⟩ | ⟨b, cap, cur, rfl, _, hh, _⟩
  · simp [Value.ownBlock]
  · intro e1
    simp only [Value.ownBlock, Option.some.injEq] at e1
    unfold BoxAt at hb
    rw [e1, hb] at hh
    simp at hh
    exact hT hh.2
theorem box_grown {cs : Array Value} {T : TypeId} (hb : BoxAt w g cs T) (h : w.grownBy w' v.ownBlock) (hne : v.ownBlock ≠ some g) : BoxAt w' g cs T := by
  unfold BoxAt at hb ⊢
  rw [h.block g (Array.getElem?_eq_some_iff.1 hb).1 (fun e => hne e.symm)]
  exact hb
end

theorem OutAt.close {W : World} {B g : Nat} {w w1 : World} {bs cs : Bs} {v v0 : Value} (h : OutAt W B w g bs) (hw : Wr B g w w1) (hb : BoxAt w1 g #[v0] 27) (ho : w1.ownsRow B 5 1 v cs.length (Lib.byteCells cs)) :
    OutAt W B (w1.setCell ⟨g, 0, none⟩ v) g cs ∧ Wr B g w (w1.setCell ⟨g, 0, none⟩ v) := by
  have ht := turned_set w1 g 0 v
  have hne := owns_apart ho hb (by decide)
  have hww := hw.trans (Wr.of_turned ht)
  exact ⟨h.put hww (hb.set 0 v) (owns_turned ho ht hne) hne, hww⟩

set_option maxRecDepth 100000 in
set_option maxHeartbeats 800000 in
theorem outDigits_any (W : World) (hB : Base W) (B g : Nat) (bs : Bs) (w : World) (n : Int) (c : UInt8) (h : OutAt W B w g bs) (h0 : -9223372036854775808 ≤ n) (h1 : n ≤ 9223372036854775807) (hl : bs.length ≤ 100000000) :
    Calls Tryz.prog 78 #[.pointer (some ⟨g, 0, none⟩), .int .i64 n, .int .u8 (c.toNat : Int)] w fun e w' => e = .returned (.tuple #[]) ∧ OutAt W B w' g (bs ++ (Lib.itoa n ++ [c])) ∧ Wr B g w w' := by
  have HH := Lib.hid h
  obtain ⟨⟨v, hb, hown, hne⟩, hle, hbase, hlow, hg⟩ := h
  obtain ⟨i, hi, hz, hs, hby⟩ := info_parts Tryz.byteInfo
  have q0 := hb.cell (i := 0) rfl
  have f0 := hb.frozen 0
  simp only [List.getElem_toArray, List.getElem_cons_zero] at q0
  have htab : Lib.TabBelow Tryz.prog B w "internal/strconv.uint64pow10" .u64 Lib.pow10Tab := fun w' hw => (hB.later (Below.trans hbase (hw.mono hlow))).tab
  have HA := Lib.hid (Any.strconv_AppendInt_10 Tryz.laysAppendInt B bs.length n h0 h1 v (Lib.byteCells bs) w hown hle (by omega) htab)
  have HB := Lib.hid hb
  clear hown htab
  go_enter Tryz.func78, Tryz.ntmps78
  go_wp2_with fail
  refine HA.out.mono ?_
  rintro e w1 ⟨v1, rfl, hown1, hbel, hoth⟩
  have hown1 : w1.ownsRow B 5 1 v1 (bs.length + (Lib.itoa n).length) (Lib.byteCells bs ++ Lib.byteCells (Lib.itoa n)) := hown1
  have hoth : Lib.OthersKept 5 none w w1 := hoth
  have HW1 : Hid (Wr B g w w1) := Wr.of_below hbel hoth
  have hb1 : BoxAt w1 g #[v] 27 := hoth g _ HB.out (by simp) (fun c fz e => by simp at e)
  have hl1 := itoa_one n
  have hl2 := itoa_20 h0 h1
  obtain ⟨b1, cap1, rfl, hbB, hcap, cur1, hh1⟩ := owns_slice hown1 (by omega)
  have q1 := hb1.cell (i := 0) rfl
  have f1 := hb1.frozen 0
  simp only [List.getElem_toArray, List.getElem_cons_zero] at q1
  have hne1 := owns_apart hown1 hb1 (by decide)
  have HO2 := Lib.hid ((owns_turned hown1 (turned_set w1 g 0 (.slice (some ⟨b1, 0, none⟩) (bs.length + (Lib.itoa n).length) cap1)) hne1).alloc (.cells #[.int .u8 (c.toNat : Int)] 5))
  have HB2 := Lib.hid ((hb1.set 0 (.slice (some ⟨b1, 0, none⟩) (bs.length + (Lib.itoa n).length) cap1)).alloc (.cells #[.int .u8 (c.toNat : Int)] 5))
  have HW2 : Hid (Wr B g w ((w1.setCell ⟨g, 0, none⟩ (.slice (some ⟨b1, 0, none⟩) (bs.length + (Lib.itoa n).length) cap1)).alloc (.cells #[.int .u8 (c.toNat : Int)] 5))) := (HW1.out.trans (Wr.of_turned (turned_set w1 g 0 _))).trans (Wr.of_later ((Later.refl _).alloc _))
  have hs2 : B ≤ ((w1.setCell ⟨g, 0, none⟩ (.slice (some ⟨b1, 0, none⟩) (bs.length + (Lib.itoa n).length) cap1)).alloc (.cells #[.int .u8 (c.toNat : Int)] 5)).heap.size := Nat.le_trans hle HW2.out.size
  have HCL : Hid (((w1.setCell ⟨g, 0, none⟩ (.slice (some ⟨b1, 0, none⟩) (bs.length + (Lib.itoa n).length) cap1)).alloc (.cells #[.int .u8 (c.toNat : Int)] 5)).cell? ⟨w1.heap.size, 0, none⟩ = some (.int .u8 (c.toNat : Int))) := by
    have h := (BoxAt.made (w1.setCell ⟨g, 0, none⟩ (.slice (some ⟨b1, 0, none⟩) (bs.length + (Lib.itoa n).length) cap1)) #[Value.int .u8 (c.toNat : Int)] 5).cell (i := 0) rfl
    exact Lib.hid (by simpa using h)
  have HM : Hid ((bs.length + (Lib.itoa n).length + 1) * 1 ≤ 140737488355328) := by show _ ≤ _; omega
  have HM2 : Hid (bs.length + (Lib.itoa n).length + 1 ≤ maxLen) := by show _ ≤ maxLen; simp only [maxLen]; omega
  have hN : bs.length + (Lib.itoa n).length + 1 = (bs ++ (Lib.itoa n ++ [c])).length := by simp; omega
  have hN2 : bs.length + ((Lib.itoa n).length + 1) = (bs ++ (Lib.itoa n ++ [c])).length := by simp
  have HX : Hid ((Lib.byteCells bs ++ Lib.byteCells (Lib.itoa n)) ++ [Value.int .u8 (c.toNat : Int)] = Lib.byteCells (bs ++ (Lib.itoa n ++ [c]))) := by show _ = _; simp [Lib.byteCells]
  clear hown1 hb1 hh1 hl1 hl2 hne1 hcap hbel hoth hb hne q0 f0
  generalize Lib.byteCells bs ++ Lib.byteCells (Lib.itoa n) = XS at HO2 HX
  go_wp2_with (at_builtin; refine wpList_append_own _ rfl _ _ 25 rfl B 5 i (.int .u8 0) 1 1 Tryz.underlying25 hi hz hs hby rfl (by decide) _ _ XS rfl HO2.out _ 1 1 [Value.int .u8 (c.toNat : Int)] rfl rfl ?_ ?_ HM2.out HM.out hs2 ?_)
  · intro j u hj
    match j, hj with
    | 0, hj => simp only [List.getElem?_cons_zero, Option.some.injEq] at hj; subst hj; exact HCL.out
    | j + 1, hj => simp at hj
  · intro u hu
    simp at hu
    subst hu
    rfl
  · intro v2 w2 hown2 hgrow _
    rw [HX.out] at hown2
    first | rw [hN] at hown2 | rw [hN2] at hown2
    have hb2 := box_grown HB2.out hgrow (owns_apart HO2.out HB2.out (by decide))
    have HW3 := Lib.hid (HW2.out.trans (Wr.of_grown hgrow HO2.out))
    obtain ⟨b2, cap2, rfl, _, _, _, _⟩ := owns_slice hown2 (by rw [← hN2]; omega)
    have q2 := hb2.cell (i := 0) rfl
    have f2 := hb2.frozen 0
    simp only [Array.setIfInBounds] at q2
    have HC := Lib.hid (HH.out.close HW3.out hb2 hown2)
    clear hown2 hgrow hb2 hN hN2 HX HO2 HB2
    generalize (bs ++ (Lib.itoa n ++ [c])).length = M at q2 HC
    go_wp2
    go_end0
    exact ⟨rfl, HC.out⟩

set_option maxRecDepth 100000 in
set_option maxHeartbeats 800000 in
theorem outNum_any (W : World) (hB : Base W) (B g : Nat) (bs : Bs) (w : World) (n : Int) (h : OutAt W B w g bs) (h0 : -9223372036854775808 ≤ n) (h1 : n ≤ 9223372036854775807) (hl : bs.length ≤ 100000000) :
    Calls Tryz.prog 32 #[.pointer (some ⟨g, 0, none⟩), .int .i64 n] w fun e w' => e = .returned (.tuple #[]) ∧ OutAt W B w' g (bs ++ numC n) ∧ Wr B g w w' := by
  have hb := clamp_bounds n
  have HD := Lib.hid (outDigits_any W hB B g bs w (clampC n) 59 h (by omega) (by omega) hl)
  have e59 : ((59 : UInt8).toNat : Int) = 59 := rfl
  rw [e59] at HD
  unfold numC
  have ec : clampC n = max (-1099511627776) (min n 1099511627776) := by unfold clampC; omega
  rw [ec] at HD ⊢
  clear h hb e59 ec
  go_enter Tryz.func32, Tryz.ntmps32
  go_wp2_with fail
  refine HD.out.mono ?_
  rintro e w1 ⟨rfl, h1⟩
  go_wp2
  go_end0
  exact ⟨rfl, h1⟩

set_option maxRecDepth 100000 in
set_option maxHeartbeats 800000 in
theorem outFlag_any (W : World) (hB : Base W) (B g : Nat) (bs : Bs) (w : World) (b : Bool) (h : OutAt W B w g bs) (hl : bs.length ≤ 100000000) :
    Calls Tryz.prog 33 #[.pointer (some ⟨g, 0, none⟩), .bool b] w fun e w' => e = .returned (.tuple #[]) ∧ OutAt W B w' g (bs ++ flagC b) ∧ Wr B g w w' := by
  have HD := Lib.hid (outNum_any W hB B g bs w (if b = true then 1 else 0) h (by split <;> decide) (by split <;> decide) hl)
  unfold flagC
  clear h
  cases b
  · simp only [Bool.false_eq_true, if_false] at HD ⊢
    go_enter Tryz.func33, Tryz.ntmps33
    go_wp2_with fail
    refine HD.out.mono ?_
    rintro e w1 ⟨rfl, h1⟩
    go_wp2
    go_end0
    exact ⟨rfl, h1⟩
  · simp only [if_true] at HD ⊢
    go_enter Tryz.func33, Tryz.ntmps33
    go_wp2_with fail
    refine HD.out.mono ?_
    rintro e w1 ⟨rfl, h1⟩
    go_wp2
    go_end0
    exact ⟨rfl, h1⟩

end Go.Proofs.YtfcdhpkikhkmiaaGreatDoor

/-
  Copies of bytes: slices.Clone at []byte, an Out's Bytes, and Of, as calls.
-/
namespace Go.Proofs.YtfcdhpkikhkmiaaGreatDoor
open Go.RowKit Go.Maps

section
variable {w w' : World} {B : Nat} {v : Value} {bs : Bs}
theorem owns_bs (h : w.ownsRow B 5 1 v bs.length (Lib.byteCells bs)) : ∃ A c, v = .slice A bs.length c ∧ bs.length ≤ c ∧ (A = none → c = 0) ∧ BsAt w A bs.length bs ∧ Byty w A := by
  rcases h.2 with ⟨hv, h0⟩ | ⟨b, cap, cur, hv, hb, hh, hnc, hm, hs, ht⟩
  · have e : bs = [] := List.eq_nil_of_length_eq_zero h0
    subst e
    exact ⟨none, 0, hv, Nat.le_refl _, fun _ => rfl, BsAt.none _ _, fun a e => by cases e⟩
  · refine ⟨some ⟨b, 0, none⟩, cap, hv, hnc, (fun e => by cases e), ⟨rfl, fun _ => ⟨b, 0, rfl, fun j x hj => ?_⟩⟩, fun a e => by cases e; exact ⟨cur, _, hh⟩⟩
    have hc := h.cells (g := b) (by rw [hv]; rfl) j (.int .u8 (x.toNat : Int)) (by unfold Lib.byteCells; rw [List.getElem?_map, hj]; rfl)
    rw [plain_add] at hc
    exact hc
end

set_option maxRecDepth 100000 in
set_option maxHeartbeats 800000 in
theorem clone9_any (A : Option Addr) (n c : Nat) (bs : Bs) (w : World) (hx : BsAt w A n bs) (hA : A = none → c = 0) (hnc : n ≤ c) (hn : n ≤ 1000000000) :
    Calls Tryz.prog 52 #[.slice A n c] w fun e w' => ∃ v, e = .returned v ∧ w'.ownsRow w.heap.size 5 1 v bs.length (Lib.byteCells bs) ∧ Later w w' := by
  have q29 : ∀ (w : World) (a : Option Addr) (n c n' c' : Nat), (binOp .eql 25 (.slice a n c) (.slice none n' c')).run Tryz.prog w = .ok (.bool a.isNone) w := fun w a n c n' c' => Lib.run_eql_slice_nil w _ _ a n c n' c' Tryz.underlying25
  have hl := hx.len
  cases A with
  | none =>
    obtain rfl := hA rfl
    obtain rfl : n = 0 := by omega
    obtain rfl : bs = [] := List.eq_nil_of_length_eq_zero hl
    clear hx
    go_enter Tryz.func52, Tryz.ntmps52
    go_wp2
    go_ret
    exact ⟨_, rfl, World.ownsRow_nil _ _ _ _, Later.refl _⟩
  | some a =>
    obtain ⟨i, hi, hz, hs, hby⟩ := info_parts Tryz.byteInfo
    have HC : Hid (∀ (j : Nat) u, (Lib.byteCells bs)[j]? = some u → (w.alloc (.cells #[] 5)).cell? (a.add j) = some u) := fun j u hj => by
      have hjl : j < (Lib.byteCells bs).length := (List.getElem?_eq_some_iff.1 hj).1
      simp only [Lib.byteCells, List.length_map] at hjl
      unfold Lib.byteCells at hj
      rw [List.getElem?_map] at hj
      obtain ⟨x, hx1, rfl⟩ := Option.map_eq_some_iff.1 hj
      obtain ⟨b, o, e, hc⟩ := hx.2 (by omega)
      cases e
      rw [plain_add]
      exact ((Later.refl w).alloc _).cell (hc j x hx1)
    have HLN : Hid ((Lib.byteCells bs).length = n * 1) := by show _ = _; simp [Lib.byteCells, hl]
    have HO : Hid (∀ u ∈ Lib.byteCells bs, u.oneCell' = true) := fun u hu => by
      obtain ⟨x, _, rfl⟩ := List.mem_map.1 hu
      rfl
    have HL := Lib.hid hl
    have hown0 : (w.alloc (.cells #[] 5)).ownsRow w.heap.size 5 1 (.slice (some ⟨w.heap.size, 0, none⟩) 0 0) 0 [] := World.ownsRow_made w #[] 0 (Nat.le_refl _) (Nat.zero_le _) rfl
    have HM : Hid ((0 + n) * 1 ≤ 140737488355328) := by show _ ≤ _; omega
    have HM2 : Hid (0 + n ≤ maxLen) := by show _ ≤ maxLen; simp only [maxLen]; omega
    clear hx hl
    go_enter Tryz.func52, Tryz.ntmps52
    go_wp2_with (at_builtin; refine wpList_append_own _ rfl _ _ 25 rfl w.heap.size 5 i (.int .u8 0) 1 1 Tryz.underlying25 hi hz hs hby rfl (by decide) _ 0 [] rfl hown0 a n c (Lib.byteCells bs) rfl HLN.out HC.out HO.out HM2.out HM.out (by simp) ?_)
    intro v2 w2 hown2 hgrow _
    have hl2 : Later w w2 := Below.grown ((Later.refl w).alloc _) hgrow (by simp) (by intro k hk; simp [Value.ownBlock] at hk; omega)
    have HO2 : Hid (w2.ownsRow w.heap.size 5 1 v2 bs.length (Lib.byteCells bs)) := by
      show w2.ownsRow _ _ _ _ _ _
      rw [HL.out]
      exact hown2
    clear hown2 hgrow
    go_wp2
    go_ret
    exact ⟨v2, rfl, HO2.out, hl2⟩

set_option maxRecDepth 100000 in
set_option maxHeartbeats 800000 in
theorem outBytes_any (W : World) (B g : Nat) (bs : Bs) (w : World) (h : OutAt W B w g bs) (hl : bs.length ≤ 1000000000) :
    Calls Tryz.prog 12 #[.pointer (some ⟨g, 0, none⟩)] w fun e w' => ∃ v, e = .returned v ∧ w'.ownsRow w.heap.size 5 1 v bs.length (Lib.byteCells bs) ∧ Later w w' := by
  obtain ⟨⟨v, hb, hown, _⟩, _⟩ := h
  obtain ⟨A, c, rfl, hc, hA, hbs, _⟩ := owns_bs hown
  have q0 := hb.cell (i := 0) rfl
  simp only [List.getElem_toArray, List.getElem_cons_zero] at q0
  have HC := Lib.hid (clone9_any A bs.length c bs w hbs hA hc hl)
  clear hb hown hbs hA hc
  go_enter Tryz.func12, Tryz.ntmps12
  go_wp2_with fail
  refine HC.out.mono ?_
  rintro e w1 ⟨v, rfl, h1, h2⟩
  have H1 := Lib.hid h1
  clear h1
  go_wp2
  go_ret
  exact ⟨v, rfl, H1.out, h2⟩

set_option maxRecDepth 100000 in
set_option maxHeartbeats 800000 in
theorem of_any (W : World) (A : Option Addr) (n c : Nat) (bs : Bs) (w : World) (hx : BsAt w A n bs) (hA : A = none → c = 0) (hnc : n ≤ c) (hn : n ≤ 190000) (hW : Later W w) :
    Calls Tryz.prog 13 #[.slice A n c] w fun e w' => ∃ g, e = .returned (.pointer (some ⟨g, 0, none⟩)) ∧ InAt W w' g bs false ∧ Later w w' := by
  have HC := Lib.hid (clone9_any A n c bs w hx hA hnc (by omega))
  have HM : Hid (bs.length ≤ 190000) := by show _ ≤ _; rw [hx.len]; exact hn
  clear hx hA hnc hn
  go_enter Tryz.func13, Tryz.ntmps13
  go_wp2_with fail
  refine HC.out.mono ?_
  rintro e w1 ⟨v, rfl, h1, h2⟩
  obtain ⟨A1, c1, rfl, hc1, hA1, hbs1, hty⟩ := owns_bs h1
  have hl := (Later.refl w1).alloc (.cells #[.slice A1 bs.length c1, .bool false] 92)
  have HI : Hid (InAt W (w1.alloc (.cells #[.slice A1 bs.length c1, .bool false] 92)) w1.heap.size bs false) :=
    ⟨⟨A1, c1, BoxAt.made w1 _ _, hbs1.later hl, hc1, hA1, hty.later hl⟩, HM.out, (hW.trans h2).trans hl, (hW.trans h2).le⟩
  have HL := Lib.hid (h2.trans hl)
  clear h1 h2 hbs1 hty hA1 hc1 hl
  go_wp2
  go_ret
  exact ⟨w1.heap.size, rfl, HI.out, HL.out⟩

end Go.Proofs.YtfcdhpkikhkmiaaGreatDoor

/-
  Rows that are read thing by thing, as plain values and in memory.
-/
namespace Go.Proofs.YtfcdhpkikhkmiaaGreatDoor
open Go.RowKit Go.Maps

section
variable {α : Type} {rd : Bs → Option (α × Bs)}
theorem manyR_succ {k : Nat} {s t : Bs} {l : List α} (h : manyR rd k s = some (l, t)) : manyR rd (k + 1) s = (rd t).map fun p => (l ++ [p.1], p.2) := by
  induction k generalizing s l with
  | zero =>
    cases h
    simp only [manyR]
    cases rd t <;> rfl
  | succ k ih =>
    rw [manyR] at h
    obtain ⟨p, hp, h⟩ := Option.bind_eq_some_iff.1 h
    obtain ⟨q, hq, h⟩ := Option.map_eq_some_iff.1 h
    cases h
    rw [manyR, hp, Option.bind_some, ih hq]
    cases rd q.2 <;> rfl
theorem manyR_none {k : Nat} {s : Bs} (h : manyR rd k s = none) : ∀ m, manyR rd (k + m) s = none := by
  induction k generalizing s with
  | zero => cases h
  | succ k ih =>
    intro m
    rw [show k + 1 + m = k + m + 1 by omega]
    rw [manyR] at h ⊢
    cases hp : rd s with
    | none => rfl
    | some p =>
      rw [hp, Option.bind_some, Option.map_eq_none_iff] at h
      rw [Option.bind_some, ih h]
      rfl
theorem manyR_short (hrd : ∀ s x r, rd s = some (x, r) → r.length < s.length) {k : Nat} {s t : Bs} {l : List α} (h : manyR rd k s = some (l, t)) : k + t.length ≤ s.length ∧ l.length = k := by
  induction k generalizing s l with
  | zero => cases h; simp
  | succ k ih =>
    rw [manyR] at h
    obtain ⟨p, hp, h⟩ := Option.bind_eq_some_iff.1 h
    obtain ⟨q, hq, h⟩ := Option.map_eq_some_iff.1 h
    cases h
    have h1 := hrd _ _ _ hp
    have h2 := ih hq
    simp only [List.length_cons]
    omega
end
theorem textR_left {m : Int} {s r : Bs} {x : ByteArray} (h : textR m s = some (x, r)) : r.length < s.length := by
  rw [(textR_some h).1, List.length_append, textC_length]
  omega
section
variable {W w w1 w2 : World} {g B m : Nat} {e : TypeId} {v : Value} {xs : List Value} {rest : Bs} {bad : Bool} {row : Option Nat}
theorem turned_grown (h : Turned g w w1) (hg : w1.grownBy w2 row) (hr : ∀ b, row = some b → w.heap.size ≤ b) : Turned g w w2 :=
  ⟨hg.os.trans h.os, hg.tape.trans h.tape, hg.output.trans h.output, Nat.le_trans h.size hg.size, fun i hi hn => by
    rw [hg.block i (Nat.lt_of_lt_of_le hi h.size) (fun e => by have := hr i e.symm; omega)]
    exact h.block i hi hn⟩
theorem InAt.grown {sz : Nat} (h : InAt W w g rest bad) (hg : w.grownBy w2 v.ownBlock) (ho : w.ownsRow B e sz v m xs) (he : e ≠ 92 ∧ e ≠ 5) (hB : W.heap.size ≤ B) : InAt W w2 g rest bad := by
  refine h.keep ?_ fun b cs T fz hb hT => hg.block b (Array.getElem?_eq_some_iff.1 hb).1 fun e1 => ?_
  · refine Below.grown h.base hg h.base.le fun k hk => ?_
    rcases ho.2 with ⟨rfl, _⟩ | ⟨b, cap, cur, rfl, hbb, _⟩
    · cases hk
    · simp only [Value.ownBlock, Option.some.injEq] at hk
      omega
  · rcases ho.2 with ⟨rfl, _⟩ | ⟨b', cap, cur, rfl, _, hh, _⟩
    · cases e1
    · simp only [Value.ownBlock, Option.some.injEq] at e1
      subst e1
      rw [hb] at hh
      simp at hh
      rcases hT with rfl | rfl
      · exact he.1 hh.2.1.symm
      · exact he.2 hh.2.1.symm
theorem owns_low {B' sz : Nat} (h : w.ownsRow B e sz v m xs) (hB : B' ≤ B) : w.ownsRow B' e sz v m xs := by
  refine ⟨h.1, ?_⟩
  rcases h.2 with h | ⟨b, cap, cur, hv, hb, hr⟩
  · exact .inl h
  · exact .inr ⟨b, cap, cur, hv, Nat.le_trans hB hb, hr⟩
theorem owns_block {sz : Nat} (h : w.ownsRow B e sz v m xs) : ∀ b, v.ownBlock = some b → B ≤ b := by
  intro b hb
  rcases h.2 with ⟨rfl, _⟩ | ⟨b', cap, cur, rfl, hbb, _⟩
  · cases hb
  · simp only [Value.ownBlock, Option.some.injEq] at hb
    omega
end
def vT (B : Nat) (ss : List ByteArray) (w : World) (v : Value) : Prop := w.ownsRow B 9 1 v ss.length (ss.map Value.string)

end Go.Proofs.YtfcdhpkikhkmiaaGreatDoor
