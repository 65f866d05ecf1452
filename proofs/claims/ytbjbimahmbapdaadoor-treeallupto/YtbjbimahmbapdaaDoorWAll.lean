/-
  What the law TreeAll comes to, as a call.
-/
import Derived.Test.YtbjbimahmbapdaaDoorWBack
import Derived.Test.YtbjbimahmbapdaaDoorTrInj
import Derived.Test.YtbjbimahmbapdaaDoorRfText2
namespace Go.Proofs.YtbjbimahmbapdaaDoor
open Go.RowKit Go.Maps

theorem lines_take {t : Tr} {k : Nat} {f : ByteArray × List ByteArray} (h : t[k]? = some f) : linesT (t.take (k + 1)) = linesT (t.take k) + f.2.length := by
  obtain ⟨hk, rfl⟩ := List.getElem?_eq_some_iff.1 h
  unfold linesT
  rw [List.take_succ_eq_append_getElem hk, List.map_append, List.sum_append]
  simp
theorem lines_take_le (t : Tr) (k : Nat) : linesT (t.take k) ≤ linesT t := by
  have : linesT t = linesT (t.take k) + linesT (t.drop k) := by
    unfold linesT
    rw [← List.sum_append, ← List.map_append, List.take_append_drop]
  omega
theorem lines_fit {k : Nat} {t : Tr} (h : Fits k t) : linesT t ≤ k * 8000 := by
  have key : ∀ u : Tr, (∀ f ∈ u, f.2.length ≤ 8000) → linesT u ≤ u.length * 8000 := fun u => by
    induction u with
    | nil => intro _; simp [linesT]
    | cons f u ih =>
      intro hu
      have h1 := ih fun x hx => hu x (List.mem_cons_of_mem _ hx)
      have h2 := hu f List.mem_cons_self
      simp only [linesT, List.map_cons, List.sum_cons, List.length_cons] at h1 ⊢
      omega
  have h1 := key t fun f hf => by have := (h.each f hf).2.2; unfold heavy at this; omega
  exact Nat.le_trans h1 (Nat.mul_le_mul_right _ h.many)

set_option maxRecDepth 100000 in
set_option maxHeartbeats 2000000 in
theorem lawAll (A : Option Addr) (n c : Nat) (os : List OpC) (w : World) (hx : CameS w A n os) (htab : Tab w) :
    Calls Tryd.prog 3 #[.slice A n c] w (Says true w) := by
  have HF := Lib.hid (few_any A n c os w hx.script hx.many hx.weigh)
  have HX := Lib.hid hx.script; have HTB := Lib.hid htab
  have hbd : fewN n (weightL os) ≤ 4000000 := by have h1 := hx.many; have h2 := hx.weigh; unfold fewN; split <;> omega
  have hz := @few_zero n (weightL os)
  generalize fewN n (weightL os) = fw at HF hbd hz
  have HZ := Lib.hid hz
  clear hx htab hz
  by_cases h0 : fw = 0
  · obtain ⟨hn, hW⟩ := HZ.out.1 h0
    subst h0
    go_enter Tryd.func3, Tryd.ntmps3
    go_wp2_with fail
    refine HF.out.mono ?_
    rintro e w1 ⟨rfl, hl1⟩
    have HL1 := Lib.hid hl1; clear hl1
    go_wp2_with fail
    refine (new_any w1).mono ?_
    rintro e w2 ⟨p1, B1, rfl, ht1, hp1, hB1, hl2⟩
    have HT1 := Lib.hid ht1; have HL2 := Lib.hid (HL1.out.trans hl2)
    have hp1' : w.heap.size ≤ p1 := Nat.le_trans HL1.out.le hp1
    have hB1' : w.heap.size ≤ B1 := Nat.le_trans HL1.out.le hB1
    clear ht1 hl2 hp1 hB1
    go_wp2
    go_loopg [3, 4, 23] (n + 1) (fun g s3 s4 s23 wr => ∃ (k p B : Nat) (v : Value) (t : Tr), k ≤ n ∧ n - k ≤ g ∧ s23 = .int .i64 k ∧ s3 = .pointer (some ⟨p, 0, none⟩) ∧ s4 = v ∧ w.heap.size ≤ p ∧ w.heap.size ≤ B ∧ Hid (Fits k t) ∧ Hid (TreeAt wr p B t) ∧ Hid (RefAt wr v t) ∧ Hid (Later w wr))
    case atStart => exact ⟨0, p1, B1, _, [], Nat.zero_le _, by omega, rfl, rfl, rfl, hp1', hB1', Fits.nil, HT1.out, RefAt.nil _, HL2.out⟩
    case round =>
      obtain ⟨k, p, B, v, t, hk, hg, rfl, rfl, hv, hp, hB, hfit, htr, href, hwr⟩ := hrel
      obtain rfl := hv.symm
      clear hv
      by_cases hlt : k < n
      · obtain ⟨b, o, x, rfl, hz, g0, g1, g2, g3⟩ := (HX.out.later hwr.out).get hlt
        have hmem := List.mem_of_getElem? hz
        have hok := (HX.out.later hwr.out).op hW hmem
        have hwx := weight_mem hmem
        have hstep := hfit.out.step (o := x.v) (by omega)
        have HST := Lib.hid hstep
        have hsm := hfit.out.small (by omega)
        have HSM := Lib.hid hsm
        have hlb : Later wr (wr.alloc (.cells #[.int .i64 x.v.kind, .string x.v.name, .string x.v.to, .slice x.A x.n x.c] 31)) := (Later.refl wr).alloc _
        have HD := Lib.hid (refDo_any v t x.v x.A x.n x.c _ (href.out.later hlb) (hok.later hlb) (by have := hsm.many; omega) hsm.lines)
        have HE := Lib.hid (fun (w2 : World) (h2 : Later (wr.alloc (.cells #[.int .i64 x.v.kind, .string x.v.name, .string x.v.to, .slice x.A x.n x.c] 31)) w2) => does_any p B t x.v x.A x.n x.c w2 (htr.out.later (hlb.trans h2)) (hok.later (hlb.trans h2)) hsm)
        have HLB := Lib.hid hlb
        have HBC : Hid ((wr.alloc (.cells #[.int .i64 x.v.kind, .string x.v.name, .string x.v.to, .slice x.A x.n x.c] 31)).cell? ⟨wr.heap.size, 0, none⟩ = some (.int .i64 x.v.kind) ∧ (wr.alloc (.cells #[.int .i64 x.v.kind, .string x.v.name, .string x.v.to, .slice x.A x.n x.c] 31)).cell? ⟨wr.heap.size, 1, none⟩ = some (.string x.v.name) ∧ (wr.alloc (.cells #[.int .i64 x.v.kind, .string x.v.name, .string x.v.to, .slice x.A x.n x.c] 31)).cell? ⟨wr.heap.size, 2, none⟩ = some (.string x.v.to) ∧ (wr.alloc (.cells #[.int .i64 x.v.kind, .string x.v.name, .string x.v.to, .slice x.A x.n x.c] 31)).cell? ⟨wr.heap.size, 3, none⟩ = some (.slice x.A x.n x.c)) := ⟨by simp, by simp, by simp, by simp⟩
        unfold opVal at HD HE
        generalize hr : doT t x.v = r at HD HE HST
        obtain ⟨t2, en⟩ := r
        have hne : (en != en) = false := by simp
        clear hok hmem hwx hz hlb hr hsm hstep
        go_wp2_with fail
        refine HD.out.mono ?_
        rintro e w2 ⟨v2, rfl, hr2, hl2⟩
        have HR2 := Lib.hid hr2; have HL2 := Lib.hid hl2
        have c0 := hl2.cell HBC.out.1
        have c1 := hl2.cell HBC.out.2.1
        have c2 := hl2.cell HBC.out.2.2.1
        have c3 := hl2.cell HBC.out.2.2.2
        clear hr2 hl2
        go_wp2_with fail
        refine (HE.out w2 HL2.out).mono ?_
        rintro e w3 ⟨p3, B3, rfl, ht3, hg3, hpb⟩
        have HT3 := Lib.hid ht3; have HG3 := Lib.hid hg3
        have hle2 : w.heap.size ≤ w2.heap.size := (hwr.out.trans (HLB.out.trans HL2.out)).le
        have hp3 : w.heap.size ≤ p3 := by rcases hpb with ⟨rfl, rfl⟩ | ⟨h, _⟩ <;> omega
        have hB3 : w.heap.size ≤ B3 := by rcases hpb with ⟨rfl, rfl⟩ | ⟨_, h⟩ <;> omega
        clear ht3 hg3 hpb
        obtain ⟨es, mc, hmm⟩ := (htr.out.later (HLB.out.trans HL2.out)).files.map
        have HR3 := Lib.hid (HR2.out.turned HG3.out hmm)
        have HW3 := Lib.hid ((hwr.out.trans (HLB.out.trans HL2.out)).turn HG3.out hB)
        have HSM2 := Lib.hid (HST.out.small (by omega))
        have hmany2 := HSM2.out.many
        have htl2 := text_le HST.out
        have hln2 := lines_fit HST.out
        have htb2 : (textT t2).length ≤ 1000000 := by omega
        clear hmm c0 c1 c2 c3
        go_wp2_with fail
        refine (old_any p3 B3 t2 w3 HT3.out HSM2.out).mono ?_
        rintro e w5 ⟨v5, rfl, hr5, hl5⟩
        have HR5 := Lib.hid hr5; have HL5 := Lib.hid hl5
        clear hr5 hl5
        go_wp2_with fail
        refine (refSameAt_any v5 v2 t2 t2 w5 HR5.out (HR3.out.later HL5.out) (by omega) (by omega) HSM2.out.lines HSM2.out.lines).mono ?_
        rw [sameT_self]
        rintro e w6 ⟨rfl, hd6⟩
        have HL6 := Lib.hid (HL5.out.trans hd6.later); clear hd6
        go_wp2_with fail
        refine (treeText_any p3 B3 t2 w6 (HT3.out.later HL6.out) (HTB.out.later (HW3.out.trans HL6.out)) (by omega) htb2 (fun f hf => ⟨HSM2.out.names f hf, HSM2.out.lines f hf⟩)).mono ?_
        rintro e w7 ⟨rfl, hl7⟩
        have HL7 := Lib.hid (HL6.out.trans hl7); clear hl7
        go_wp2_with fail
        refine (refTreeTextAt_any v2 t2 w7 (HR3.out.later HL7.out) (by omega) htb2 HSM2.out.lines).mono ?_
        rintro e w8 ⟨rfl, hl8⟩
        have HL8 := Lib.hid (HL7.out.trans hl8); clear hl8
        generalize txt (textT t2) = tx
        go_wp2_with fail
        refine (many_any p3 B3 t2 w8 (HT3.out.later HL8.out) (by omega) (by omega)).mono ?_
        rintro e w9 ⟨rfl, hl9⟩
        have HL9 := Lib.hid (HL8.out.trans hl9); clear hl9
        have HR9 := Lib.hid (HR3.out.later HL9.out)
        have HW9 := Lib.hid (HW3.out.trans HL9.out)
        have HT9 := Lib.hid (HT3.out.later HL9.out)
        obtain ⟨A9, n9, c9, z9, hv9, hc9, hr9, hz9⟩ := HR9.out
        subst hv9
        have hlen9 : t2.length = n9 := by rw [← hz9, mapT_length, hr9.len]
        have HR9b := Lib.hid hr9; have HZ9 := Lib.hid hz9
        have hnl9 : n9 ≤ 1000 := by omega
        rw [hlen9]
        clear hr9 hz9 hlen9
        go_wp2
        go_loopg [13, 71] (n9 + 1) (fun g s13 s71 wx => ∃ j : Nat, j ≤ n9 ∧ n9 - j ≤ g ∧ s71 = .int .i64 j ∧ s13 = .int .i64 (linesT (t2.take j) : Nat) ∧ Later w9 wx)
        case atStart => exact ⟨0, Nat.zero_le _, by omega, rfl, rfl, Later.refl w9⟩
        case round =>
          obtain ⟨j, hj, hgj, rfl, rfl, hwx⟩ := hrel
          have HWX := Lib.hid hwx
          by_cases hjl : j < n9
          · obtain ⟨bx, ox, fx, rfl, hzx, gx1, gx2⟩ := (HR9b.out.later hwx).get hjl
            obtain ⟨Ax, nx, cx, hvx, _, hrx⟩ := HR9b.out.reads fx (List.mem_of_getElem? hzx)
            rw [hvx] at gx2
            have htx : t2[j]? = some (fx.1, fx.2.2) := by rw [← HZ9.out]; simp [mapT, hzx]
            have hst := lines_take htx
            simp only at hst
            rw [hrx.len] at hst
            have hle := lines_take_le t2 (j + 1)
            rw [hst] at hle
            have HSTX := Lib.hid hst
            generalize fx.1 = fxn at gx1
            generalize linesT (t2.take j) = LJ at *
            clear hwx hzx hvx hrx htx hst
            go_wp2
            go_roundg (n9 - (j + 1))
            case measure => omega
            case rel => exact ⟨j + 1, by omega, Nat.le_refl _, by go_num, by rw [HSTX.out]; go_num, HWX.out.alloc _⟩
          · have e : t2.take j = t2 := List.take_of_length_le (by rw [← HZ9.out, mapT_length, HR9b.out.len]; omega)
            rw [e]
            clear e hwx
            have hb1 : ((n9 : Int) != (n9 : Int)) = false := by simp
            have hb2 : ((linesT t2 : Int) != (linesT t2 : Int)) = false := by simp
            go_wp2
            go_roundg (n - (k + 1))
            case measure => omega
            case rel => exact ⟨k + 1, p3, B3, _, t2, by omega, Nat.le_refl _, by go_num, rfl, rfl, hp3, hB3, HST.out, HT9.out.later HWX.out, HR9.out.later HWX.out, HW9.out.trans HWX.out⟩
      · go_wp2_with fail
        refine (alive_any wr (HTB.out.later hwr.out)).mono ?_
        rintro e w20 ⟨rfl, hl20⟩
        have HL20 := Lib.hid (hwr.out.trans hl20); clear hl20
        go_wp2
        go_ret
        exact ⟨rfl, HL20.out⟩
  · have hd : decide (0 < fw) = true := by simp; omega
    go_enter Tryd.func3, Tryd.ntmps3
    go_wp2_with fail
    refine HF.out.mono ?_
    rintro e w1 ⟨rfl, hl1⟩
    have HL1 := Lib.hid hl1; clear hl1
    go_wp2_with fail
    refine (alive_any w1 (HTB.out.later HL1.out)).mono ?_
    rintro e w2 ⟨rfl, hl2⟩
    have HL2 := Lib.hid (HL1.out.trans hl2); clear hl2
    go_wp2
    go_ret
    exact ⟨rfl, HL2.out⟩

end Go.Proofs.YtbjbimahmbapdaaDoor
