/-
  What the document's Text comes to, as a call.
-/
import Derived.Test.YtbjbimahmbapdaaDoorRfText
import Derived.Deep.RegionHeld
import Derived.Deep.RegionHeld3
namespace Go.Proofs.YtbjbimahmbapdaaDoor
open Go.RowKit Go.Maps

/-- What is held may be more. -/
theorem held_mono {P : Program} {md : Region.Mode} {ops : Array Oper} {Q : Exit → Act → World → Prop} {S S' : World → Prop} (hS : ∀ w, S' w → S w) :
    ∀ (fuel : Nat) (listed : Array Bool) (a : Act) (w : World), wpAnyH P md ops Q S' fuel listed a w → wpAnyH P md ops Q S fuel listed a w
  | 0, _, _, _, h => h
  | fuel + 1, _, _, _, h => ⟨h.1, fun i hi => wpOp_mono (fun _ _ h' => ⟨hS _ h'.1, held_mono hS fuel _ _ _ h'.2⟩) (h.2 i hi)⟩

theorem conv_ten_at (W : World) (b : Nat) (h : W.cell? ⟨b, 0, none⟩ = some (.int .u8 10)) : Sem.run Tryd.prog (convert 69 9 (.slice (some ⟨b, 0, none⟩) 1 1)) W = .ok (.string ⟨#[10]⟩) W := conv_at W b 10 h

theorem text_line (a : List UInt8) (fn dd : ByteArray) (l : List UInt8) : txt a ++ fn ++ (⟨#[32]⟩ : ByteArray) ++ dd ++ (⟨#[10]⟩ : ByteArray) ++ txt l = txt (a ++ (bytes fn ++ [32] ++ bytes dd ++ [10]) ++ l) := by
  apply bytes_inj
  rw [bytes_txt]
  simp [bytes, txt, ByteArray.data_append, List.append_assoc]

theorem held_take {P : Program} {md : Region.Mode} {l : List Oper} {Q : Exit → Act → World → Prop} {S : World → Prop} {i : Nat} {oi : Oper} {v : Value} {fuel : Nat} {listed : Array Bool} {a : Act} {w : World} (hi : l[i]? = some oi)
    (hs : Region.noSelect l.toArray = true) (hf : Region.free md l.toArray listed i = true) (hr : (Region.ready md l.toArray listed).contains i = true)
    (hQ : ∀ c a w, Q (.panic c) (a.put oi.dst v) w → Q (.panic c) a w) (hw : Region.wanted oi (yielded l.toArray a.tmps) = true) (hS : S w) (hy : ∀ w, S w → (execOp a.eval oi).run P w = .ok (.value v) w)
    (h : wpAnyH P md l.toArray Q S fuel (listed.setIfInBounds i true) (a.put oi.dst v) w) : wpAnyH P md l.toArray Q S (fuel + 1) listed a w :=
  wpAnyH_take (by simpa using hi) hs hf hr hQ (Or.inl ⟨hw, hy⟩) hS h

set_option maxRecDepth 100000 in
set_option maxHeartbeats 2000000 in
theorem refTreeText_any (A : Option Addr) (n c : Nat) (z : Fl Held) (w : World) (hx : RefRow w A n z) (hn : n ≤ 65536) (hb : (textT (mapT (·.2) z)).length ≤ 1000000) (hl : ∀ f ∈ z, f.2.2.length ≤ 65536) :
    Calls Tryd.prog 17 #[.slice A n c] w fun e w' => e = .returned (.string (txt (textT (mapT (·.2) z)))) ∧ Later w w' := by
  have HX := Lib.hid hx; have HLL := Lib.hid hl; clear hx hl
  go_enter Tryd.func17, Tryd.ntmps17
  go_wp2
  go_loopg [3, 4] (n + 1) (fun g s3 s4 wr => ∃ (k : Nat) (tx : ByteArray), k ≤ n ∧ n - k ≤ g ∧ s4 = .int .i64 k ∧ s3 = .string tx ∧ tx.size ≤ 1000000 ∧ Later w wr ∧ Hid (tx = txt (textT ((mapT (·.2) z).take k))))
  case atStart => exact ⟨0, _, Nat.zero_le _, by omega, rfl, rfl, Nat.zero_le _, Later.refl w, rfl⟩
  case round =>
    obtain ⟨k, tx, hk, hg, rfl, rfl, htx, hwr, hte⟩ := hrel
    have HW := Lib.hid hwr; clear hwr
    by_cases hlt : k < n
    · obtain ⟨b, o, f, rfl, hz, g1, g2⟩ := (HX.out.later HW.out).get hlt
      have hfz : (mapT (·.2) z)[k]? = some (f.1, f.2.2) := by simp [mapT, hz]
      obtain ⟨A2, n2, c2, hv2, hnc2, hr2⟩ := HX.out.reads f (List.mem_of_getElem? hz)
      rw [hv2] at g2
      have hn2 : n2 ≤ 65536 := by rw [← hr2.len]; exact HLL.out f (List.mem_of_getElem? hz)
      have hnext := textT_next hfz
      have hroom := textT_take (t := mapT (·.2) z) (k + 1)
      rw [hnext] at hroom
      simp only [headL] at hroom hnext
      rw [hr2.len] at hnext hroom
      have hdl := digits_length n2 hn2
      have hts : tx.size = (textT ((mapT (·.2) z).take k)).length := by rw [hte.out, txt_size]
      simp only [List.length_append, List.length_singleton, bytes_length] at hroom
      have hsum : tx.size + f.1.size + 1 + (Lib.decDigits n2).length + 1 + (textL f.2.2).length ≤ 1000000 := by omega
      have HNX := Lib.hid hnext; have HR2 := Lib.hid hr2
      clear hnext hroom hts hfz hz hv2 hr2
      generalize f.1 = fn at g1 HNX hsum
      generalize f.2.2 = fl at HNX hsum HR2
      have hblt : b < wr.heap.size := lt_of_cell g1
      have hq1 : ¬ 9223372036854775807 < tx.size + fn.size := by omega
      have hq2 : ¬ 9223372036854775807 < tx.size + fn.size + 1 := by omega
      go_wp2_with fail
      refine wp_region_held_drew (S := fun w' => w'.cell? ⟨b, o + k * 2, none⟩ = some (.string fn) ∧ w'.cell? ⟨b, o + k * 2 + 1, none⟩ = some (.slice A2 n2 c2)) (by kernel_rfl) ⟨g1, g2⟩ (fun hHeld => ?_)
      refine held_take (i := 0) (v := ?_) rfl (by kernel_rfl) (by kernel_rfl) (by kernel_rfl) (fun _ _ _ h => h) (by rfl) hHeld ?_ ?_
      rotate_left
      · intro w hSw; (try dsimp only at hSw); go_simp; (try with_reducible rfl)
      simp only [Act.put, List.setIfInBounds_toArray, List.set_cons_zero, List.set_cons_succ]
      refine held_take (i := 1) (v := ?_) rfl (by kernel_rfl) (by kernel_rfl) (by kernel_rfl) (fun _ _ _ h => h) (by rfl) hHeld ?_ ?_
      rotate_left
      · intro w hSw; (try dsimp only at hSw); go_simp; (try with_reducible rfl)
      simp only [Act.put, List.setIfInBounds_toArray, List.set_cons_zero, List.set_cons_succ]
      refine held_take (i := 2) (v := ?_) rfl (by kernel_rfl) (by kernel_rfl) (by kernel_rfl) (fun _ _ _ h => h) (by rfl) hHeld ?_ ?_
      rotate_left
      · intro w hSw; (try dsimp only at hSw); go_simp; (try with_reducible rfl)
      simp only [Act.put, List.setIfInBounds_toArray, List.set_cons_zero, List.set_cons_succ]
      refine held_take (i := 3) (v := ?_) rfl (by kernel_rfl) (by kernel_rfl) (by kernel_rfl) (fun _ _ _ h => h) (by rfl) hHeld ?_ ?_
      rotate_left
      · intro w hSw; (try dsimp only at hSw); go_simp; (try with_reducible rfl)
      simp only [Act.put, List.setIfInBounds_toArray, List.set_cons_zero, List.set_cons_succ]
      refine held_take (i := 4) (v := ?_) rfl (by kernel_rfl) (by kernel_rfl) (by kernel_rfl) (fun _ _ _ h => h) (by rfl) hHeld ?_ ?_
      rotate_left
      · intro w hSw; (try dsimp only at hSw); go_simp; (try with_reducible rfl)
      simp only [Act.put, List.setIfInBounds_toArray, List.set_cons_zero, List.set_cons_succ]
      refine held_take (i := 5) (v := ?_) rfl (by kernel_rfl) (by kernel_rfl) (by kernel_rfl) (fun _ _ _ h => h) (by rfl) hHeld ?_ ?_
      rotate_left
      · intro w hSw; (try dsimp only at hSw); go_simp; (try with_reducible rfl)
      simp only [Act.put, List.setIfInBounds_toArray, List.set_cons_zero, List.set_cons_succ]
      refine held_take (i := 6) (v := ?_) rfl (by kernel_rfl) (by kernel_rfl) (by kernel_rfl) (fun _ _ _ h => h) (by rfl) hHeld ?_ ?_
      rotate_left
      · intro w hSw; (try dsimp only at hSw); go_simp; (try with_reducible rfl)
      simp only [Act.put, List.setIfInBounds_toArray, List.set_cons_zero, List.set_cons_succ]
      refine held_take (i := 7) (v := ?_) rfl (by kernel_rfl) (by kernel_rfl) (by kernel_rfl) (fun _ _ _ h => h) (by rfl) hHeld ?_ ?_
      rotate_left
      · intro w hSw; (try dsimp only at hSw); go_simp; (try with_reducible rfl)
      simp only [Act.put, List.setIfInBounds_toArray, List.set_cons_zero, List.set_cons_succ]
      refine held_take (i := 8) (v := ?_) rfl (by kernel_rfl) (by kernel_rfl) (by kernel_rfl) (fun _ _ _ h => h) (by rfl) hHeld ?_ ?_
      rotate_left
      · intro w hSw; (try dsimp only at hSw); go_simp; (try with_reducible rfl)
      simp only [Act.put, List.setIfInBounds_toArray, List.set_cons_zero, List.set_cons_succ]
      refine held_take (i := 9) (v := ?_) rfl (by kernel_rfl) (by kernel_rfl) (by kernel_rfl) (fun _ _ _ h => h) (by rfl) hHeld ?_ ?_
      rotate_left
      · intro w hSw; (try dsimp only at hSw); go_simp; (try with_reducible rfl)
      simp only [Act.put, List.setIfInBounds_toArray, List.set_cons_zero, List.set_cons_succ]
      refine held_take (i := 10) (v := ?_) rfl (by kernel_rfl) (by kernel_rfl) (by kernel_rfl) (fun _ _ _ h => h) (by rfl) hHeld ?_ ?_
      rotate_left
      · intro w hSw; (try dsimp only at hSw); go_simp; (try with_reducible rfl)
      simp only [Act.put, List.setIfInBounds_toArray, List.set_cons_zero, List.set_cons_succ]
      refine held_take (i := 11) (v := ?_) rfl (by kernel_rfl) (by kernel_rfl) (by kernel_rfl) (fun _ _ _ h => h) (by rfl) hHeld ?_ ?_
      rotate_left
      · intro w hSw; (try dsimp only at hSw); go_simp; (try with_reducible rfl)
      simp only [Act.put, List.setIfInBounds_toArray, List.set_cons_zero, List.set_cons_succ]
      refine held_take (i := 12) (v := ?_) rfl (by kernel_rfl) (by kernel_rfl) (by kernel_rfl) (fun _ _ _ h => h) (by rfl) hHeld ?_ ?_
      rotate_left
      · intro w hSw; (try dsimp only at hSw); go_simp; (try with_reducible rfl)
      simp only [Act.put, List.setIfInBounds_toArray, List.set_cons_zero, List.set_cons_succ]
      refine held_take (i := 13) (v := ?_) rfl (by kernel_rfl) (by kernel_rfl) (by kernel_rfl) (fun _ _ _ h => h) (by rfl) hHeld ?_ ?_
      rotate_left
      · intro w hSw; (try dsimp only at hSw); go_simp; (try with_reducible rfl)
      simp only [Act.put, List.setIfInBounds_toArray, List.set_cons_zero, List.set_cons_succ]
      refine held_take (i := 19) (v := ?_) rfl (by kernel_rfl) (by kernel_rfl) (by kernel_rfl) (fun _ _ _ h => h) (by rfl) hHeld ?_ ?_
      rotate_left
      · intro w hSw; (try dsimp only at hSw); go_simp; (try with_reducible rfl)
      simp only [Act.put, List.setIfInBounds_toArray, List.set_cons_zero, List.set_cons_succ]
      refine held_take (i := 20) (v := ?_) rfl (by kernel_rfl) (by kernel_rfl) (by kernel_rfl) (fun _ _ _ h => h) (by rfl) hHeld ?_ ?_
      rotate_left
      · intro w hSw; (try dsimp only at hSw); go_simp; (try with_reducible rfl)
      simp only [Act.put, List.setIfInBounds_toArray, List.set_cons_zero, List.set_cons_succ]
      refine held_take (i := 21) (v := ?_) rfl (by kernel_rfl) (by kernel_rfl) (by kernel_rfl) (fun _ _ _ h => h) (by rfl) hHeld ?_ ?_
      rotate_left
      · intro w hSw; (try dsimp only at hSw); go_simp; (try with_reducible rfl)
      simp only [Act.put, List.setIfInBounds_toArray, List.set_cons_zero, List.set_cons_succ]
      refine held_take (i := 22) (v := ?_) rfl (by kernel_rfl) (by kernel_rfl) (by kernel_rfl) (fun _ _ _ h => h) (by rfl) hHeld ?_ ?_
      rotate_left
      · intro w hSw; (try dsimp only at hSw); go_simp; (try with_reducible rfl)
      simp only [Act.put, List.setIfInBounds_toArray, List.set_cons_zero, List.set_cons_succ]
      refine held_take (i := 23) (v := ?_) rfl (by kernel_rfl) (by kernel_rfl) (by kernel_rfl) (fun _ _ _ h => h) (by rfl) hHeld ?_ ?_
      rotate_left
      · intro w hSw; (try dsimp only at hSw); go_simp; (try with_reducible rfl)
      simp only [Act.put, List.setIfInBounds_toArray, List.set_cons_zero, List.set_cons_succ]
      have G1 := Lib.hid g1; have G2 := Lib.hid g2
      refine wpAnyH_ready (rs := [14, 16]) (by kernel_rfl) (by simp) ?_
      refine AllReadyH.cons (o := _) rfl (fun K hK => ?_) ?_
      · go_simp
        refine (refDigits_any n2 wr.drew hn2).mono ?_
        rintro e w2 ⟨rfl, hl2⟩
        dsimp only
        have HL2 : Hid (Later wr w2) := Later.trans ((Later.refl wr).drew) hl2
        refine hK.out _ _ ⟨hl2.cell G1.out, hl2.cell G2.out⟩ (fun hHeld => ?_)
        clear hK K
        generalize hdd : txt (Lib.decDigits n2) = dd
        have HDD := Lib.hid hdd
        have hds : dd.size = (Lib.decDigits n2).length := by rw [← hdd, txt_size]
        have hq3 : ¬ 9223372036854775807 < tx.size + fn.size + 1 + dd.size := by omega
        have hq4 : ¬ 9223372036854775807 < tx.size + fn.size + 1 + dd.size + 1 := by omega
        have hds2 : dd.size ≤ (Lib.decDigits n2).length := Nat.le_of_eq hds
        have hds3 : (Lib.decDigits n2).length ≤ dd.size := Nat.le_of_eq hds.symm
        clear hl2 hdd hds
        refine held_take (i := 15) (v := ?_) rfl (by kernel_rfl) (by kernel_rfl) (by kernel_rfl) (fun _ _ _ h => h) (by rfl) hHeld ?_ ?_
        rotate_left
        · intro w hSw; (try dsimp only at hSw); go_simp; (try with_reducible rfl)
        simp only [Act.put, List.setIfInBounds_toArray, List.set_cons_zero, List.set_cons_succ]
        refine wpAnyH_ready (rs := [16, 24]) (by kernel_rfl) (by simp) ?_
        refine AllReadyH.cons (o := _) rfl (fun K hK => ?_) ?_
        · go_simp
          refine hK.out _ _ ⟨(HL2.out.alloc _).cell G1.out, (HL2.out.alloc _).cell G2.out⟩ (fun hHeld => ?_)
          clear hK K
          refine held_mono (S' := fun w' => (w'.cell? ⟨b, o + k * 2, none⟩ = some (.string fn) ∧ w'.cell? ⟨b, o + k * 2 + 1, none⟩ = some (.slice A2 n2 c2)) ∧ w'.cell? ⟨w2.heap.size, 0, none⟩ = some (.int .u8 10)) (fun _ h => h.1) _ _ _ _ ?_
          have hHeld2 : ((w2.alloc (.cells #[.int .u8 10] 5)).cell? ⟨b, o + k * 2, none⟩ = some (.string fn) ∧ (w2.alloc (.cells #[.int .u8 10] 5)).cell? ⟨b, o + k * 2 + 1, none⟩ = some (.slice A2 n2 c2)) ∧ (w2.alloc (.cells #[.int .u8 10] 5)).cell? ⟨w2.heap.size, 0, none⟩ = some (.int .u8 10) := ⟨hHeld, by simp⟩
          refine held_take (i := 17) (v := ?_) rfl (by kernel_rfl) (by kernel_rfl) (by kernel_rfl) (fun _ _ _ h => h) (by rfl) hHeld2 ?_ ?_
          rotate_left
          · intro w hSw; (try dsimp only at hSw); have hcv := conv_ten_at w _ hSw.2; go_simp; (try with_reducible rfl)
          simp only [Act.put, List.setIfInBounds_toArray, List.set_cons_zero, List.set_cons_succ]
          refine held_take (i := 18) (v := ?_) rfl (by kernel_rfl) (by kernel_rfl) (by kernel_rfl) (fun _ _ _ h => h) (by rfl) hHeld2 ?_ ?_
          rotate_left
          · intro w hSw; (try dsimp only at hSw); go_simp; (try with_reducible rfl)
          simp only [Act.put, List.setIfInBounds_toArray, List.set_cons_zero, List.set_cons_succ]
          have HTEN := Lib.hid hHeld2.2
          clear hHeld hHeld2
          refine wpAnyH_ready (rs := [24]) (by kernel_rfl) (by simp) ?_
          refine AllReadyH.cons (o := _) rfl (fun K hK => ?_) ?_
          · go_simp
            refine (refText_any A2 n2 c2 fl (w2.alloc (.cells #[.int .u8 10] 5)) (HR2.out.later (HW.out.trans (HL2.out.alloc _))) hn2 (by omega)).mono ?_
            rintro e w3 ⟨rfl, hl3⟩
            dsimp only
            have HL3 : Hid (Later wr w3) := Later.trans (HL2.out.alloc _) hl3
            refine hK.out _ _ ⟨⟨hl3.cell ((HL2.out.alloc _).cell G1.out), hl3.cell ((HL2.out.alloc _).cell G2.out)⟩, hl3.cell HTEN.out⟩ (fun hHeld => ?_)
            clear hK K
            have hts3 : (txt (textL fl)).size = (textL fl).length := txt_size _
            have hq5 : ¬ 9223372036854775807 < tx.size + fn.size + 1 + dd.size + 1 + (txt (textL fl)).size := by omega
            have HTS := Lib.hid hts3
            clear hl3 hts3
            refine held_take (i := 25) (v := ?_) rfl (by kernel_rfl) (by kernel_rfl) (by kernel_rfl) (fun _ _ _ h => h) (by rfl) hHeld ?_ ?_
            rotate_left
            · intro w hSw; (try dsimp only at hSw); go_simp; (try with_reducible rfl)
            simp only [Act.put, List.setIfInBounds_toArray, List.set_cons_zero, List.set_cons_succ]
            refine held_take (i := 26) (v := ?_) rfl (by kernel_rfl) (by kernel_rfl) (by kernel_rfl) (fun _ _ _ h => h) (by rfl) hHeld ?_ ?_
            rotate_left
            · intro w hSw; (try dsimp only at hSw); go_simp; (try with_reducible rfl)
            simp only [Act.put, List.setIfInBounds_toArray, List.set_cons_zero, List.set_cons_succ]
            refine wpAnyH_done (by kernel_rfl) ?_ _
            clear hHeld
            go_wp2
            go_roundg (n - (k + 1))
            case measure => omega
            case rel =>
              refine ⟨k + 1, _, by omega, Nat.le_refl _, by go_num, rfl, ?_, HW.out.trans HL3.out, ?_⟩
              · rw [ByteArray.size_append, ByteArray.size_append, ByteArray.size_append, ByteArray.size_append, ByteArray.size_append]
                have e1 : (⟨#[32]⟩ : ByteArray).size = 1 := rfl
                have e2 : (⟨#[10]⟩ : ByteArray).size = 1 := rfl
                have e3 : (txt (textL fl)).size = (textL fl).length := txt_size _
                omega
              · show _ = _
                rw [HNX.out, hte.out, show Lib.decDigits n2 = bytes dd from by rw [← HDD.out, bytes_txt]]
                exact text_line _ _ _ _
          · exact AllReadyH.nil
        refine AllReadyH.cons (o := _) rfl (fun K hK => ?_) ?_
        · go_simp
          refine (refText_any A2 n2 c2 fl w2 (HR2.out.later (HW.out.trans (HL2.out))) hn2 (by omega)).mono ?_
          rintro e w3 ⟨rfl, hl3⟩
          dsimp only
          have HL3 : Hid (Later wr w3) := Later.trans (HL2.out) hl3
          refine hK.out _ _ ⟨hl3.cell (HL2.out.cell G1.out), hl3.cell (HL2.out.cell G2.out)⟩ (fun hHeld => ?_)
          clear hK K
          have hts3 : (txt (textL fl)).size = (textL fl).length := txt_size _
          have hq5 : ¬ 9223372036854775807 < tx.size + fn.size + 1 + dd.size + 1 + (txt (textL fl)).size := by omega
          have HTS := Lib.hid hts3
          clear hl3 hts3
          refine wpAnyH_ready (rs := [16]) (by kernel_rfl) (by simp) ?_
          refine AllReadyH.cons (o := _) rfl (fun K hK => ?_) ?_
          · go_simp
            refine hK.out _ _ ⟨(HL3.out.alloc _).cell G1.out, (HL3.out.alloc _).cell G2.out⟩ (fun hHeld => ?_)
            clear hK K
            refine held_mono (S' := fun w' => (w'.cell? ⟨b, o + k * 2, none⟩ = some (.string fn) ∧ w'.cell? ⟨b, o + k * 2 + 1, none⟩ = some (.slice A2 n2 c2)) ∧ w'.cell? ⟨w3.heap.size, 0, none⟩ = some (.int .u8 10)) (fun _ h => h.1) _ _ _ _ ?_
            have hHeld2 : ((w3.alloc (.cells #[.int .u8 10] 5)).cell? ⟨b, o + k * 2, none⟩ = some (.string fn) ∧ (w3.alloc (.cells #[.int .u8 10] 5)).cell? ⟨b, o + k * 2 + 1, none⟩ = some (.slice A2 n2 c2)) ∧ (w3.alloc (.cells #[.int .u8 10] 5)).cell? ⟨w3.heap.size, 0, none⟩ = some (.int .u8 10) := ⟨hHeld, by simp⟩
            refine held_take (i := 17) (v := ?_) rfl (by kernel_rfl) (by kernel_rfl) (by kernel_rfl) (fun _ _ _ h => h) (by rfl) hHeld2 ?_ ?_
            rotate_left
            · intro w hSw; (try dsimp only at hSw); have hcv := conv_ten_at w _ hSw.2; go_simp; (try with_reducible rfl)
            simp only [Act.put, List.setIfInBounds_toArray, List.set_cons_zero, List.set_cons_succ]
            refine held_take (i := 18) (v := ?_) rfl (by kernel_rfl) (by kernel_rfl) (by kernel_rfl) (fun _ _ _ h => h) (by rfl) hHeld2 ?_ ?_
            rotate_left
            · intro w hSw; (try dsimp only at hSw); go_simp; (try with_reducible rfl)
            simp only [Act.put, List.setIfInBounds_toArray, List.set_cons_zero, List.set_cons_succ]
            refine held_take (i := 25) (v := ?_) rfl (by kernel_rfl) (by kernel_rfl) (by kernel_rfl) (fun _ _ _ h => h) (by rfl) hHeld2 ?_ ?_
            rotate_left
            · intro w hSw; (try dsimp only at hSw); go_simp; (try with_reducible rfl)
            simp only [Act.put, List.setIfInBounds_toArray, List.set_cons_zero, List.set_cons_succ]
            refine held_take (i := 26) (v := ?_) rfl (by kernel_rfl) (by kernel_rfl) (by kernel_rfl) (fun _ _ _ h => h) (by rfl) hHeld2 ?_ ?_
            rotate_left
            · intro w hSw; (try dsimp only at hSw); go_simp; (try with_reducible rfl)
            simp only [Act.put, List.setIfInBounds_toArray, List.set_cons_zero, List.set_cons_succ]
            refine wpAnyH_done (by kernel_rfl) ?_ _
            clear hHeld hHeld2
            go_wp2
            go_roundg (n - (k + 1))
            case measure => omega
            case rel =>
              refine ⟨k + 1, _, by omega, Nat.le_refl _, by go_num, rfl, ?_, (HW.out.trans HL3.out).alloc _, ?_⟩
              · rw [ByteArray.size_append, ByteArray.size_append, ByteArray.size_append, ByteArray.size_append, ByteArray.size_append]
                have e1 : (⟨#[32]⟩ : ByteArray).size = 1 := rfl
                have e2 : (⟨#[10]⟩ : ByteArray).size = 1 := rfl
                have e3 : (txt (textL fl)).size = (textL fl).length := txt_size _
                omega
              · show _ = _
                rw [HNX.out, hte.out, show Lib.decDigits n2 = bytes dd from by rw [← HDD.out, bytes_txt]]
                exact text_line _ _ _ _
          · exact AllReadyH.nil
        · exact AllReadyH.nil
      refine AllReadyH.cons (o := _) rfl (fun K hK => ?_) ?_
      · go_simp
        have hla : Later wr (wr.alloc (.cells #[.int .u8 10] 5)).drew := ((Later.refl wr).alloc _).drew
        have HLA := Lib.hid hla; clear hla
        refine hK.out _ _ ⟨HLA.out.cell G1.out, HLA.out.cell G2.out⟩ (fun hHeld => ?_)
        clear hK K
        refine held_mono (S' := fun w' => (w'.cell? ⟨b, o + k * 2, none⟩ = some (.string fn) ∧ w'.cell? ⟨b, o + k * 2 + 1, none⟩ = some (.slice A2 n2 c2)) ∧ w'.cell? ⟨wr.heap.size, 0, none⟩ = some (.int .u8 10)) (fun _ h => h.1) _ _ _ _ ?_
        have hHeld2 : ((wr.alloc (.cells #[.int .u8 10] 5)).drew.cell? ⟨b, o + k * 2, none⟩ = some (.string fn) ∧ (wr.alloc (.cells #[.int .u8 10] 5)).drew.cell? ⟨b, o + k * 2 + 1, none⟩ = some (.slice A2 n2 c2)) ∧ (wr.alloc (.cells #[.int .u8 10] 5)).drew.cell? ⟨wr.heap.size, 0, none⟩ = some (.int .u8 10) := ⟨hHeld, by simp⟩
        refine held_take (i := 17) (v := ?_) rfl (by kernel_rfl) (by kernel_rfl) (by kernel_rfl) (fun _ _ _ h => h) (by rfl) hHeld2 ?_ ?_
        rotate_left
        · intro w hSw; (try dsimp only at hSw); have hcv := conv_ten_at w _ hSw.2; go_simp; (try with_reducible rfl)
        simp only [Act.put, List.setIfInBounds_toArray, List.set_cons_zero, List.set_cons_succ]
        have HTEN := Lib.hid hHeld2.2
        clear hHeld hHeld2
        refine wpAnyH_ready (rs := [14]) (by kernel_rfl) (by simp) ?_
        refine AllReadyH.cons (o := _) rfl (fun K hK => ?_) ?_
        · go_simp
          refine (refDigits_any n2 (wr.alloc (.cells #[.int .u8 10] 5)).drew hn2).mono ?_
          rintro e w2 ⟨rfl, hl2⟩
          dsimp only
          have HL2 : Hid (Later wr w2) := Later.trans (HLA.out) hl2
          refine hK.out _ _ ⟨⟨hl2.cell (HLA.out.cell G1.out), hl2.cell (HLA.out.cell G2.out)⟩, hl2.cell HTEN.out⟩ (fun hHeld => ?_)
          clear hK K
          generalize hdd : txt (Lib.decDigits n2) = dd
          have HDD := Lib.hid hdd
          have hds : dd.size = (Lib.decDigits n2).length := by rw [← hdd, txt_size]
          have hq3 : ¬ 9223372036854775807 < tx.size + fn.size + 1 + dd.size := by omega
          have hq4 : ¬ 9223372036854775807 < tx.size + fn.size + 1 + dd.size + 1 := by omega
          have hds2 : dd.size ≤ (Lib.decDigits n2).length := Nat.le_of_eq hds
          have hds3 : (Lib.decDigits n2).length ≤ dd.size := Nat.le_of_eq hds.symm
          clear hl2 hdd hds
          refine held_take (i := 15) (v := ?_) rfl (by kernel_rfl) (by kernel_rfl) (by kernel_rfl) (fun _ _ _ h => h) (by rfl) hHeld ?_ ?_
          rotate_left
          · intro w hSw; (try dsimp only at hSw); go_simp; (try with_reducible rfl)
          simp only [Act.put, List.setIfInBounds_toArray, List.set_cons_zero, List.set_cons_succ]
          refine held_take (i := 18) (v := ?_) rfl (by kernel_rfl) (by kernel_rfl) (by kernel_rfl) (fun _ _ _ h => h) (by rfl) hHeld ?_ ?_
          rotate_left
          · intro w hSw; (try dsimp only at hSw); go_simp; (try with_reducible rfl)
          simp only [Act.put, List.setIfInBounds_toArray, List.set_cons_zero, List.set_cons_succ]
          have HTEN2 := Lib.hid hHeld.2
          refine wpAnyH_ready (rs := [24]) (by kernel_rfl) (by simp) ?_
          refine AllReadyH.cons (o := _) rfl (fun K hK => ?_) ?_
          · go_simp
            refine (refText_any A2 n2 c2 fl w2 (HR2.out.later (HW.out.trans (HL2.out))) hn2 (by omega)).mono ?_
            rintro e w3 ⟨rfl, hl3⟩
            dsimp only
            have HL3 : Hid (Later wr w3) := Later.trans (HL2.out) hl3
            refine hK.out _ _ ⟨⟨hl3.cell (HL2.out.cell G1.out), hl3.cell (HL2.out.cell G2.out)⟩, hl3.cell HTEN2.out⟩ (fun hHeld => ?_)
            clear hK K
            have hts3 : (txt (textL fl)).size = (textL fl).length := txt_size _
            have hq5 : ¬ 9223372036854775807 < tx.size + fn.size + 1 + dd.size + 1 + (txt (textL fl)).size := by omega
            have HTS := Lib.hid hts3
            clear hl3 hts3
            refine held_take (i := 25) (v := ?_) rfl (by kernel_rfl) (by kernel_rfl) (by kernel_rfl) (fun _ _ _ h => h) (by rfl) hHeld ?_ ?_
            rotate_left
            · intro w hSw; (try dsimp only at hSw); go_simp; (try with_reducible rfl)
            simp only [Act.put, List.setIfInBounds_toArray, List.set_cons_zero, List.set_cons_succ]
            refine held_take (i := 26) (v := ?_) rfl (by kernel_rfl) (by kernel_rfl) (by kernel_rfl) (fun _ _ _ h => h) (by rfl) hHeld ?_ ?_
            rotate_left
            · intro w hSw; (try dsimp only at hSw); go_simp; (try with_reducible rfl)
            simp only [Act.put, List.setIfInBounds_toArray, List.set_cons_zero, List.set_cons_succ]
            refine wpAnyH_done (by kernel_rfl) ?_ _
            clear hHeld
            go_wp2
            go_roundg (n - (k + 1))
            case measure => omega
            case rel =>
              refine ⟨k + 1, _, by omega, Nat.le_refl _, by go_num, rfl, ?_, HW.out.trans HL3.out, ?_⟩
              · rw [ByteArray.size_append, ByteArray.size_append, ByteArray.size_append, ByteArray.size_append, ByteArray.size_append]
                have e1 : (⟨#[32]⟩ : ByteArray).size = 1 := rfl
                have e2 : (⟨#[10]⟩ : ByteArray).size = 1 := rfl
                have e3 : (txt (textL fl)).size = (textL fl).length := txt_size _
                omega
              · show _ = _
                rw [HNX.out, hte.out, show Lib.decDigits n2 = bytes dd from by rw [← HDD.out, bytes_txt]]
                exact text_line _ _ _ _
          · exact AllReadyH.nil
        · exact AllReadyH.nil
      exact AllReadyH.nil
    · have e : (mapT (·.2) z).take k = mapT (·.2) z := List.take_of_length_le (by rw [mapT_length, HX.out.len]; omega)
      rw [e] at hte
      clear e
      go_wp2
      go_ret
      exact ⟨congrArg (fun z => Ending.returned (.string z)) hte.out, HW.out⟩

theorem refTreeTextAt_any (v : Value) (t : Tr) (w : World) (ht : RefAt w v t) (hn : t.length ≤ 65536) (hb : (textT t).length ≤ 1000000) (hl : ∀ f ∈ t, f.2.length ≤ 65536) :
    Calls Tryd.prog 17 #[v] w fun e w' => e = .returned (.string (txt (textT t))) ∧ Later w w' := by
  obtain ⟨A, n, c, z, rfl, hc, hr, rfl⟩ := ht
  rw [mapT_length, hr.len] at hn
  exact refTreeText_any A n c z w hr hn hb (fun f hf => hl (f.1, f.2.2) (by simp only [mapT, List.mem_map]; exact ⟨_, hf, rfl⟩))

end Go.Proofs.YtbjbimahmbapdaaDoor
