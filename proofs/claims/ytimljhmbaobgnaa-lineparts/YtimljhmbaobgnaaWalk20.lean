/-
  The law on the parts that two rows have alike, and on how many lines a text has, as a call.
-/
import Derived.Test.YtimljhmbaobgnaaWalk19
namespace Go.Proofs.Ytimljhmbaobgnaa
open Go.RowKit

/-- How many bytes 10 a text has, how many lines, and how it ends. -/
def Ends3 (s : ByteArray) (cn ln : Nat) : Prop :=
  (s = ⟨#[]⟩ ∧ ln = cn) ∨ (s.toList.isEmpty = false ∧ Lib.hasSuffix s.data.toList [10] = true ∧ ln = cn) ∨ (s.toList.isEmpty = false ∧ Lib.hasSuffix s.data.toList [10] = false ∧ ln = cn + 1)
theorem ends3_any (s : ByteArray) : Ends3 s (Lib.countByte s.data.toList 10) (lines s).length := by
  have hl := lines_count s
  have hcb : Lib.countByte s.data.toList 10 = (bytes s).count 10 := rfl
  rw [← hcb] at hl
  by_cases h0 : s.size = 0
  · have eb : bytes s = [] := List.eq_nil_of_length_eq_zero (by rw [bytes_length]; exact h0)
    have er : s = ⟨#[]⟩ := by
      have := txt_bytes s
      rw [eb] at this
      exact this.symm
    exact .inl ⟨er, by rw [hl, if_pos (.inl eb)]; rfl⟩
  · have he := toList_isEmpty h0
    have hne : bytes s ≠ [] := by
      intro e
      have := bytes_length s
      rw [e] at this; simp at this; omega
    have hsf := suffix_ten s h0
    by_cases hlast : (bytes s).getLast? = some 10
    · exact .inr (.inl ⟨he, by rw [hsf]; simpa using hlast, by rw [hl, if_pos (.inr hlast)]; rfl⟩)
    · exact .inr (.inr ⟨he, by rw [hsf]; simpa using hlast, by rw [hl, if_neg (by rintro (h | h) <;> contradiction)]⟩)
theorem countByte_le (s : ByteArray) : Lib.countByte s.data.toList 10 ≤ s.size := by
  have : Lib.countByte s.data.toList 10 ≤ s.data.toList.length := List.count_le_length
  simpa using this

theorem drew_n (w : World) (n : Nat) : Drew w (w.drewN n) := ⟨n, rfl⟩

set_option maxHeartbeats 2000000 in
theorem lawParts (A B : Option Addr) (n c m d : Nat) (xs ys : List ByteArray) (s : ByteArray) (w : World) (hx : Came w A n c xs) (hy : Came w B m d ys) (hs : s.size ≤ 140737488355328) :
    Calls Try.prog 10 #[.slice A n c, .slice B m d, .string s] w fun e w' => e = .returned (.bool true) ∧ Later w w' := by
  have F := Lib.hid (few2 A B n c m d xs ys w hx hy)
  have hrc := hx.room
  have hrd := hy.room
  have HX := Lib.hid hx; clear hx
  have HY := Lib.hid hy; clear hy
  go_enter Try.func10, Try.ntmps10
  go_wp2_with fail
  refine F.out.mono ?_
  rintro e w1 ⟨b, rfl, hb, rfl⟩
  have HL1 := Lib.hid ((Later.refl w).alloc (.cells #[.slice A n c, .slice B m d] 22))
  generalize w.alloc (.cells #[.slice A n c, .slice B m d] 22) = w1 at HL1 ⊢
  clear F
  cases b
  · clear hb
    go_wp2_with fail
    refine (alive_any _).mono ?_
    rintro e w2 ⟨rfl, hl2⟩
    go_wp2
    go_ret
    exact ⟨rfl, HL1.out.trans hl2⟩
  · have hb' := hb rfl
    clear hb
    by_cases hbig : 3000 < s.size
    · have hd : decide ((3000 : Int) < s.size) = true := by simp; omega
      go_wp2_with fail
      refine (alive_any _).mono ?_
      rintro e w2 ⟨rfl, hl2⟩
      go_wp2
      go_ret
      exact ⟨rfl, HL1.out.trans hl2⟩
    · have hd : decide ((3000 : Int) < s.size) = false := by simp; omega
      have e1 := headN_left xs ys
      have e2 := headN_right xs ys
      have e3 := tailN_left xs ys
      have e4 := tailN_right xs ys
      rw [HX.out.row.len] at e1 e3
      rw [HY.out.row.len] at e2 e4
      have hth := (le_headN (headN xs ys) xs ys (by rw [HX.out.row.len]; exact e1) (by rw [HY.out.row.len]; exact e2)).2 (Nat.le_refl _)
      have htt := (le_tailN (k := tailN xs ys) (xs := xs) (ys := ys) (by rw [HX.out.row.len]; exact e3) (by rw [HY.out.row.len]; exact e4)).2 (Nat.le_refl _)
      rw [HX.out.row.len, HY.out.row.len] at htt
      have hc1 := head_any A B n c m d xs ys w1 (HX.out.row.later HL1.out) (HY.out.row.later HL1.out) (by omega)
      have hc2 := fun W hW => tail_any A B n c m d xs ys W (HX.out.row.later (HL1.out.trans hW)) (HY.out.row.later (HL1.out.trans hW)) (by omega) (by omega)
      obtain ⟨hN, hhN⟩ : ∃ h, headN xs ys = h := ⟨_, rfl⟩
      obtain ⟨tN, htN⟩ : ∃ t, tailN xs ys = t := ⟨_, rfl⟩
      rw [hhN] at e1 e2 hth hc1
      rw [htN] at e3 e4 htt hc2
      have hcnt : ∀ W : World, Calls Try.prog 33 #[.string s, .string ⟨#[10]⟩] W fun e w' => e = .returned (.int .i64 (Lib.countByte s.data.toList 10 : Nat)) ∧ W = w' := fun W => (Try.strings_Count_one s 10 W).mono fun e w' h => ⟨h.1, h.2.symm⟩
      have he3 := ends3_any s
      have hcle := countByte_le s
      have hcut := fun W => cut_any s W (by omega)
      generalize Lib.countByte s.data.toList 10 = cn at hcnt he3 hcle
      generalize lines s = L at he3 hcut
      obtain ⟨ln, hln⟩ : ∃ ln, L.length = ln := ⟨_, rfl⟩
      rw [hln] at he3
      have HLN := Lib.hid hln
      have HCNT := Lib.hid hcnt
      have HE3 := Lib.hid he3
      have HCUT := Lib.hid hcut
      clear hln hcnt he3 hcut
      have HC1 := Lib.hid hc1
      have HC2 := Lib.hid hc2
      have HHN := Lib.hid hhN
      have HTN := Lib.hid htN
      clear hc1 hc2 hhN htN
      go_wp2_with fail
      refine HC1.out.mono ?_
      rintro e w2 ⟨rfl, hq2⟩
      have hl2 := later_of_drew hq2
      clear hq2
      go_wp2_with fail
      refine (HC2.out w2 hl2).mono ?_
      rintro e w3 ⟨rfl, hq3⟩
      have HL3 := Lib.hid (HL1.out.trans (hl2.trans (later_of_drew hq3)))
      clear hq3 hl2 HC1 HC2
      have hS1 := fun W (hW : Drew w3 W) => refSame_any A B hN c hN d (xs.take hN) (ys.take hN) W
          ((HX.out.row.later (HL3.out.trans hW.later)).take e1) ((HY.out.row.later (HL3.out.trans hW.later)).take e2) (by omega) (by omega)
      have hS2 := fun W (hW : Drew w3 W) => refSame_any (if c = n - tN then A else A.map (·.add (n - tN))) (if d = m - tN then B else B.map (·.add (m - tN))) (n - (n - tN)) (c - (n - tN)) (m - (m - tN)) (d - (m - tN)) (xs.drop (n - tN)) (ys.drop (m - tN)) W
          ((HX.out.row.later (HL3.out.trans hW.later)).cut (by omega) hrc) ((HY.out.row.later (HL3.out.trans hW.later)).cut (by omega) hrd) (by omega) (by omega)
      rw [hth, sameB_self] at hS1
      rw [htt, sameB_self] at hS2
      have HS1 := Lib.hid hS1
      have HS2 := Lib.hid hS2
      clear hS1 hS2 hth htt
      have hh0 : decide ((hN : Int) < 0) = false := by simp
      have ht0 : decide ((tN : Int) < 0) = false := by simp
      have k1 : (hN : Int) ≤ c := by omega
      have k2 : (hN : Int) ≤ d := by omega
      have w1' : IntKind.i64.wrap ((n : Int) - (tN : Int)) = (n : Int) - (tN : Int) := IntWalk.i64_in _ (by omega)
      have w2' : IntKind.i64.wrap ((m : Int) - (tN : Int)) = (m : Int) - (tN : Int) := IntWalk.i64_in _ (by omega)
      have t1 : ((n : Int) - (tN : Int)).toNat = n - tN := by omega
      have t2 : ((m : Int) - (tN : Int)).toNat = m - tN := by omega
      have p1 : (0 : Int) ≤ (n : Int) - (tN : Int) := by omega
      have p2 : (0 : Int) ≤ (m : Int) - (tN : Int) := by omega
      have p3 : (n : Int) - (tN : Int) ≤ n := by omega
      have p4 : (m : Int) - (tN : Int) ≤ m := by omega
      have m1 : decide (min (n : Int) m < (hN : Int)) = false := by simp; omega
      have m2 : decide (min (n : Int) m < (tN : Int)) = false := by simp; omega
      have q1 : (hN : Int) ≤ min (n : Int) m := by omega
      have q2 : (tN : Int) ≤ min (n : Int) m := by omega
      go_wp2_with fail
      refine wp_region_quiet_lit (by kernel_rfl) (by kernel_rfl) ?_
      repeat (any_goals (first | go_big_quiet_step (((go_at_call 26; first | with_reducible exact Calls.quiet_of (HS1.out _ (drew_n _ _)) | with_reducible exact Calls.quiet_of (HS2.out _ (drew_n _ _))))) | quiet_step (((go_at_call 26; first | with_reducible exact Calls.quiet_of (HS1.out _ (drew_n _ _)) | with_reducible exact Calls.quiet_of (HS2.out _ (drew_n _ _)))))))
      refine wpQuiet_nil ?_
      intro w4 hw4
      have HL4 := Lib.hid (HL3.out.trans (later_of_drew hw4))
      clear hw4 HS1 HS2 hh0 ht0 k1 k2 w1' w2' t1 t2 p1 p2 p3 p4 m1 m2 q1 q2
      generalize (if c = n - tN then A else Option.map (fun x => x.add (n - tN)) A) = A5
      generalize (if d = m - tN then B else Option.map (fun x => x.add (m - tN)) B) = B5
      have hx4 := HX.out.row.later HL4.out
      have hy4 := HY.out.row.later HL4.out
      have n1 : hN < n → hN < m → xs.getD hN ByteArray.empty ≠ ys.getD hN ByteArray.empty := fun h1 h2 => headN_next HHN.out (by rw [hx4.len]; exact h1) (by rw [hy4.len]; exact h2)
      have n2 : tN < n → tN < m → xs.getD (n - 1 - tN) ByteArray.empty ≠ ys.getD (m - 1 - tN) ByteArray.empty := fun h1 h2 => by
        have := tailN_next HTN.out (by rw [hx4.len]; exact h1) (by rw [hy4.len]; exact h2)
        rwa [hx4.len, hy4.len] at this
      by_cases hpos : 0 < n ∧ 0 < m
      · obtain ⟨b1, o1, rfl, g1⟩ := hx4.open_ hpos.1
        obtain ⟨b2, o2, rfl, g2⟩ := hy4.open_ hpos.2
        rw [hx4.len] at g1
        rw [hy4.len] at g2
        have G1 := Lib.hid g1
        have G2 := Lib.hid g2
        have N1 := Lib.hid n1
        have N2 := Lib.hid n2
        clear g1 g2 n1 n2 hx4 hy4
        by_cases hh : hN < n ∧ hN < m
        · have c1 := G1.out hN hh.1
          have c2 := G2.out hN hh.2
          have ne1 := text_ne (N1.out hh.1 hh.2)
          generalize xs.getD hN ByteArray.empty = x1 at c1 ne1
          generalize ys.getD hN ByteArray.empty = y1 at c2 ne1
          have q1 : (hN : Int) < min (n : Int) m := by omega
          have q1' : decide ((hN : Int) < min (n : Int) m) = true := by simp; omega
          by_cases ht : tN < n ∧ tN < m
          · have c3 := G1.out (n - 1 - tN) (by omega)
            have c4 := G2.out (m - 1 - tN) (by omega)
            have ne2 := text_ne (N2.out ht.1 ht.2)
            generalize xs.getD (n - 1 - tN) ByteArray.empty = x2 at c3 ne2
            generalize ys.getD (m - 1 - tN) ByteArray.empty = y2 at c4 ne2
            have q2 : (tN : Int) < min (n : Int) m := by omega
            have q2' : decide ((tN : Int) < min (n : Int) m) = true := by simp; omega
            have v1 : IntKind.i64.wrap ((n : Int) - 1) = (n : Int) - 1 := IntWalk.i64_in _ (by omega)
            have v2 : IntKind.i64.wrap ((n : Int) - 1 - (tN : Int)) = (n : Int) - 1 - (tN : Int) := IntWalk.i64_in _ (by omega)
            have v3 : IntKind.i64.wrap ((m : Int) - 1) = (m : Int) - 1 := IntWalk.i64_in _ (by omega)
            have v4 : IntKind.i64.wrap ((m : Int) - 1 - (tN : Int)) = (m : Int) - 1 - (tN : Int) := IntWalk.i64_in _ (by omega)
            have u1 : ((n : Int) - 1 - (tN : Int)).toNat = n - 1 - tN := by omega
            have u2 : ((m : Int) - 1 - (tN : Int)).toNat = m - 1 - tN := by omega
            have p1 : (0 : Int) ≤ (n : Int) - 1 - (tN : Int) := by omega
            have p2 : (0 : Int) ≤ (m : Int) - 1 - (tN : Int) := by omega
            have p3 : (n : Int) - 1 - (tN : Int) < n := by omega
            have p4 : (m : Int) - 1 - (tN : Int) < m := by omega
            have p5 : (hN : Int) < n := by omega
            have p6 : (hN : Int) < m := by omega
            go_wp2_with fail
            go_quiet (fail)
            have HL5 := Lib.hid (HL4.out.drewN nq)
            generalize w4.drewN nq = w5 at HL5 ⊢
            clear G1 G2 N1 N2 c1 c2 ne1 q1 q1' c3 c4 ne2 q2 q2' v1 v2 v3 v4 u1 u2 p1 p2 p3 p4 p5 p6
            go_wp2_with fail
            refine (HCNT.out w5).mono ?_
            rintro e w6 ⟨rfl, rfl⟩
            rcases HE3.out with ⟨hse, hln⟩ | ⟨he, hsf, hln⟩ | ⟨he, hsf, hln⟩
            · subst hse
              subst hln
              go_wp2_with fail
              refine (alive_any _).mono ?_
              rintro e w7 ⟨rfl, hl7⟩
              have HL7 := Lib.hid (HL5.out.trans hl7); clear hl7
              go_wp2_with fail
              refine (HCUT.out w7).mono ?_
              rintro e w8 ⟨A8, c8, rfl, hc8, hr8, hl8⟩
              rw [HLN.out] at hc8 ⊢
              have HL8 := Lib.hid (HL7.out.trans hl8); clear hl8 hr8
              have hfin : ((ln : Int) == (ln : Int)) = true := by simp; try omega
              go_wp2
              go_ret
              exact ⟨ret_bool (by simp), HL8.out⟩
            · subst hln
              have HSF : Hid (∀ W : World, Calls Try.prog 19 #[.string s, .string ⟨#[10]⟩] W fun e w' => e = .returned (.bool true) ∧ W = w') := fun W => by
                have := Try.strings_HasSuffix s ⟨#[10]⟩ W (by omega)
                rw [show (⟨#[10]⟩ : ByteArray).data.toList = [10] from rfl, hsf] at this
                exact this.mono fun e w' h => ⟨h.1, h.2.symm⟩
              have he2 : ¬ s.toList = [] := by intro h; rw [h] at he; cases he
              clear hsf
              go_wp2_with (go_at_call 19; refine (HSF.out _).mono ?_; rintro e w' ⟨rfl, rfl⟩)
              refine (alive_any _).mono ?_
              rintro e w7 ⟨rfl, hl7⟩
              have HL7 := Lib.hid (HL5.out.trans hl7); clear hl7
              go_wp2_with fail
              refine (HCUT.out w7).mono ?_
              rintro e w8 ⟨A8, c8, rfl, hc8, hr8, hl8⟩
              rw [HLN.out] at hc8 ⊢
              have HL8 := Lib.hid (HL7.out.trans hl8); clear hl8 hr8
              have hfin : ((ln : Int) == (ln : Int)) = true := by simp; try omega
              go_wp2
              go_ret
              exact ⟨ret_bool (by simp), HL8.out⟩
            · subst hln
              have HSF : Hid (∀ W : World, Calls Try.prog 19 #[.string s, .string ⟨#[10]⟩] W fun e w' => e = .returned (.bool false) ∧ W = w') := fun W => by
                have := Try.strings_HasSuffix s ⟨#[10]⟩ W (by omega)
                rw [show (⟨#[10]⟩ : ByteArray).data.toList = [10] from rfl, hsf] at this
                exact this.mono fun e w' h => ⟨h.1, h.2.symm⟩
              have he2 : ¬ s.toList = [] := by intro h; rw [h] at he; cases he
              clear hsf
              go_wp2_with (go_at_call 19; refine (HSF.out _).mono ?_; rintro e w' ⟨rfl, rfl⟩)
              refine (alive_any _).mono ?_
              rintro e w7 ⟨rfl, hl7⟩
              have HL7 := Lib.hid (HL5.out.trans hl7); clear hl7
              go_wp2_with fail
              refine (HCUT.out w7).mono ?_
              rintro e w8 ⟨A8, c8, rfl, hc8, hr8, hl8⟩
              rw [HLN.out] at hc8 ⊢
              have HL8 := Lib.hid (HL7.out.trans hl8); clear hl8 hr8
              have hfin : (((cn + 1 : Nat) : Int) == (cn : Int) + 1) = true := by simp; try omega
              go_wp2
              go_ret
              exact ⟨ret_bool (by simp), HL8.out⟩
          · have q2' : decide ((tN : Int) < min (n : Int) m) = false := by simp; omega
            have p5 : (hN : Int) < n := by omega
            have p6 : (hN : Int) < m := by omega
            go_wp2_with fail
            go_quiet (fail)
            have HL5 := Lib.hid (HL4.out.drewN nq)
            generalize w4.drewN nq = w5 at HL5 ⊢
            clear G1 G2 N1 N2 c1 c2 ne1 q1 q1' q2' p5 p6
            go_wp2_with fail
            refine (HCNT.out w5).mono ?_
            rintro e w6 ⟨rfl, rfl⟩
            rcases HE3.out with ⟨hse, hln⟩ | ⟨he, hsf, hln⟩ | ⟨he, hsf, hln⟩
            · subst hse
              subst hln
              go_wp2_with fail
              refine (alive_any _).mono ?_
              rintro e w7 ⟨rfl, hl7⟩
              have HL7 := Lib.hid (HL5.out.trans hl7); clear hl7
              go_wp2_with fail
              refine (HCUT.out w7).mono ?_
              rintro e w8 ⟨A8, c8, rfl, hc8, hr8, hl8⟩
              rw [HLN.out] at hc8 ⊢
              have HL8 := Lib.hid (HL7.out.trans hl8); clear hl8 hr8
              have hfin : ((ln : Int) == (ln : Int)) = true := by simp; try omega
              go_wp2
              go_ret
              exact ⟨ret_bool (by simp), HL8.out⟩
            · subst hln
              have HSF : Hid (∀ W : World, Calls Try.prog 19 #[.string s, .string ⟨#[10]⟩] W fun e w' => e = .returned (.bool true) ∧ W = w') := fun W => by
                have := Try.strings_HasSuffix s ⟨#[10]⟩ W (by omega)
                rw [show (⟨#[10]⟩ : ByteArray).data.toList = [10] from rfl, hsf] at this
                exact this.mono fun e w' h => ⟨h.1, h.2.symm⟩
              have he2 : ¬ s.toList = [] := by intro h; rw [h] at he; cases he
              clear hsf
              go_wp2_with (go_at_call 19; refine (HSF.out _).mono ?_; rintro e w' ⟨rfl, rfl⟩)
              refine (alive_any _).mono ?_
              rintro e w7 ⟨rfl, hl7⟩
              have HL7 := Lib.hid (HL5.out.trans hl7); clear hl7
              go_wp2_with fail
              refine (HCUT.out w7).mono ?_
              rintro e w8 ⟨A8, c8, rfl, hc8, hr8, hl8⟩
              rw [HLN.out] at hc8 ⊢
              have HL8 := Lib.hid (HL7.out.trans hl8); clear hl8 hr8
              have hfin : ((ln : Int) == (ln : Int)) = true := by simp; try omega
              go_wp2
              go_ret
              exact ⟨ret_bool (by simp), HL8.out⟩
            · subst hln
              have HSF : Hid (∀ W : World, Calls Try.prog 19 #[.string s, .string ⟨#[10]⟩] W fun e w' => e = .returned (.bool false) ∧ W = w') := fun W => by
                have := Try.strings_HasSuffix s ⟨#[10]⟩ W (by omega)
                rw [show (⟨#[10]⟩ : ByteArray).data.toList = [10] from rfl, hsf] at this
                exact this.mono fun e w' h => ⟨h.1, h.2.symm⟩
              have he2 : ¬ s.toList = [] := by intro h; rw [h] at he; cases he
              clear hsf
              go_wp2_with (go_at_call 19; refine (HSF.out _).mono ?_; rintro e w' ⟨rfl, rfl⟩)
              refine (alive_any _).mono ?_
              rintro e w7 ⟨rfl, hl7⟩
              have HL7 := Lib.hid (HL5.out.trans hl7); clear hl7
              go_wp2_with fail
              refine (HCUT.out w7).mono ?_
              rintro e w8 ⟨A8, c8, rfl, hc8, hr8, hl8⟩
              rw [HLN.out] at hc8 ⊢
              have HL8 := Lib.hid (HL7.out.trans hl8); clear hl8 hr8
              have hfin : (((cn + 1 : Nat) : Int) == (cn : Int) + 1) = true := by simp; try omega
              go_wp2
              go_ret
              exact ⟨ret_bool (by simp), HL8.out⟩
        · have q1' : decide ((hN : Int) < min (n : Int) m) = false := by simp; omega
          by_cases ht : tN < n ∧ tN < m
          · have c3 := G1.out (n - 1 - tN) (by omega)
            have c4 := G2.out (m - 1 - tN) (by omega)
            have ne2 := text_ne (N2.out ht.1 ht.2)
            generalize xs.getD (n - 1 - tN) ByteArray.empty = x2 at c3 ne2
            generalize ys.getD (m - 1 - tN) ByteArray.empty = y2 at c4 ne2
            have q2 : (tN : Int) < min (n : Int) m := by omega
            have q2' : decide ((tN : Int) < min (n : Int) m) = true := by simp; omega
            have v1 : IntKind.i64.wrap ((n : Int) - 1) = (n : Int) - 1 := IntWalk.i64_in _ (by omega)
            have v2 : IntKind.i64.wrap ((n : Int) - 1 - (tN : Int)) = (n : Int) - 1 - (tN : Int) := IntWalk.i64_in _ (by omega)
            have v3 : IntKind.i64.wrap ((m : Int) - 1) = (m : Int) - 1 := IntWalk.i64_in _ (by omega)
            have v4 : IntKind.i64.wrap ((m : Int) - 1 - (tN : Int)) = (m : Int) - 1 - (tN : Int) := IntWalk.i64_in _ (by omega)
            have u1 : ((n : Int) - 1 - (tN : Int)).toNat = n - 1 - tN := by omega
            have u2 : ((m : Int) - 1 - (tN : Int)).toNat = m - 1 - tN := by omega
            have p1 : (0 : Int) ≤ (n : Int) - 1 - (tN : Int) := by omega
            have p2 : (0 : Int) ≤ (m : Int) - 1 - (tN : Int) := by omega
            have p3 : (n : Int) - 1 - (tN : Int) < n := by omega
            have p4 : (m : Int) - 1 - (tN : Int) < m := by omega
            go_wp2_with fail
            go_quiet (fail)
            have HL5 := Lib.hid (HL4.out.drewN nq)
            generalize w4.drewN nq = w5 at HL5 ⊢
            clear G1 G2 N1 N2 q1' c3 c4 ne2 q2 q2' v1 v2 v3 v4 u1 u2 p1 p2 p3 p4
            go_wp2_with fail
            refine (HCNT.out w5).mono ?_
            rintro e w6 ⟨rfl, rfl⟩
            rcases HE3.out with ⟨hse, hln⟩ | ⟨he, hsf, hln⟩ | ⟨he, hsf, hln⟩
            · subst hse
              subst hln
              go_wp2_with fail
              refine (alive_any _).mono ?_
              rintro e w7 ⟨rfl, hl7⟩
              have HL7 := Lib.hid (HL5.out.trans hl7); clear hl7
              go_wp2_with fail
              refine (HCUT.out w7).mono ?_
              rintro e w8 ⟨A8, c8, rfl, hc8, hr8, hl8⟩
              rw [HLN.out] at hc8 ⊢
              have HL8 := Lib.hid (HL7.out.trans hl8); clear hl8 hr8
              have hfin : ((ln : Int) == (ln : Int)) = true := by simp; try omega
              go_wp2
              go_ret
              exact ⟨ret_bool (by simp), HL8.out⟩
            · subst hln
              have HSF : Hid (∀ W : World, Calls Try.prog 19 #[.string s, .string ⟨#[10]⟩] W fun e w' => e = .returned (.bool true) ∧ W = w') := fun W => by
                have := Try.strings_HasSuffix s ⟨#[10]⟩ W (by omega)
                rw [show (⟨#[10]⟩ : ByteArray).data.toList = [10] from rfl, hsf] at this
                exact this.mono fun e w' h => ⟨h.1, h.2.symm⟩
              have he2 : ¬ s.toList = [] := by intro h; rw [h] at he; cases he
              clear hsf
              go_wp2_with (go_at_call 19; refine (HSF.out _).mono ?_; rintro e w' ⟨rfl, rfl⟩)
              refine (alive_any _).mono ?_
              rintro e w7 ⟨rfl, hl7⟩
              have HL7 := Lib.hid (HL5.out.trans hl7); clear hl7
              go_wp2_with fail
              refine (HCUT.out w7).mono ?_
              rintro e w8 ⟨A8, c8, rfl, hc8, hr8, hl8⟩
              rw [HLN.out] at hc8 ⊢
              have HL8 := Lib.hid (HL7.out.trans hl8); clear hl8 hr8
              have hfin : ((ln : Int) == (ln : Int)) = true := by simp; try omega
              go_wp2
              go_ret
              exact ⟨ret_bool (by simp), HL8.out⟩
            · subst hln
              have HSF : Hid (∀ W : World, Calls Try.prog 19 #[.string s, .string ⟨#[10]⟩] W fun e w' => e = .returned (.bool false) ∧ W = w') := fun W => by
                have := Try.strings_HasSuffix s ⟨#[10]⟩ W (by omega)
                rw [show (⟨#[10]⟩ : ByteArray).data.toList = [10] from rfl, hsf] at this
                exact this.mono fun e w' h => ⟨h.1, h.2.symm⟩
              have he2 : ¬ s.toList = [] := by intro h; rw [h] at he; cases he
              clear hsf
              go_wp2_with (go_at_call 19; refine (HSF.out _).mono ?_; rintro e w' ⟨rfl, rfl⟩)
              refine (alive_any _).mono ?_
              rintro e w7 ⟨rfl, hl7⟩
              have HL7 := Lib.hid (HL5.out.trans hl7); clear hl7
              go_wp2_with fail
              refine (HCUT.out w7).mono ?_
              rintro e w8 ⟨A8, c8, rfl, hc8, hr8, hl8⟩
              rw [HLN.out] at hc8 ⊢
              have HL8 := Lib.hid (HL7.out.trans hl8); clear hl8 hr8
              have hfin : (((cn + 1 : Nat) : Int) == (cn : Int) + 1) = true := by simp; try omega
              go_wp2
              go_ret
              exact ⟨ret_bool (by simp), HL8.out⟩
          · have q2' : decide ((tN : Int) < min (n : Int) m) = false := by simp; omega
            go_wp2_with fail
            go_quiet (fail)
            have HL5 := Lib.hid (HL4.out.drewN nq)
            generalize w4.drewN nq = w5 at HL5 ⊢
            clear G1 G2 N1 N2 q1' q2'
            go_wp2_with fail
            refine (HCNT.out w5).mono ?_
            rintro e w6 ⟨rfl, rfl⟩
            rcases HE3.out with ⟨hse, hln⟩ | ⟨he, hsf, hln⟩ | ⟨he, hsf, hln⟩
            · subst hse
              subst hln
              go_wp2_with fail
              refine (alive_any _).mono ?_
              rintro e w7 ⟨rfl, hl7⟩
              have HL7 := Lib.hid (HL5.out.trans hl7); clear hl7
              go_wp2_with fail
              refine (HCUT.out w7).mono ?_
              rintro e w8 ⟨A8, c8, rfl, hc8, hr8, hl8⟩
              rw [HLN.out] at hc8 ⊢
              have HL8 := Lib.hid (HL7.out.trans hl8); clear hl8 hr8
              have hfin : ((ln : Int) == (ln : Int)) = true := by simp; try omega
              go_wp2
              go_ret
              exact ⟨ret_bool (by simp), HL8.out⟩
            · subst hln
              have HSF : Hid (∀ W : World, Calls Try.prog 19 #[.string s, .string ⟨#[10]⟩] W fun e w' => e = .returned (.bool true) ∧ W = w') := fun W => by
                have := Try.strings_HasSuffix s ⟨#[10]⟩ W (by omega)
                rw [show (⟨#[10]⟩ : ByteArray).data.toList = [10] from rfl, hsf] at this
                exact this.mono fun e w' h => ⟨h.1, h.2.symm⟩
              have he2 : ¬ s.toList = [] := by intro h; rw [h] at he; cases he
              clear hsf
              go_wp2_with (go_at_call 19; refine (HSF.out _).mono ?_; rintro e w' ⟨rfl, rfl⟩)
              refine (alive_any _).mono ?_
              rintro e w7 ⟨rfl, hl7⟩
              have HL7 := Lib.hid (HL5.out.trans hl7); clear hl7
              go_wp2_with fail
              refine (HCUT.out w7).mono ?_
              rintro e w8 ⟨A8, c8, rfl, hc8, hr8, hl8⟩
              rw [HLN.out] at hc8 ⊢
              have HL8 := Lib.hid (HL7.out.trans hl8); clear hl8 hr8
              have hfin : ((ln : Int) == (ln : Int)) = true := by simp; try omega
              go_wp2
              go_ret
              exact ⟨ret_bool (by simp), HL8.out⟩
            · subst hln
              have HSF : Hid (∀ W : World, Calls Try.prog 19 #[.string s, .string ⟨#[10]⟩] W fun e w' => e = .returned (.bool false) ∧ W = w') := fun W => by
                have := Try.strings_HasSuffix s ⟨#[10]⟩ W (by omega)
                rw [show (⟨#[10]⟩ : ByteArray).data.toList = [10] from rfl, hsf] at this
                exact this.mono fun e w' h => ⟨h.1, h.2.symm⟩
              have he2 : ¬ s.toList = [] := by intro h; rw [h] at he; cases he
              clear hsf
              go_wp2_with (go_at_call 19; refine (HSF.out _).mono ?_; rintro e w' ⟨rfl, rfl⟩)
              refine (alive_any _).mono ?_
              rintro e w7 ⟨rfl, hl7⟩
              have HL7 := Lib.hid (HL5.out.trans hl7); clear hl7
              go_wp2_with fail
              refine (HCUT.out w7).mono ?_
              rintro e w8 ⟨A8, c8, rfl, hc8, hr8, hl8⟩
              rw [HLN.out] at hc8 ⊢
              have HL8 := Lib.hid (HL7.out.trans hl8); clear hl8 hr8
              have hfin : (((cn + 1 : Nat) : Int) == (cn : Int) + 1) = true := by simp; try omega
              go_wp2
              go_ret
              exact ⟨ret_bool (by simp), HL8.out⟩
      · have q1' : decide ((hN : Int) < min (n : Int) m) = false := by simp; omega
        have q2' : decide ((tN : Int) < min (n : Int) m) = false := by simp; omega
        clear n1 n2 hx4 hy4
        go_wp2_with fail
        go_quiet (fail)
        have HL5 := Lib.hid (HL4.out.drewN nq)
        generalize w4.drewN nq = w5 at HL5 ⊢
        clear q1' q2'
        go_wp2_with fail
        refine (HCNT.out w5).mono ?_
        rintro e w6 ⟨rfl, rfl⟩
        rcases HE3.out with ⟨hse, hln⟩ | ⟨he, hsf, hln⟩ | ⟨he, hsf, hln⟩
        · subst hse
          subst hln
          go_wp2_with fail
          refine (alive_any _).mono ?_
          rintro e w7 ⟨rfl, hl7⟩
          have HL7 := Lib.hid (HL5.out.trans hl7); clear hl7
          go_wp2_with fail
          refine (HCUT.out w7).mono ?_
          rintro e w8 ⟨A8, c8, rfl, hc8, hr8, hl8⟩
          rw [HLN.out] at hc8 ⊢
          have HL8 := Lib.hid (HL7.out.trans hl8); clear hl8 hr8
          have hfin : ((ln : Int) == (ln : Int)) = true := by simp; try omega
          go_wp2
          go_ret
          exact ⟨ret_bool (by simp), HL8.out⟩
        · subst hln
          have HSF : Hid (∀ W : World, Calls Try.prog 19 #[.string s, .string ⟨#[10]⟩] W fun e w' => e = .returned (.bool true) ∧ W = w') := fun W => by
            have := Try.strings_HasSuffix s ⟨#[10]⟩ W (by omega)
            rw [show (⟨#[10]⟩ : ByteArray).data.toList = [10] from rfl, hsf] at this
            exact this.mono fun e w' h => ⟨h.1, h.2.symm⟩
          have he2 : ¬ s.toList = [] := by intro h; rw [h] at he; cases he
          clear hsf
          go_wp2_with (go_at_call 19; refine (HSF.out _).mono ?_; rintro e w' ⟨rfl, rfl⟩)
          refine (alive_any _).mono ?_
          rintro e w7 ⟨rfl, hl7⟩
          have HL7 := Lib.hid (HL5.out.trans hl7); clear hl7
          go_wp2_with fail
          refine (HCUT.out w7).mono ?_
          rintro e w8 ⟨A8, c8, rfl, hc8, hr8, hl8⟩
          rw [HLN.out] at hc8 ⊢
          have HL8 := Lib.hid (HL7.out.trans hl8); clear hl8 hr8
          have hfin : ((ln : Int) == (ln : Int)) = true := by simp; try omega
          go_wp2
          go_ret
          exact ⟨ret_bool (by simp), HL8.out⟩
        · subst hln
          have HSF : Hid (∀ W : World, Calls Try.prog 19 #[.string s, .string ⟨#[10]⟩] W fun e w' => e = .returned (.bool false) ∧ W = w') := fun W => by
            have := Try.strings_HasSuffix s ⟨#[10]⟩ W (by omega)
            rw [show (⟨#[10]⟩ : ByteArray).data.toList = [10] from rfl, hsf] at this
            exact this.mono fun e w' h => ⟨h.1, h.2.symm⟩
          have he2 : ¬ s.toList = [] := by intro h; rw [h] at he; cases he
          clear hsf
          go_wp2_with (go_at_call 19; refine (HSF.out _).mono ?_; rintro e w' ⟨rfl, rfl⟩)
          refine (alive_any _).mono ?_
          rintro e w7 ⟨rfl, hl7⟩
          have HL7 := Lib.hid (HL5.out.trans hl7); clear hl7
          go_wp2_with fail
          refine (HCUT.out w7).mono ?_
          rintro e w8 ⟨A8, c8, rfl, hc8, hr8, hl8⟩
          rw [HLN.out] at hc8 ⊢
          have HL8 := Lib.hid (HL7.out.trans hl8); clear hl8 hr8
          have hfin : (((cn + 1 : Nat) : Int) == (cn : Int) + 1) = true := by simp; try omega
          go_wp2
          go_ret
          exact ⟨ret_bool (by simp), HL8.out⟩

end Go.Proofs.Ytimljhmbaobgnaa
