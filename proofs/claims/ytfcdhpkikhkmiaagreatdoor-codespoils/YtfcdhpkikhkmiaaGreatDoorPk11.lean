import Derived.Test.YtfcdhpkikhkmiaaGreatDoorPk10
import Derived.Laws.AppendOwnNone
import Derived.Deep.LoopGhost

/-
  The law CodeSpoils, as a call.
-/
namespace Go.Proofs.YtfcdhpkikhkmiaaGreatDoor
open Go.RowKit Go.Maps

section
variable {w : World} {B m n c : Nat} {v : Value} {xs : List Value} {bs : Bs} {A : Option Addr}
theorem wpList_append_bs {ops : Array Oper} {rest : List Oper} {o : Oper} {a : Act} {Q : Exit → Act → World → Prop} (hgd : o.guard = none) (s x : Operand)
    (ho : o.op = .call { callee := .builtin .append, args := #[s, x], argTypes := #[25, 25] })
    (hown : w.ownsRow B 5 1 v m xs) (hs : a.eval s = v) (hx : a.eval x = .slice A n c) (hbs : BsAt w A n bs) (hA : A = none → c = 0) (hnc : n ≤ c) (hb : m + n ≤ 1000000000) (hB : B ≤ w.heap.size)
    (h : ∀ v' w', w'.ownsRow B 5 1 v' (m + n) (xs ++ Lib.byteCells bs) → w.grownBy w' v.ownBlock → wpList Tryz.prog ops Q rest (a.put o.dst v') w') : wpList Tryz.prog ops Q (o :: rest) a w := by
  obtain ⟨i, hi, hz, hsz, hby⟩ := info_parts Tryz.byteInfo
  cases A with
  | none =>
    obtain rfl := hA rfl
    obtain rfl : n = 0 := by omega
    obtain rfl : bs = [] := List.eq_nil_of_length_eq_zero hbs.len
    exact wpList_append_own_none hgd s x 25 ho B 5 i 1 Tryz.underlying25 hi v m xs hs hown hx (h v w (by simpa [Lib.byteCells] using hown) ⟨rfl, rfl, rfl, Nat.le_refl _, fun _ _ _ => rfl⟩)
  | some ad =>
    refine wpList_append_own w hgd s x 25 ho B 5 i (.int .u8 0) 1 1 Tryz.underlying25 hi hz hsz hby rfl (by decide) v m xs hs hown ad n c (Lib.byteCells bs) hx (by simp [Lib.byteCells, hbs.len]) (fun j u hj => ?_) (fun u hu => ?_) (by simp only [maxLen]; omega) (by omega) hB (fun v' w' h1 h2 _ => h v' w' h1 h2)
    · unfold Lib.byteCells at hj
      rw [List.getElem?_map] at hj
      obtain ⟨y, hy, rfl⟩ := Option.map_eq_some_iff.1 hj
      have hjl := (List.getElem?_eq_some_iff.1 hy).1
      obtain ⟨b, o', e, hc⟩ := hbs.2 (by have := hbs.len; omega)
      cases e
      rw [plain_add]
      exact hc j y hy
    · obtain ⟨y, _, rfl⟩ := List.mem_map.1 hu
      rfl
end
theorem numR_x (bs : Bs) : numR (120 :: bs) = none := by
  cases h : numR (120 :: bs) with
  | none => rfl
  | some p =>
    have e := (numR_some (n := p.1) (r := p.2) h).1
    unfold numC at e
    cases hl : Lib.itoa (clampC p.1) with
    | nil => exact absurd hl (List.ne_nil_of_length_pos (itoa_one _))
    | cons b l =>
      have hb := itoa_bytes (clampC p.1) b (by rw [hl]; exact List.mem_cons_self)
      rw [hl] at e
      simp only [List.cons_append, List.cons.injEq] at e
      rw [← e.1] at hb
      have e120 : (120 : UInt8).toNat = 120 := rfl
      omega
theorem zeroC9_ok (V : World) : PrOk V zeroC9 :=
  ⟨Row.none, Row.none, Nat.le_refl _, Nat.le_refl _, Nat.zero_le _, Nat.zero_le _, (by show (0 : Nat) ≤ maxLen; omega), (by show (0 : Nat) ≤ maxLen; omega), (by decide), (by decide), (fun s hs => by cases hs), (fun s hs => by cases hs)⟩

set_option maxRecDepth 100000 in
set_option maxHeartbeats 3200000 in
theorem codeSpoils_law (A A2 : Option Addr) (n c n2 c2 : Nat) (bs : Bs) (w : World) (hB : Base w) (hx : BsAt w A n bs) (hA : A = none → c = 0) (hnc : n ≤ c) :
    Calls Tryz.prog 7 #[.slice A n c, .slice A2 n2 c2] w (Says true w) := by
  suffices H : ∀ R : Ending → World → Prop, (∀ e w', Says true w e w' → R e w') → Calls Tryz.prog 7 #[.slice A n c, .slice A2 n2 c2] w R from H _ (fun _ _ h => h)
  intro R hR
  have HRR := Lib.hid hR
  have HAL := Lib.hid (fun V (hV : Later w V) => alive9_any V (hB.later hV))
  clear hR
  by_cases h1 : n > 3000
  · have e1 : ((n : Nat) : Int) > 3000 := by omega
    have d1 : decide ((3000 : Int) < (n : Nat)) = true := by simpa using e1
    have HC := Lib.hid (HAL.out w (Later.refl w))
    clear hx hA hnc h1 HAL
    go_enter Tryz.func7, Tryz.ntmps7
    go_wp2_with fail
    refine HC.out.mono ?_
    rintro e w1 ⟨rfl, hl⟩
    go_wp2
    exact HRR.out _ _ ⟨rfl, hl⟩
  have d1 : decide ((3000 : Int) < (n : Nat)) = false := by simp; omega
  by_cases h2 : n2 > 40
  · have d2 : decide ((40 : Int) < (n2 : Nat)) = true := by simp; omega
    have HC := Lib.hid (HAL.out w (Later.refl w))
    clear hx hA hnc h1 h2 HAL
    go_enter Tryz.func7, Tryz.ntmps7
    go_wp2_with fail
    refine HC.out.mono ?_
    rintro e w1 ⟨rfl, hl⟩
    go_wp2
    exact HRR.out _ _ ⟨rfl, hl⟩
  have d2 : decide ((40 : Int) < (n2 : Nat)) = false := by simp; omega
  have hlen := hx.len
  have hl0 : Later w (w.alloc (.cells #[.int .u8 120] 5)) := (Later.refl w).alloc _
  have HBS := Lib.hid (hx.later hl0)
  have HO0 : Hid ((w.alloc (.cells #[.int .u8 120] 5)).ownsRow w.heap.size 5 1 (.slice (some ⟨w.heap.size, 0, none⟩) 1 1) 1 [Value.int .u8 120]) := ⟨rfl, .inr ⟨w.heap.size, 1, #[Value.int .u8 120], rfl, Nat.le_refl _, heap_alloc_new w _, Nat.le_refl _, (by simp only [maxLen]; omega), rfl, rfl⟩⟩
  have hm : 1 + n ≤ 1000000000 := by omega
  have hsz : w.heap.size ≤ (w.alloc (.cells #[.int .u8 120] 5)).heap.size := hl0.le
  have HL0 := Lib.hid hl0
  have HN : Hid ((120 :: bs).length ≤ 190000) := by show _ ≤ _; simp only [List.length_cons]; omega
  have HNE : Hid (1 + n = (120 :: bs).length) := by show _ = _; simp only [List.length_cons]; omega
  have HN3 : Hid ((n : Int) ≤ 3000) := by show _ ≤ _; omega
  have HN2 : Hid (n2 ≤ 40) := by show _ ≤ _; omega
  clear hx hl0 hlen h1 h2
  go_enter Tryz.func7, Tryz.ntmps7
  go_wp2_with (at_builtin; refine wpList_append_bs rfl _ _ rfl HO0.out rfl rfl HBS.out hA hnc hm hsz ?_)
  intro v1 w1 hown1 hgrow
  have hl1 : Later w w1 := Below.grown HL0.out hgrow HL0.out.le (owns_block HO0.out)
  have hown1 : w1.ownsRow w.heap.size 5 1 v1 (120 :: bs).length (Lib.byteCells (120 :: bs)) := by
    rw [← HNE.out]
    exact hown1
  obtain ⟨A1, c1, rfl, hc1, hA1, hbs1, _⟩ := owns_bs hown1
  have HC := Lib.hid (of_any w A1 _ c1 _ w1 hbs1 hA1 hc1 HN.out hl1)
  clear hown1 hgrow hl1 hbs1 hA1 hc1 HBS HO0 HL0 hsz hm hA hnc
  generalize hX : (120 :: bs).length = N1 at HC HNE
  have HX := Lib.hid hX
  clear hX
  go_wp2_with fail
  refine HC.out.mono ?_
  rintro e w2 ⟨g, rfl, hi, hl2⟩
  have HI2 := Lib.hid hi
  clear hi hl2 HC
  have HC := Lib.hid (inNum_any w hB g _ w2 false HI2.out)
  simp only [Bool.false_eq_true, if_false] at HC
  rw [numR_x] at HC
  go_wp2_with fail
  refine HC.out.mono ?_
  rintro e w3 ⟨_, ⟨_, rfl, hi⟩ | ⟨x, t, v, hr, _⟩⟩
  case inr => cases hr
  have HI3 := Lib.hid hi
  clear hi HC HI2
  go_wp2
  go_loopg [28] (n2 + 1) (fun g0 s28 wr => ∃ k : Nat, k ≤ n2 ∧ n2 - k ≤ g0 ∧ s28 = .int .i64 k ∧ Hid (InAt w wr g (120 :: bs) true))
  case atStart => exact ⟨0, Nat.zero_le _, by omega, rfl, HI3⟩
  case round =>
    obtain ⟨k, hk, hg, rfl, hin⟩ := hrel
    by_cases hlt : k < n2
    · have hn40 := HN2.out
      have HC := Lib.hid (inNum_any w hB g _ wr true hin.out)
      simp only [if_true] at HC
      go_wp2_with fail
      refine HC.out.mono ?_
      rintro e w4 ⟨_, ⟨_, rfl, hi⟩ | ⟨x, t, v, hr, _⟩⟩
      case inr => cases hr
      have HI4 := Lib.hid hi
      clear hi HC hin
      have HC := Lib.hid (inFlag_any w hB g _ w4 true HI4.out)
      simp only [if_true] at HC
      go_wp2_with fail
      refine HC.out.mono ?_
      rintro e w5 ⟨_, ⟨_, rfl, hi⟩ | ⟨x, t, v, hr, _⟩⟩
      case inr => cases hr
      have HI5 := Lib.hid hi
      clear hi HC HI4
      have HC := Lib.hid (inText_any w hB g _ w5 9 true HI5.out)
      simp only [if_true] at HC
      go_wp2_with fail
      refine HC.out.mono ?_
      rintro e w6 ⟨_, ⟨_, rfl, hi⟩ | ⟨x, t, v, hr, _⟩⟩
      case inr => cases hr
      have HI6 := Lib.hid hi
      clear hi HC HI5
      have HC := Lib.hid (inTexts_any w hB g _ w6 9 9 true HI6.out)
      simp only [if_true] at HC
      go_wp2_with fail
      refine HC.out.mono ?_
      rintro e w7 ⟨_, ⟨_, rfl, hi⟩ | ⟨x, t, v, hr, _⟩⟩
      case inr => cases hr
      have HI7 := Lib.hid hi
      clear hi HC HI6
      have HC := Lib.hid (inPrim_any w hB g _ w7 true HI7.out)
      simp only [if_true] at HC
      go_wp2_with fail
      refine HC.out.mono ?_
      rintro e w8 ⟨_, ⟨_, rfl, hi⟩ | ⟨x, t, hr, _⟩⟩
      case inr => cases hr
      have HI8 := Lib.hid hi
      clear hi HC HI7
      have HC := Lib.hid (primSame_any zeroC9 zeroC9 w8 (zeroC9_ok w8) (zeroC9_ok w8))
      rw [sameP_self] at HC
      unfold prV at HC ⊢
      dsimp only [zeroC9] at HC ⊢
      go_wp2_with fail
      refine HC.out.mono ?_
      rintro e w9 ⟨rfl, hl⟩
      have HI9 := Lib.hid (HI8.out.later hl)
      clear hl HC HI8
      have HC := Lib.hid (inPrims_bad w g _ w9 9 HI9.out)
      go_wp2_with fail
      refine HC.out.mono ?_
      rintro e w10 ⟨rfl, hi, _⟩
      have HI10 := Lib.hid hi
      clear hi HC HI9
      have HC := Lib.hid (inPatch_bad w g _ w10 HI10.out)
      go_wp2_with fail
      refine HC.out.mono ?_
      rintro e w11 ⟨rfl, hi, _⟩
      have HI11 := Lib.hid hi
      clear hi HC HI10
      have HC := Lib.hid (same7_any zeroN zeroN w11 (zeroN_ok w11) (zeroN_ok w11))
      rw [show sameN zeroN.v zeroN.v = true from sameN_iff.2 rfl] at HC
      unfold paV at HC ⊢
      dsimp only [zeroN, zeroPa] at HC ⊢
      go_wp2_with fail
      refine HC.out.mono ?_
      rintro e w12 ⟨rfl, hl⟩
      have HI12 := Lib.hid (HI11.out.later hl)
      clear hl HC HI11
      go_wp2
      go_roundg (n2 - (k + 1))
      case measure => omega
      case rel => exact ⟨k + 1, by omega, Nat.le_refl _, by go_num, HI12⟩
    · have HC := Lib.hid (HAL.out wr hin.out.base)
      go_wp2_with fail
      refine HC.out.mono ?_
      rintro e w4 ⟨rfl, hl⟩
      have HI4 := Lib.hid (hin.out.later hl)
      clear hl HC hin
      have HC := Lib.hid (left_any w g _ w4 true HI4.out)
      have HE : Hid (((120 :: bs).length : Int) = (n : Int) + 1) := by have h1 := HNE.out; have h2 := HX.out; show _ = _; omega
      rw [HE.out] at HC
      have hn3 := HN3.out
      clear HE
      go_wp2_with fail
      refine HC.out.mono ?_
      rintro e w99 ⟨rfl, e9⟩
      obtain rfl := e9.symm
      clear e9 HC
      have HC := Lib.hid (done_any w g _ w4 true HI4.out)
      go_wp2_with fail
      refine HC.out.mono ?_
      rintro e w99 ⟨rfl, e9⟩
      obtain rfl := e9.symm
      clear e9 HC
      go_wp2
      exact HRR.out _ _ ⟨rfl, HI4.out.base⟩

end Go.Proofs.YtfcdhpkikhkmiaaGreatDoor
