import Derived.Test.YtfcdhpkikhkmiaaGreatDoorPk9
import Derived.Test.YtfcdhpkikhkmiaaGreatDoorPk7
import Derived.Test.YtfcdhpkikhkmiaaGreatDoorPk3
import Derived.Test.YtfcdhpkikhkmiaaGreatDoorPk5
import Derived.Test.YtfcdhpkikhkmiaaGreatDoorPk2
import Derived.Test.YtfcdhpkikhkmiaaGreatDoorPk4
import Derived.Lib.SliceRun
import Derived.Deep.LoopGhost
import Derived.Deep.QuietTactic
import Derived.BigQuiet
import Derived.Lib.Hide
import Derived.Test.YtfcdhpkikhkmiaaGreatDoorPk8

/-
  The statements' own example (alive) of layer 9, as a call.
-/
namespace Go.Proofs.YtfcdhpkikhkmiaaGreatDoor
open Go.RowKit Go.Maps

section
variable {W w w' : World} {B g b : Nat} {bs : Bs} {cs : Array Value} {T : TypeId}
theorem OutAt.other (h : OutAt W B w g bs) (ht : Turned b w w') (hb : BoxAt w b cs T) (hT : T ≠ 27 ∧ T ≠ 5) (hW : W.heap.size ≤ b) : OutAt W B w' g bs := by
  obtain ⟨⟨v, h1, h2, h3⟩, hle, hbase, hlo, hg⟩ := h
  refine ⟨⟨v, h1.other ht (fun e => ?_), owns_turned h2 ht (owns_apart h2 hb hT.2), h3⟩, Nat.le_trans hle ht.size, hbase.turn ht hW, hlo, hg⟩
  subst e
  unfold BoxAt at hb h1
  rw [hb] at h1
  simp at h1
  exact hT.1 h1.2
theorem outAt_first (w : World) : OutAt w w.heap.size (w.alloc (.cells #[.slice none 0 0] 27)) w.heap.size [] :=
  ⟨⟨.slice none 0 0, BoxAt.made w _ _, World.ownsRow_nil _ _ _ _, by simp [Value.ownBlock]⟩, by rw [World.size_alloc]; omega, (Later.refl w).alloc _, Nat.le_refl _, Nat.le_refl _⟩
end
def aP : Pr := ⟨1, ⟨#[97]⟩, ⟨#[]⟩, 0, [], []⟩
def aC : PrC := ⟨aP, none, 0, 0, none, 0, 0⟩
theorem aC_ok (V : World) : PrOk V aC :=
  ⟨Row.none, Row.none, Nat.le_refl _, Nat.le_refl _, Nat.zero_le _, Nat.zero_le _, (by show (1 : Nat) ≤ maxLen; simp only [maxLen]; omega), (by show (0 : Nat) ≤ maxLen; omega), (by decide), (by decide), (fun s hs => by cases hs), (fun s hs => by cases hs)⟩
theorem aP_right : rightP aP = true := by decide
theorem a1 : numC (-7) = [45, 55, 59] := by
  unfold numC clampC Lib.itoa
  simp [Lib.decDigits_one]
theorem a2 : textC ⟨#[97, 98]⟩ = [50, 58, 97, 98, 44] := by
  unfold textC Lib.itoa
  simp [ByteArray.size, Lib.decDigits_one]
theorem a3 : flagC true = [49, 59] := by
  unfold flagC numC clampC Lib.itoa
  simp [Lib.decDigits_one]
theorem i0 : Lib.itoa 0 = [48] := by unfold Lib.itoa; simp [Lib.decDigits_one]
theorem i1 : Lib.itoa 1 = [49] := by unfold Lib.itoa; simp [Lib.decDigits_one]
theorem c0 : numC 0 = [48, 59] := by
  unfold numC
  rw [clamp_id (by decide) (by decide), i0]
  rfl
theorem c1 : numC 1 = [49, 59] := by
  unfold numC
  rw [clamp_id (by decide) (by decide), i1]
  rfl
theorem t0 : textC ⟨#[]⟩ = [48, 58, 44] := by
  show Lib.itoa 0 ++ _ = _
  rw [i0]
  rfl
theorem t1 : textC ⟨#[97]⟩ = [49, 58, 97, 44] := by
  show Lib.itoa 1 ++ _ = _
  rw [i1]
  rfl
theorem r0 : rowC textC [] = [48, 59] := by
  show numC 0 ++ _ = _
  rw [c0]
  rfl
theorem a4 : primC aP = [49, 59, 49, 58, 97, 44, 48, 58, 44, 48, 59, 48, 59, 48, 59] := by
  show numC 1 ++ (textC ⟨#[97]⟩ ++ (textC ⟨#[]⟩ ++ (numC 0 ++ (rowC textC [] ++ rowC textC [])))) = _
  rw [c1, t1, t0, c0, r0]
  rfl
theorem n1 : numR [45, 55, 59, 50, 58, 97, 98, 44, 49, 59, 49, 59, 49, 58, 97, 44, 48, 58, 44, 48, 59, 48, 59, 48, 59] = some (-7, [50, 58, 97, 98, 44, 49, 59, 49, 59, 49, 58, 97, 44, 48, 58, 44, 48, 59, 48, 59, 48, 59]) := by
  have h := numR_num (n := -7) (by decide) (by decide) [50, 58, 97, 98, 44, 49, 59, 49, 59, 49, 58, 97, 44, 48, 58, 44, 48, 59, 48, 59, 48, 59]
  rw [a1] at h
  exact h
theorem n2 : textR 5 [50, 58, 97, 98, 44, 49, 59, 49, 59, 49, 58, 97, 44, 48, 58, 44, 48, 59, 48, 59, 48, 59] = some (⟨#[97, 98]⟩, [49, 59, 49, 59, 49, 58, 97, 44, 48, 58, 44, 48, 59, 48, 59, 48, 59]) := by
  have h := textR_text (s := ⟨#[97, 98]⟩) (m := 5) (by decide) (by decide) [49, 59, 49, 59, 49, 58, 97, 44, 48, 58, 44, 48, 59, 48, 59, 48, 59]
  rw [a2] at h
  exact h
theorem n3 : flagR [49, 59, 49, 59, 49, 58, 97, 44, 48, 58, 44, 48, 59, 48, 59, 48, 59] = some (true, [49, 59, 49, 58, 97, 44, 48, 58, 44, 48, 59, 48, 59, 48, 59]) := by
  have h := flagR_flag true [49, 59, 49, 58, 97, 44, 48, 58, 44, 48, 59, 48, 59, 48, 59]
  rw [a3] at h
  exact h
theorem n4 : primR [49, 59, 49, 58, 97, 44, 48, 58, 44, 48, 59, 48, 59, 48, 59] = some (aP, []) := by
  have h := primR_prim (p := aP) aP_right ⟨by decide, by decide, by decide, by decide, (fun s hs => by cases hs), (fun s hs => by cases hs)⟩ []
  rw [a4] at h
  exact h
theorem aP_ok {B : Nat} {w : World} {x : PrC} (h : OwnP B w x) (hx : x.v = aP) (V : World) : PrOk V x := by
  obtain ⟨v, A, n, c, A2, m, d⟩ := x
  dsimp only at hx
  subst hx
  obtain ⟨e1, h1, _⟩ := owns_row h.old
  obtain ⟨e2, h2, _⟩ := owns_row h.new
  have k1 : n = 0 := e1
  have k2 : m = 0 := e2
  clear e1 e2
  subst k1 k2
  exact ⟨⟨rfl, fun h => absurd h (Nat.lt_irrefl 0)⟩, ⟨rfl, fun h => absurd h (Nat.lt_irrefl 0)⟩, h1, h2, Nat.zero_le _, Nat.zero_le _, (by show (1 : Nat) ≤ maxLen; simp only [maxLen]; omega), (by show (0 : Nat) ≤ maxLen; omega), (by show (-9223372036854775808 : Int) ≤ 0; decide), (by show (0 : Int) ≤ 9223372036854775807; decide), (fun s hs => by cases hs), (fun s hs => by cases hs)⟩

set_option maxRecDepth 100000 in
set_option maxHeartbeats 3200000 in
theorem alive9_any (w : World) (hB : Base w) : Calls Tryz.prog 10 #[] w (Says true w) := by
  suffices H : ∀ R : Ending → World → Prop, (∀ e w', Says true w e w' → R e w') → Calls Tryz.prog 10 #[] w R from H _ (fun _ _ h => h)
  intro R hR
  have HRR := Lib.hid hR
  have HO0 := Lib.hid (outAt_first w)
  have HC := Lib.hid (outNum_any w hB w.heap.size w.heap.size [] _ (-7) HO0.out (by decide) (by decide) (by decide))
  rw [a1] at HC
  clear hR
  go_enter Tryz.func10, Tryz.ntmps10
  go_wp2_with fail
  generalize w.alloc (.cells #[.slice none 0 0] 27) = w0 at *
  refine HC.out.mono ?_
  rintro e w1 ⟨rfl, ho, _⟩
  have HO1 : Hid (OutAt w w.heap.size w1 w.heap.size [45, 55, 59]) := ho
  clear ho HC HO0
  have HC := Lib.hid (outText_any w hB w.heap.size w.heap.size _ w1 ⟨#[97, 98]⟩ HO1.out (by decide) (by decide))
  rw [a2] at HC
  go_wp2_with fail
  refine HC.out.mono ?_
  rintro e w2 ⟨rfl, ho, _⟩
  have HO2 : Hid (OutAt w w.heap.size w2 w.heap.size [45, 55, 59, 50, 58, 97, 98, 44]) := ho
  clear ho HC HO1
  have HC := Lib.hid (outFlag_any w hB w.heap.size w.heap.size _ w2 true HO2.out (by decide))
  rw [a3] at HC
  go_wp2_with fail
  refine HC.out.mono ?_
  rintro e w3 ⟨rfl, ho, _⟩
  have HO3 : Hid (OutAt w w.heap.size w3 w.heap.size [45, 55, 59, 50, 58, 97, 98, 44, 49, 59]) := ho
  clear ho HC HO2
  have HC := Lib.hid (outPrim_any w hB w.heap.size w.heap.size _ w3 aC HO3.out (fun V _ => aC_ok V) (by decide) ⟨by decide, by decide, (fun s hs => by cases hs), (fun s hs => by cases hs)⟩ (by show (_ ++ primC aP).length ≤ _; rw [a4]; decide))
  rw [show primC aC.v = primC aP from rfl, a4] at HC
  unfold prV at HC
  dsimp only [aC, aP] at HC
  go_wp2_with fail
  refine HC.out.mono ?_
  rintro e w4 ⟨rfl, ho, _⟩
  have HO4 : Hid (OutAt w w.heap.size w4 w.heap.size [45, 55, 59, 50, 58, 97, 98, 44, 49, 59, 49, 59, 49, 58, 97, 44, 48, 58, 44, 48, 59, 48, 59, 48, 59]) := ho
  clear ho HC HO3
  have HC := Lib.hid (outBytes_any w w.heap.size w.heap.size _ w4 HO4.out (by decide))
  go_wp2_with fail
  refine HC.out.mono ?_
  rintro e w5 ⟨v, rfl, hv, hl5⟩
  obtain ⟨A, c, rfl, hc, hA, hbs, _⟩ := owns_bs hv
  have HO5 := Lib.hid (HO4.out.later hl5)
  have HC2 := Lib.hid (of_any w A _ c _ w5 hbs hA hc (by decide) HO5.out.base)
  clear hv hA hbs hc hl5 HC HO4
  go_wp2_with fail
  refine HC2.out.mono ?_
  rintro e w6 ⟨g, rfl, hi6, hl6⟩
  have HO6 := Lib.hid (HO5.out.later hl6); have HI6 := Lib.hid hi6
  clear hi6 hl6 HC2 HO5
  have HC := Lib.hid (inNum_any w hB g _ w6 false HI6.out)
  simp only [Bool.false_eq_true, if_false] at HC
  rw [n1] at HC
  go_wp2_with fail
  refine HC.out.mono ?_
  rintro e w7 ⟨ht, ⟨hn, _⟩ | ⟨x, t, v, hr, rfl, hv, hi⟩⟩
  · cases hn
  cases hr
  obtain rfl := hv
  obtain ⟨cs6, hb6⟩ := HI6.out.box
  have HO7 := Lib.hid (HO6.out.other ht hb6 ⟨by decide, by decide⟩ HI6.out.gnew); have HI7 := Lib.hid hi
  clear hi ht HC hb6 HO6 HI6
  have HC := Lib.hid (inText_any w hB g _ w7 5 false HI7.out)
  simp only [Bool.false_eq_true, if_false] at HC
  rw [n2] at HC
  go_wp2_with fail
  refine HC.out.mono ?_
  rintro e w8 ⟨ht, ⟨hn, _⟩ | ⟨x, t, v, hr, rfl, hv, hi⟩⟩
  · cases hn
  cases hr
  obtain rfl := hv
  obtain ⟨cs6, hb6⟩ := HI7.out.box
  have HO8 := Lib.hid (HO7.out.other ht hb6 ⟨by decide, by decide⟩ HI7.out.gnew); have HI8 := Lib.hid hi
  clear hi ht HC hb6 HO7 HI7
  have HC := Lib.hid (inFlag_any w hB g _ w8 false HI8.out)
  simp only [Bool.false_eq_true, if_false] at HC
  rw [n3] at HC
  go_wp2_with fail
  refine HC.out.mono ?_
  rintro e w9 ⟨ht, ⟨hn, _⟩ | ⟨x, t, v, hr, rfl, hv, hi⟩⟩
  · cases hn
  cases hr
  obtain rfl := hv
  obtain ⟨cs6, hb6⟩ := HI8.out.box
  have HO9 := Lib.hid (HO8.out.other ht hb6 ⟨by decide, by decide⟩ HI8.out.gnew); have HI9 := Lib.hid hi
  clear hi ht HC hb6 HO8 HI8
  have HC := Lib.hid (inPrim_any w hB g _ w9 false HI9.out)
  simp only [Bool.false_eq_true, if_false] at HC
  rw [n4] at HC
  go_wp2_with fail
  refine HC.out.mono ?_
  rintro e w10 ⟨ht, ⟨hn, _⟩ | ⟨x, t, hr, rfl, how, hi⟩⟩
  · cases hn
  have hx : x.v = aP := by injection hr with hr; injection hr with h1 h2; exact h1.symm
  have ht0 : t = [] := by injection hr with hr; injection hr with h1 h2; exact h2.symm
  subst ht0
  obtain ⟨cs6, hb6⟩ := HI9.out.box
  have HOK := Lib.hid (aP_ok how hx)
  have HSM : Hid (sameP x.v aP = true) := by show _ = _; rw [hx]; exact sameP_self _
  have hl11 : Later w10 (w10.alloc (.cells #[.int .i64 x.v.kind, .string x.v.name, .string x.v.to, .int .i64 x.v.place, .slice x.A x.n x.c, .slice x.B x.m x.d] 57)) := (Later.refl w10).alloc _
  have HO11 := Lib.hid ((HO9.out.other ht hb6 ⟨by decide, by decide⟩ HI9.out.gnew).later hl11)
  have HI11 := Lib.hid (hi.later hl11)
  have HX11 : Hid (BoxAt (w10.alloc (.cells #[.int .i64 x.v.kind, .string x.v.name, .string x.v.to, .int .i64 x.v.place, .slice x.A x.n x.c, .slice x.B x.m x.d] 57)) w10.heap.size (prL x).toArray 57) := BoxAt.made w10 (prL x).toArray 57
  clear hi ht HC hb6 HO9 HI9 how hx hr hl11
  have HC := Lib.hid (done_any w g [] _ false HI11.out)
  unfold prV
  go_wp2_with fail
  generalize w10.alloc (.cells #[.int .i64 x.v.kind, .string x.v.name, .string x.v.to, .int .i64 x.v.place, .slice x.A x.n x.c, .slice x.B x.m x.d] 57) = w11 at *
  refine HC.out.mono ?_
  rintro e w99 ⟨rfl, e9⟩
  obtain rfl := e9.symm
  clear e9 HC
  have HC := Lib.hid (outBytes_any w w.heap.size w.heap.size _ w11 HO11.out (by decide))
  go_wp2_with fail
  refine HC.out.mono ?_
  rintro e w12 ⟨v, rfl, hv, hl12⟩
  obtain ⟨A, c, rfl, hc, hA, hbs, _⟩ := owns_bs hv
  have hcv : (convert 25 9 (.slice A 25 c)).run Tryz.prog w12 = .ok (.string ⟨#[45, 55, 59, 50, 58, 97, 98, 44, 49, 59, 49, 59, 49, 58, 97, 44, 48, 58, 44, 48, 59, 48, 59, 48, 59]⟩) w12 := string_bytes w12 A _ c _ hbs
  have HI12 := Lib.hid (HI11.out.later hl12)
  have hx12 := HX11.out.later hl12
  have x0 := hx12.cell (i := 0) rfl; have x1 := hx12.cell (i := 1) rfl; have x2 := hx12.cell (i := 2) rfl; have x3 := hx12.cell (i := 3) rfl; have x4 := hx12.cell (i := 4) rfl; have x5 := hx12.cell (i := 5) rfl
  have HC2 := Lib.hid (primSame_any x aC w12 (HOK.out w12) (aC_ok w12))
  rw [show sameP x.v aC.v = true from HSM.out] at HC2
  unfold prV at HC2
  dsimp only [aC, aP] at HC2
  clear hv hA hbs hc hl12 HC HO11 HI11 HX11 hx12 HSM HOK
  go_wp2_with fail
  refine HC2.out.mono ?_
  rintro e w13 ⟨rfl, hl13⟩
  have HI13 := Lib.hid (HI12.out.later hl13)
  clear hl13 HC2 hcv x0 x1 x2 x3 x4 x5 HI12
  have HC := Lib.hid (left_any w g [] w13 false HI13.out)
  go_wp2_with fail
  refine HC.out.mono ?_
  rintro e w99 ⟨rfl, e9⟩
  obtain rfl := e9.symm
  clear e9 HC
  have HC := Lib.hid (inNum_any w hB g [] w13 false HI13.out)
  simp only [Bool.false_eq_true, if_false] at HC
  rw [show numR [] = none from rfl] at HC
  go_wp2_with fail
  refine HC.out.mono ?_
  rintro e w14 ⟨_, ⟨_, rfl, hi⟩ | ⟨x, t, v, hr, _⟩⟩
  · have HI14 := Lib.hid hi
    clear hi HC HI13
    have HC := Lib.hid (done_any w g [] w14 true HI14.out)
    go_wp2_with fail
    refine HC.out.mono ?_
    rintro e w99 ⟨rfl, e9⟩
    obtain rfl := e9.symm
    clear e9 HC
    go_wp2
    exact HRR.out _ _ ⟨rfl, HI14.out.base⟩
  · cases hr

end Go.Proofs.YtfcdhpkikhkmiaaGreatDoor

/-
  What slices.Clone, Equal, Index and Contains at rows of numbers come to, as calls.
-/
namespace Go.Proofs.YtfcdhpkikhkmiaaGreatDoor
open Go.RowKit Go.Maps

def RowI (w : World) (A : Option Addr) (n : Nat) (l : List Int) : Prop := RowK 1 w A n (l.map numL)
section
variable {w w' : World} {A : Option Addr} {n : Nat} {l : List Int}
theorem RowI.len (h : RowI w A n l) : l.length = n := by have := RowK.len h; simpa using this
theorem RowI.later (h : RowI w A n l) (hl : Later w w') : RowI w' A n l := RowK.later h hl
theorem RowI.get (h : RowI w A n l) {j : Nat} (hj : j < n) : ∃ b o, A = some ⟨b, o, none⟩ ∧ w.cell? ⟨b, o + j, none⟩ = some (.int .i64 (l.getD j 0)) := by
  obtain ⟨b, o, e, cs, hcs, _, hc⟩ := RowK.get h hj
  have hl : j < l.length := by rw [h.len]; exact hj
  have hz := List.getElem?_eq_getElem hl
  simp only [List.getElem?_map, hz, Option.map_some, Option.some.injEq] at hcs
  subst hcs
  have h0 := hc 0 _ rfl
  rw [Nat.mul_one, Nat.add_zero] at h0
  refine ⟨b, o, e, ?_⟩
  simp only [List.getD, hz, Option.getD_some]
  exact h0
theorem RowI.nil (h : RowI w none n l) : l = [] := by
  rcases Nat.eq_zero_or_pos n with h0 | h0
  · exact List.eq_nil_of_length_eq_zero (h.len.trans h0)
  · obtain ⟨_, _, e, _⟩ := RowK.get h h0; cases e
end
theorem takeI {xs ys : List Int} {k : Nat} (hx : k < xs.length) (hy : k < ys.length) (h : xs.take k = ys.take k) (e : xs.getD k 0 = ys.getD k 0) : xs.take (k + 1) = ys.take (k + 1) := by
  simp only [List.getD, List.getElem?_eq_getElem hx, List.getElem?_eq_getElem hy, Option.getD_some] at e
  rw [List.take_succ_eq_append_getElem hx, List.take_succ_eq_append_getElem hy, h, e]

set_option maxHeartbeats 400000 in
theorem equalI_any (A B : Option Addr) (n c m d : Nat) (xs ys : List Int) (w : World) (hx : RowI w A n xs) (hy : RowI w B m ys) (hn : n ≤ 65536) (hm : m ≤ 65536) :
    Calls Tryz.prog 83 #[.slice A n c, .slice B m d] w (Says (decide (xs = ys)) w) := by
  by_cases hnm : n = m
  · subst hnm
    have HX := Lib.hid hx; clear hx
    have HY := Lib.hid hy; clear hy
    go_enter Tryz.func83, Tryz.ntmps83
    go_wp2
    go_loopg [13] n (fun g s13 wr => ∃ k q : Nat, k ≤ n ∧ n - k ≤ g ∧ s13 = .int .i64 k ∧ wr = w.drewN q ∧ Hid (xs.take k = ys.take k))
    case atStart => exact ⟨0, 0, Nat.zero_le _, by omega, rfl, rfl, by simp [Hid]⟩
    case round =>
      obtain ⟨k, q, hk, hg, rfl, rfl, heq⟩ := hrel
      by_cases hlt : k < n
      · obtain ⟨b1, o1, rfl, g1⟩ := HX.out.get hlt
        obtain ⟨b2, o2, rfl, g2⟩ := HY.out.get hlt
        generalize hxk : xs.getD k 0 = x at g1
        generalize hyk : ys.getD k 0 = y at g2
        have X := Lib.hid hxk; clear hxk
        have Y := Lib.hid hyk; clear hyk
        by_cases hxy : x = y
        · subst hxy
          go_wp2_with fail
          go_quiet (fail)
          go_wp2
          go_roundg (n - (k + 1))
          case measure => omega
          case rel => exact ⟨k + 1, _, by omega, by omega, by go_num, rfl, takeI (by rw [HX.out.len]; exact hlt) (by rw [HY.out.len]; exact hlt) heq.out (X.out.trans Y.out.symm)⟩
        · go_wp2_with fail
          go_quiet (fail)
          go_wp2
          go_ret
          refine ⟨?_, ((Later.refl w).drewN _).drewN _⟩
          rw [decide_eq_false (fun e => hxy (by rw [← X.out, ← Y.out, e]))]
          rfl
      · have hkn : k = n := by omega
        have e : xs = ys := by
          rw [hkn, List.take_of_length_le (by rw [HX.out.len]; omega), List.take_of_length_le (by rw [HY.out.len]; omega)] at heq
          exact heq.out
        have E := Lib.hid e; clear e heq
        go_wp2
        go_ret
        exact ⟨by rw [decide_eq_true E.out]; rfl, (Later.refl w).drewN _⟩
  · have e : ¬ xs = ys := by
      intro h; rw [h] at hx; exact hnm (hx.len.symm.trans hy.len)
    have E := Lib.hid e; clear e hx hy
    have hnm' : ¬ (n : Int) = (m : Int) := by omega
    go_enter Tryz.func83, Tryz.ntmps83
    go_wp2
    go_ret
    exact ⟨by rw [decide_eq_false E.out]; rfl, Later.refl w⟩

theorem OwnK.empty {e : TypeId} {k : Nat} {w0 w : World} (h : Later w0 w) : OwnK e k w0 (w.alloc (.cells #[] e)) (.slice (some ⟨w.heap.size, 0, none⟩) 0 0) [] :=
  ⟨World.ownsRow_made w #[] 0 h.size (Nat.zero_le _) (by simp), (fun _ h => by cases h), h.alloc _⟩

end Go.Proofs.YtfcdhpkikhkmiaaGreatDoor

/-
  What named's numbers, with and dependsOn come to, as calls.
-/
namespace Go.Proofs.YtfcdhpkikhkmiaaGreatDoor
open Go.RowKit Go.Maps

section
variable {w w' : World} {g : Nat} {t : TypeId}
theorem BoxAt.set4 {x0 x1 x2 x3 : Value} (h : BoxAt w g #[x0, x1, x2, x3] t) (v0 v1 v2 v3 : Value) : BoxAt ((((w.setCell ⟨g, 0, none⟩ v0).setCell ⟨g, 1, none⟩ v1).setCell ⟨g, 2, none⟩ v2).setCell ⟨g, 3, none⟩ v3) g #[v0, v1, v2, v3] t :=
  (((h.set 0 v0).set 1 v1).set 2 v2).set 3 v3
theorem turned_set4 (w : World) (g : Nat) (v0 v1 v2 v3 : Value) : Turned g w ((((w.setCell ⟨g, 0, none⟩ v0).setCell ⟨g, 1, none⟩ v1).setCell ⟨g, 2, none⟩ v2).setCell ⟨g, 3, none⟩ v3) :=
  (((turned_set w g 0 v0).trans (turned_set _ g 1 v1)).trans (turned_set _ g 2 v2)).trans (turned_set _ g 3 v3)
theorem OwnK.other {e : TypeId} {k : Nat} {w0 : World} {v : Value} {css : List (List Value)} (h : OwnK e k w0 w v css) (hg : Turned g w w') (hv : v.ownBlock ≠ some g) (hl : Later w0 w') : OwnK e k w0 w' v css :=
  ⟨h.1.kept hg (by
    cases hb : v.ownBlock with
    | none => exact .inl rfl
    | some b => right; rw [hb] at hv; exact hv), h.2.1, hl⟩
theorem OwnK.base {e : TypeId} {k : Nat} {w0 w1 : World} {v : Value} {css : List (List Value)} (h : OwnK e k w0 w v css) (hl : Later w1 w0) : OwnK e k w1 w v css :=
  ⟨by
    refine ⟨h.1.1, ?_⟩
    rcases h.1.2 with h1 | ⟨g, cap, cur, h1, h2, h3⟩
    · exact .inl h1
    · exact .inr ⟨g, cap, cur, h1, Nat.le_trans hl.le h2, h3⟩, h.2.1, hl.trans h.2.2⟩
end

end Go.Proofs.YtfcdhpkikhkmiaaGreatDoor

/-
  An In's whole at patches, where it is spoiled.
-/
namespace Go.Proofs.YtfcdhpkikhkmiaaGreatDoor
open Go.RowKit Go.Maps

theorem Tryz.patchSize9 : (Tryz.prog.info? 66).map (·.size) = some 4 := by kernel_rfl
def GivesN9 (W : World) (g : Nat) (_ : Nat) (r : Option (Pa × Bs)) (s : Bs) (w : World) (e : Ending) (w' : World) : Prop :=
  Turned g w w' ∧ ((r = none ∧ e = .returned (paV zeroN) ∧ InAt W w' g s true) ∨ r ≠ none)

set_option maxRecDepth 100000 in
set_option maxHeartbeats 1600000 in
theorem wholePatchBad_any (W : World) (g : Nat) (s : Bs) (bad : Bool) (w : World) (f : Nat) (first captured : Array Value) (r : Option (Pa × Bs)) (B : Nat) (h : InAt W w g s bad) (hbad : bad = true) :
    Calls Tryz.prog 76 #[.pointer (some ⟨g, 0, none⟩), .func (.func f) first captured] w (GivesN9 W g B (if bad = true then none else r) s w) := by
  suffices H : ∀ R : Ending → World → Prop, (∀ e w', GivesN9 W g B (if bad = true then none else r) s w e w' → R e w') → Calls Tryz.prog 76 #[.pointer (some ⟨g, 0, none⟩), .func (.func f) first captured] w R from H _ (fun _ _ h => h)
  intro R hR
  have hl0 : Later w (w.alloc (.cells #[.int .i64 0, .string ⟨#[]⟩, .slice none 0 0, .slice none 0 0] 66)) := (Later.refl w).alloc _
  have HG : Hid (w.heap.size ≠ g) := by have := h.lt; show _ ≠ _; omega
  have HWW : Hid (W.heap.size ≤ w.heap.size) := h.base.le
  have HB0 : Hid (BoxAt (w.alloc (.cells #[.int .i64 0, .string ⟨#[]⟩, .slice none 0 0, .slice none 0 0] 66)) w.heap.size #[.int .i64 0, .string ⟨#[]⟩, .slice none 0 0, .slice none 0 0] 66) := BoxAt.made w _ _
  have h0 := h.later hl0
  have HH := Lib.hid h0
  have HT0 : Hid (Turned g w (w.alloc (.cells #[.int .i64 0, .string ⟨#[]⟩, .slice none 0 0, .slice none 0 0] 66))) := hl0.turned g
  have HL0 := Lib.hid hl0
  obtain ⟨A, c, q0, q1, _, _, _, _, fz⟩ := h0.cells
  have f0 := fz 0
  have f1 := fz 1
  clear fz h h0 hl0
  cases bad with
  | true =>
    have HRR := Lib.hid hR
    clear hR
    go_enter Tryz.func76, Tryz.ntmps76
    go_upto_region 1 with fail
    generalize w.alloc (.cells #[.int .i64 0, .string ⟨#[]⟩, .slice none 0 0, .slice none 0 0] 66) = w0 at *
    have HSP := Lib.hid (HH.out.spoil HH.out (Turned.refl _ _) q0)
    have HD3 := Lib.hid ((HB0.out.other (turned_set w0 g 0 (.slice A s.length c)) HG.out).other (turned_set _ g 1 (.bool true)) HG.out)
    go_upto_region 7 with fail
    generalize ((w0.setCell ⟨g, 0, none⟩ (.slice A s.length c)).setCell ⟨g, 1, none⟩ (.bool true)) = w3 at HSP HD3 ⊢
    have hl4 := (Later.refl w3).alloc (.cells #[.int .i64 0, .string ⟨#[]⟩, .slice none 0 0, .slice none 0 0] 66)
    have d1 := HD3.out.later hl4
    have HX4 : Hid (BoxAt (w3.alloc (.cells #[.int .i64 0, .string ⟨#[]⟩, .slice none 0 0, .slice none 0 0] 66)) w3.heap.size #[.int .i64 0, .string ⟨#[]⟩, .slice none 0 0, .slice none 0 0] 66) := BoxAt.made w3 _ _
    have HI4 := Lib.hid (HSP.out.2.later hl4)
    have HT4 := Lib.hid (HT0.out.trans (HSP.out.1.trans (hl4.turned g)))
    go_upto_region 8 with fail
    generalize w3.alloc (.cells #[.int .i64 0, .string ⟨#[]⟩, .slice none 0 0, .slice none 0 0] 66) = w4 at d1 HX4 HI4 HT4 ⊢
    have y0 := d1.cell (i := 0) rfl; have y1 := d1.cell (i := 1) rfl; have y2 := d1.cell (i := 2) rfl; have y3 := d1.cell (i := 3) rfl
    have z0 := d1.frozen 0; have z1 := d1.frozen 1; have z2 := d1.frozen 2; have z3 := d1.frozen 3
    have x0 := HX4.out.cell (i := 0) rfl; have x1 := HX4.out.cell (i := 1) rfl; have x2 := HX4.out.cell (i := 2) rfl; have x3 := HX4.out.cell (i := 3) rfl
    have HD := Lib.hid d1
    clear d1 hl4
    go_wp2
    have hset := turned_set4 w4 w.heap.size (.int .i64 0) (.string ⟨#[]⟩) (.slice none 0 0) (.slice none 0 0)
    refine bodyPost_ret (results_cell_row rfl _ _ w.heap.size 66 _ (0, 0) _ rfl (HD.out.set4 (.int .i64 0) (.string ⟨#[]⟩) (.slice none 0 0) (.slice none 0 0)) Tryz.underlying66 rfl Tryz.patchSize9) rfl ?_
    exact HRR.out _ _ ⟨HT4.out.fresh hset (Nat.le_refl _), .inl ⟨rfl, rfl, HI4.out.other hset HD.out ⟨by decide, by decide⟩ HWW.out⟩⟩
  | false => exact absurd hbad (by simp)

set_option maxRecDepth 100000 in
set_option maxHeartbeats 1600000 in
theorem inPatch_bad (W : World) (g : Nat) (s : Bs) (w : World) (h : InAt W w g s true) :
    Calls Tryz.prog 31 #[.pointer (some ⟨g, 0, none⟩)] w fun e w' => e = .returned (paV zeroN) ∧ InAt W w' g s true ∧ Turned g w w' := by
  have hl0 : Later w (w.alloc (.cells #[.int .i64 0, .string ⟨#[]⟩, .slice none 0 0, .slice none 0 0] 66)) := (Later.refl w).alloc _
  have HG : Hid (w.heap.size ≠ g) := by have := h.lt; show _ ≠ _; omega
  have HWW : Hid (W.heap.size ≤ w.heap.size) := h.base.le
  have HB0 : Hid (BoxAt (w.alloc (.cells #[.int .i64 0, .string ⟨#[]⟩, .slice none 0 0, .slice none 0 0] 66)) w.heap.size #[.int .i64 0, .string ⟨#[]⟩, .slice none 0 0, .slice none 0 0] 66) := BoxAt.made w _ _
  have HT0 : Hid (Turned g w (w.alloc (.cells #[.int .i64 0, .string ⟨#[]⟩, .slice none 0 0, .slice none 0 0] 66))) := hl0.turned g
  have HW := Lib.hid (wholePatchBad_any W g s true _ 77 #[.pointer (some ⟨g, 0, none⟩)] #[] none 0 (h.later hl0) rfl)
  clear h hl0
  go_enter Tryz.func31, Tryz.ntmps31
  go_wp2_with fail
  refine HW.out.mono ?_
  rintro e w1 ⟨ht, ⟨_, rfl, hi⟩ | hn⟩
  · have d1 := HB0.out.other ht HG.out
    have HD := Lib.hid d1
    have HI := Lib.hid hi
    have HT := Lib.hid (HT0.out.trans ht)
    have y0 := d1.cell (i := 0) rfl; have y1 := d1.cell (i := 1) rfl; have y2 := d1.cell (i := 2) rfl; have y3 := d1.cell (i := 3) rfl
    have z0 := d1.frozen 0; have z1 := d1.frozen 1; have z2 := d1.frozen 2; have z3 := d1.frozen 3
    clear d1 hi ht HW
    unfold paV zeroN zeroPa
    go_wp2
    have hset := turned_set4 w1 w.heap.size (.int .i64 0) (.string ⟨#[]⟩) (.slice none 0 0) (.slice none 0 0)
    refine bodyPost_ret (results_cell_row rfl _ _ w.heap.size 66 _ (0, 0) _ rfl (HD.out.set4 (.int .i64 0) (.string ⟨#[]⟩) (.slice none 0 0) (.slice none 0 0)) Tryz.underlying66 rfl Tryz.patchSize9) rfl ?_
    exact ⟨rfl, HI.out.other hset HD.out ⟨by decide, by decide⟩ HWW.out, HT.out.fresh hset (Nat.le_refl _)⟩
  · exact absurd rfl hn

end Go.Proofs.YtfcdhpkikhkmiaaGreatDoor

/-
  What is wrong with a number of a patch's dependences: the closure, and the functions that ask it, as calls.
-/
namespace Go.Proofs.YtfcdhpkikhkmiaaGreatDoor
open Go.RowKit Go.Maps

theorem RowI.off {w w' : World} {A : Option Addr} {n g : Nat} {l : List Int} (h : RowI w A n l) (hg : Turned g w w') (ho : l ≠ [] → Off g (.slice A n n)) : RowI w' A n l := RowK.offK (c := n) h hg (fun e => ho (map_ne e))

end Go.Proofs.YtfcdhpkikhkmiaaGreatDoor

/-
  What seq's Same comes to, as a call.
-/
namespace Go.Proofs.YtfcdhpkikhkmiaaGreatDoor
open Go.RowKit Go.Maps

set_option maxRecDepth 100000 in
set_option maxHeartbeats 1600000 in
theorem equalP_any (A B : Option Addr) (n c m d : Nat) (xs ys : List PrC) (w : World) (hx : PsOk w A n xs) (hy : PsOk w B m ys) (hn : n ≤ 65536) (hm : m ≤ 65536) :
    Calls Tryz.prog 100 #[.slice A n c, .slice B m d, .func (.func 39) #[] #[]] w (Says (sameS (valsP xs) (valsP ys)) w) := by
  have HX := Lib.hid hx; have HY := Lib.hid hy; clear hx hy
  by_cases hnm : n = m
  case neg =>
    have HE : Hid (sameS (valsP xs) (valsP ys) = false) := sameS_length (by rw [valsP_length, valsP_length, HX.out.len, HY.out.len]; exact hnm)
    rw [HE.out]
    have hne : ((n : Int) == (m : Int)) = false := by rw [beq_eq_false_iff_ne]; omega
    go_enter Tryz.func100, Tryz.ntmps100
    go_wp2
    go_ret
    exact ⟨rfl, Later.refl w⟩
  subst hnm
  go_enter Tryz.func100, Tryz.ntmps100
  go_wp2
  go_loopg [17] (n + 1) (fun g s7 wr => ∃ k : Nat, k ≤ n ∧ n - k ≤ g ∧ s7 = .int .i64 k ∧ Hid (∀ j (p q : Pr), j < k → (valsP xs)[j]? = some p → (valsP ys)[j]? = some q → sameP p q = true) ∧ Hid (Later w wr))
  case atStart => exact ⟨0, Nat.zero_le _, by omega, rfl, fun j p q hj => by omega, Later.refl w⟩
  case round =>
    obtain ⟨k, hk, hg, rfl, hall, hwr⟩ := hrel
    by_cases hlt : k < n
    · obtain ⟨b, o, x, rfl, hz, hok, g0, g1, g2, g3, g4, g5⟩ := (HX.out.later hwr.out).get hlt
      obtain ⟨b', o', y, rfl, hz', hok', k0, k1, k2, k3, k4, k5⟩ := (HY.out.later hwr.out).get hlt
      have HLB : Hid (Later wr ((wr.alloc (.cells #[.int .i64 x.v.kind, .string x.v.name, .string x.v.to, .int .i64 x.v.place, .slice x.A x.n x.c, .slice x.B x.m x.d] 57)).alloc (.cells #[.int .i64 y.v.kind, .string y.v.name, .string y.v.to, .int .i64 y.v.place, .slice y.A y.n y.c, .slice y.B y.m y.d] 57))) := ((Later.refl wr).alloc _).alloc _
      have HAT := Lib.hid (valsP_at hz); have HAT' := Lib.hid (valsP_at hz')
      have HR := Lib.hid (primSame_any x y _ (hok.later HLB.out) (hok'.later HLB.out))
      clear hok hok' hz hz'
      have HL1 : Later wr (wr.alloc (.cells #[.int .i64 x.v.kind, .string x.v.name, .string x.v.to, .int .i64 x.v.place, .slice x.A x.n x.c, .slice x.B x.m x.d] 57)) := (Later.refl wr).alloc _
      have q0 := HL1.cell k0; have q1 := HL1.cell k1; have q2 := HL1.cell k2; have q3 := HL1.cell k3; have q4 := HL1.cell k4; have q5 := HL1.cell k5
      clear HL1 k0 k1 k2 k3 k4 k5
      unfold prV at HR
      cases hr : sameP x.v y.v
      · rw [hr] at HR
        have HNO : Hid (sameS (valsP xs) (valsP ys) = false) := sameS_at HAT.out HAT'.out hr
        rw [HNO.out]
        clear hr
        go_wp2_with fail
        refine HR.out.mono ?_
        rintro e w2 ⟨rfl, hl2⟩
        have HL2 := Lib.hid hl2
        clear hl2 HR
        go_wp2
        go_ret
        exact ⟨rfl, (hwr.out.trans HLB.out).trans HL2.out⟩
      · rw [hr] at HR
        have HNX : Hid (∀ j (p q : Pr), j < k + 1 → (valsP xs)[j]? = some p → (valsP ys)[j]? = some q → sameP p q = true) := fun j p q hj h1 h2 => by
          by_cases e : j = k
          · subst e
            rw [HAT.out] at h1; rw [HAT'.out] at h2
            cases h1; cases h2
            exact hr
          · exact hall.out j p q (by omega) h1 h2
        clear hr
        go_wp2_with fail
        refine HR.out.mono ?_
        rintro e w2 ⟨rfl, hl2⟩
        have HL2 := Lib.hid hl2
        clear hl2 HR
        go_wp2
        go_roundg (n - (k + 1))
        case measure => omega
        case rel => exact ⟨k + 1, by omega, Nat.le_refl _, by go_num, HNX, (hwr.out.trans HLB.out).trans HL2.out⟩
    · have HE : Hid (sameS (valsP xs) (valsP ys) = true) := sameS_all (by rw [valsP_length, valsP_length, HX.out.len, HY.out.len]) fun j p q h1 h2 => hall.out j p q (by
        have := (List.getElem?_eq_some_iff.1 h1).1
        rw [valsP_length, HX.out.len] at this
        omega) h1 h2
      go_wp2
      go_ret
      exact ⟨by rw [HE.out]; rfl, hwr.out⟩

set_option maxRecDepth 100000 in
set_option maxHeartbeats 400000 in
theorem seqSame_any (A B : Option Addr) (n c m d : Nat) (xs ys : List PrC) (w : World) (hx : PsOk w A n xs) (hy : PsOk w B m ys) (hn : n ≤ 65536) (hm : m ≤ 65536) :
    Calls Tryz.prog 84 #[.slice A n c, .slice B m d] w (Says (sameS (valsP xs) (valsP ys)) w) := by
  have H := Lib.hid (equalP_any A B n c m d xs ys w hx hy hn hm)
  clear hx hy
  go_enter Tryz.func84, Tryz.ntmps84
  go_wp2_with fail
  refine H.out.mono ?_
  rintro e w1 ⟨rfl, hl⟩
  have HL := Lib.hid hl
  clear hl H
  go_wp2
  go_ret
  exact ⟨rfl, HL.out⟩

end Go.Proofs.YtfcdhpkikhkmiaaGreatDoor

/-
  What named's Same comes to, as a call.
-/
namespace Go.Proofs.YtfcdhpkikhkmiaaGreatDoor
open Go.RowKit Go.Maps

theorem sameN_parts (p q : Pa) : sameN p q = (decide (p.id = q.id) && (decide (p.note = q.note) && (decide (p.deps = q.deps) && sameS p.l q.l))) := by
  obtain ⟨i, n, d, l⟩ := p
  obtain ⟨i', n', d', l'⟩ := q
  rw [Bool.eq_iff_iff, sameN_iff]
  simp only [Bool.and_eq_true, decide_eq_true_eq, sameS_iff, Pa.mk.injEq]
set_option maxRecDepth 100000 in
set_option maxHeartbeats 800000 in
theorem same7_any (x y : PaC) (w : World) (hx : PaOk w x) (hy : PaOk w y) : Calls Tryz.prog 40 #[paV x, paV y] w (Says (sameN x.v y.v) w) := by
  have HS : Hid (∀ w', Later w w' → Calls Tryz.prog 84 #[.slice x.L x.nl x.cl, .slice y.L y.nl y.cl] w' (Says (sameS x.v.l y.v.l) w')) := fun w' hl => by
    rw [← hx.is, ← hy.is]
    exact seqSame_any x.L y.L x.nl x.cl y.nl y.cl x.xs y.xs w' (hx.row.later hl) (hy.row.later hl) (by have := hx.lmost; omega) (by have := hy.lmost; omega)
  have HE : Hid (∀ w', Later w w' → Calls Tryz.prog 83 #[.slice x.D x.nd x.cd, .slice y.D y.nd y.cd] w' (Says (decide (x.v.deps = y.v.deps)) w')) := fun w' hl =>
    equalI_any x.D y.D x.nd x.cd y.nd y.cd x.v.deps y.v.deps _ (RowK.later hx.deps hl) (RowK.later hy.deps hl) hx.dmost hy.dmost
  clear hx hy
  rw [sameN_parts]
  obtain ⟨⟨id, nt, deps, l⟩, D, nd, cd, L, nl, cl, xs⟩ := x
  obtain ⟨⟨id', nt', deps', l'⟩, D', nd', cd', L', nl', cl', ys⟩ := y
  dsimp only at HS HE ⊢
  unfold paV
  dsimp only
  by_cases h1 : id = id'
  · subst h1
    by_cases h2 : nt = nt'
    · subst h2
      rw [decide_eq_true (rfl : id = id), decide_eq_true (rfl : nt = nt), Bool.true_and, Bool.true_and]
      have HLB : Hid (Later w ((w.alloc (.cells #[.int .i64 id, .string nt, .slice D nd cd, .slice L nl cl] 66)).alloc (.cells #[.int .i64 id, .string nt, .slice D' nd' cd', .slice L' nl' cl'] 66))) := ((Later.refl w).alloc _).alloc _
      have HBX : Hid (BoxAt ((w.alloc (.cells #[.int .i64 id, .string nt, .slice D nd cd, .slice L nl cl] 66)).alloc (.cells #[.int .i64 id, .string nt, .slice D' nd' cd', .slice L' nl' cl'] 66)) w.heap.size #[.int .i64 id, .string nt, .slice D nd cd, .slice L nl cl] 66) := (BoxAt.made w _ _).alloc _
      have HBY : Hid (BoxAt ((w.alloc (.cells #[.int .i64 id, .string nt, .slice D nd cd, .slice L nl cl] 66)).alloc (.cells #[.int .i64 id, .string nt, .slice D' nd' cd', .slice L' nl' cl'] 66)) (w.heap.size + 1) #[.int .i64 id, .string nt, .slice D' nd' cd', .slice L' nl' cl'] 66) := by
        have := BoxAt.made (w.alloc (.cells #[.int .i64 id, .string nt, .slice D nd cd, .slice L nl cl] 66)) #[.int .i64 id, .string nt, .slice D' nd' cd', .slice L' nl' cl'] 66
        rw [World.size_alloc] at this
        exact this
      have HE1 := Lib.hid (HE.out _ HLB.out)
      generalize decide (deps = deps') = dd at HE1 ⊢
      generalize sameS l l' = b at HS ⊢
      generalize hRR : (dd && b) = r
      have HRR := Lib.hid hRR
      clear hRR HE
      go_enter Tryz.func40, Tryz.ntmps40
      go_wp2_with fail
      refine HE1.out.mono ?_
      rintro e w3 ⟨rfl, hl3⟩
      have HL3 := Lib.hid (HLB.out.trans hl3)
      have q0 : w3.cell? ⟨w.heap.size, 3, none⟩ = some (.slice L nl cl) := (HBX.out.later hl3).cell rfl
      have q1 : w3.cell? ⟨w.heap.size + 1, 3, none⟩ = some (.slice L' nl' cl') := (HBY.out.later hl3).cell rfl
      clear hl3 HE1 HBX HBY
      cases dd with
      | false =>
        go_wp2
        go_ret
        exact ⟨by rw [← HRR.out]; rfl, HL3.out⟩
      | true =>
        have HS3 := Lib.hid (HS.out w3 HL3.out)
        clear HS
        go_wp2_with fail
        refine HS3.out.mono ?_
        rintro e w4 ⟨rfl, hl4⟩
        have HL4 := Lib.hid (HL3.out.trans hl4)
        clear hl4 HS3
        go_wp2
        go_ret
        exact ⟨by rw [← HRR.out]; rfl, HL4.out⟩
    · rw [decide_eq_false h2, Bool.false_and, Bool.and_false]
      have t1 := text_ne h2
      go_enter Tryz.func40, Tryz.ntmps40
      go_wp2
      go_ret
      exact ⟨rfl, ((Later.refl w).alloc _).alloc _⟩
  · rw [decide_eq_false h1, Bool.false_and]
    go_enter Tryz.func40, Tryz.ntmps40
    go_wp2
    go_ret
    exact ⟨rfl, ((Later.refl w).alloc _).alloc _⟩

end Go.Proofs.YtfcdhpkikhkmiaaGreatDoor
