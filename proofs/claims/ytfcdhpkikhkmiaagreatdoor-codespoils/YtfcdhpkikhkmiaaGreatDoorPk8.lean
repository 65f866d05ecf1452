import Derived.Test.YtfcdhpkikhkmiaaGreatDoorPk7
import Derived.Test.YtfcdhpkikhkmiaaGreatDoorPk2
import Derived.Deep.LoopGhost
import Derived.Deep.QuietTactic
import Derived.BigQuiet
import Derived.Test.YtfcdhpkikhkmiaaGreatDoorPk6
import Derived.Test.YtfcdhpkikhkmiaaGreatDoorPk3

/-
  What six reads come to, as plain values. Nothing of any program.
-/
namespace Go.Proofs.YtfcdhpkikhkmiaaGreatDoor
open Go.RowKit Go.Maps

def Got {α : Type} (r : Option (α × Bs)) (bad : Bool) (x : α) (t : Bs) : Prop := (bad = true ∧ r = none) ∨ (bad = false ∧ r = some (x, t))
theorem Got.bad {α : Type} {r : Option (α × Bs)} {b0 bad : Bool} {x : α} {t : Bs} (h : Got (if b0 = true then none else r) bad x t) (hb : bad = false) : b0 = false ∧ r = some (x, t) := by
  rcases h with ⟨h1, _⟩ | ⟨_, h2⟩
  · rw [hb] at h1; cases h1
  · cases b0
    · exact ⟨rfl, h2⟩
    · cases h2
theorem Got.none {α : Type} {r : Option (α × Bs)} {b0 bad : Bool} {x : α} {t : Bs} (h : Got (if b0 = true then none else r) bad x t) (hb : bad = true) : b0 = true ∨ r = none := by
  rcases h with ⟨_, h2⟩ | ⟨h1, _⟩
  · cases b0
    · exact .inr h2
    · exact .inl rfl
  · rw [hb] at h1; cases h1
section
variable {s t1 t2 t3 t4 t5 t6 : Bs} {b1 b2 b3 b4 b5 b6 : Bool} {k c : Int} {a b : ByteArray} {d e : List ByteArray}
theorem prim_got (g1 : Got (numR s) b1 k t1) (g2 : Got (if b1 = true then none else textF t1) b2 a t2) (g3 : Got (if b2 = true then none else textF t2) b3 b t3) (g4 : Got (if b3 = true then none else numR t3) b4 c t4) (g5 : Got (if b4 = true then none else textsF t4) b5 d t5) (g6 : Got (if b5 = true then none else textsF t5) b6 e t6) :
    (b6 = false ∧ rightP ⟨k, a, b, c, d, e⟩ = true ∧ primR s = some (⟨k, a, b, c, d, e⟩, t6)) ∨ ((rightP ⟨k, a, b, c, d, e⟩ && !b6) = false ∧ primR s = none) := by
  have g1' : Got (if false = true then none else numR s) b1 k t1 := g1
  cases h6 : b6 with
  | false =>
    obtain ⟨e5, r6⟩ := g6.bad h6
    obtain ⟨e4, r5⟩ := g5.bad e5
    obtain ⟨e3, r4⟩ := g4.bad e4
    obtain ⟨e2, r3⟩ := g3.bad e3
    obtain ⟨e1, r2⟩ := g2.bad e2
    obtain ⟨_, r1⟩ := g1'.bad e1
    unfold primR
    simp only [r1, r2, r3, r4, r5, r6, Option.bind_some]
    cases hr : rightP ⟨k, a, b, c, d, e⟩ with
    | true => exact .inl ⟨by simp, by simp, by simp⟩
    | false => exact .inr ⟨by simp, by simp⟩
  | true =>
    refine .inr ⟨by simp, ?_⟩
    unfold primR
    cases e1 : b1 with
    | true =>
      rcases g1'.none e1 with h | h
      · cases h
      · rw [h]; rfl
    | false =>
    obtain ⟨_, r1⟩ := g1'.bad e1
    rw [r1, Option.bind_some]
    cases e2 : b2 with
    | true =>
      rcases g2.none e2 with h | h
      · rw [h] at e1; cases e1
      · rw [h]; rfl
    | false =>
    obtain ⟨_, r2⟩ := g2.bad e2
    rw [r2, Option.bind_some]
    cases e3 : b3 with
    | true =>
      rcases g3.none e3 with h | h
      · rw [h] at e2; cases e2
      · rw [h]; rfl
    | false =>
    obtain ⟨_, r3⟩ := g3.bad e3
    rw [r3, Option.bind_some]
    cases e4 : b4 with
    | true =>
      rcases g4.none e4 with h | h
      · rw [h] at e3; cases e3
      · rw [h]; rfl
    | false =>
    obtain ⟨_, r4⟩ := g4.bad e4
    rw [r4, Option.bind_some]
    cases e5 : b5 with
    | true =>
      rcases g5.none e5 with h | h
      · rw [h] at e4; cases e4
      · rw [h]; rfl
    | false =>
    obtain ⟨_, r5⟩ := g5.bad e5
    rw [r5, Option.bind_some]
    rcases g6.none h6 with h | h
    · rw [h] at e5; cases e5
    · rw [h]; rfl
end
theorem textsR_many {m e : Int} {z r : Bs} {l : List ByteArray} (h : textsR m e z = some (l, r)) : 3 * l.length ≤ z.length := by
  have h1 := (textsR_some h).1
  have h2 : 3 * l.length ≤ (l.flatMap textC).length := by
    clear h h1
    induction l with
    | nil => simp
    | cons x l ih =>
      rw [List.flatMap_cons, List.length_append, textC_length, List.length_cons]
      have h3 : 1 ≤ (Lib.itoa (x.size : Nat)).length := by
        unfold Lib.itoa
        split
        · simp
        · rw [Lib.decDigits_length]; exact Lib.nDigits_pos _
      omega
  rw [h1]
  unfold rowC
  simp only [List.length_append]
  omega

end Go.Proofs.YtfcdhpkikhkmiaaGreatDoor

/-
  Rows of texts that are read: readRow at strings, and an In's Texts, as calls.
-/
namespace Go.Proofs.YtfcdhpkikhkmiaaGreatDoor
open Go.RowKit Go.Maps

set_option maxRecDepth 100000 in
set_option maxHeartbeats 1600000 in
theorem rowText1_any (W : World) (hB : Base W) (g : Nat) (s : Bs) (w : World) (most each : Int) (bi bm bf : Nat) (h : InAt W w g s false)
    (hbi : w.cell? ⟨bi, 0, none⟩ = some (.pointer (some ⟨g, 0, none⟩))) (hbm : w.cell? ⟨bm, 0, none⟩ = some (.int .i64 most)) (hbf : w.cell? ⟨bf, 0, none⟩ = some (.func (.func 72) #[.agg #[.pointer (some ⟨g, 0, none⟩), .int .i64 each]] #[])) (hi : bi ≠ g) (hm : bm ≠ g) (hf : bf ≠ g) :
    Calls Tryz.prog 92 (#[] ++ #[.pointer (some ⟨bi, 0, none⟩), .pointer (some ⟨bm, 0, none⟩), .pointer (some ⟨bf, 0, none⟩)]) w (ReadsV W g (vT w.heap.size) (rowR most (textR each) s) w) := by
  show Calls Tryz.prog 92 #[.pointer (some ⟨bi, 0, none⟩), .pointer (some ⟨bm, 0, none⟩), .pointer (some ⟨bf, 0, none⟩)] w _
  have HD := Lib.hid (inNum_any W hB g s w false h)
  simp only [Bool.false_eq_true, if_false] at HD
  have hsz : W.heap.size ≤ w.heap.size := h.base.le
  have HF := Lib.hid (fun n t (e : numR s = some (n, t)) => (numR_some e).2)
  unfold rowR
  clear h
  generalize numR s = d at HD HF
  have HBI := Lib.hid (show ∀ V, Turned g w V → V.cell? ⟨bi, 0, none⟩ = some (.pointer (some ⟨g, 0, none⟩)) from fun V hV => hV.cell hbi hi)
  have HBM := Lib.hid (show ∀ V, Turned g w V → V.cell? ⟨bm, 0, none⟩ = some (.int .i64 most) from fun V hV => hV.cell hbm hm)
  have HBF := Lib.hid (show ∀ V, Turned g w V → V.cell? ⟨bf, 0, none⟩ = some (.func (.func 72) #[.agg #[.pointer (some ⟨g, 0, none⟩), .int .i64 each]] #[]) from fun V hV => hV.cell hbf hf)
  have et : ∀ args w, (callFunc 72 args).run Tryz.prog w = .ok (.enter 72 args) w := enters_of Tryz.func72 (by kernel_rfl) rfl
  obtain ⟨i0, hi0, hz0, hs0, hy0⟩ := info_parts Tryz.textInfo
  clear hi hm hf hbm hbf
  go_enter Tryz.func92, Tryz.ntmps92
  go_wp2_with fail
  refine HD.out.mono ?_
  rintro e w1 ⟨ht, hc⟩
  have HT := Lib.hid ht
  have b1 := HBI.out w1 ht
  have b2 := HBM.out w1 ht
  clear ht HD hbi
  rcases hc with ⟨hd, rfl, hi⟩ | ⟨n, t, v, hd, rfl, rfl, hi⟩
  · have HI := Lib.hid hi; have HX := Lib.hid hd
    clear hi hd
    by_cases h0 : (0 : Int) > most
    · have e0 : decide (most < (0 : Int)) = true := by simpa using h0
      clear h0
      go_wp2
      go_ret2
      exact ⟨HT.out, _, false, s, true, rfl, HI.out, .inr ⟨by rw [HX.out]; rfl, rfl⟩⟩
    · have e0 : decide (most < (0 : Int)) = false := by simpa using h0
      clear h0
      go_wp2
      go_loopg [6, 17] 1 (fun _ s6 s17 wr => s6 = .slice none 0 0 ∧ s17 = .int .i64 0 ∧ wr = w1)
      case atStart => exact ⟨rfl, rfl, rfl⟩
      case round =>
        obtain ⟨rfl, rfl, rfl⟩ := hrel
        go_wp2
        go_ret2
        exact ⟨HT.out, _, true, s, true, rfl, HI.out, .inr ⟨by rw [HX.out]; rfl, rfl⟩⟩
  · have HX := Lib.hid hd
    have HI := Lib.hid hi
    have HM := Lib.hid hi.most
    clear hi hd
    by_cases h0 : n < 0
    · have HH : Hid (¬ (0 ≤ n ∧ n ≤ most)) := fun h => by omega
      have e0 : decide (n < (0 : Int)) = true := by simpa using h0
      clear h0
      go_wp2
      go_ret2
      exact ⟨HT.out, _, false, t, false, rfl, HI.out, .inr ⟨by rw [HX.out, Option.bind_some, if_neg HH.out], rfl⟩⟩
    by_cases h1 : n > most
    · have HH : Hid (¬ (0 ≤ n ∧ n ≤ most)) := fun h => by omega
      have e0 : decide (n < (0 : Int)) = false := by simpa using h0
      have e1 : decide (most < n) = true := by simpa using h1
      clear h0 h1
      go_wp2
      go_ret2
      exact ⟨HT.out, _, false, t, false, rfl, HI.out, .inr ⟨by rw [HX.out, Option.bind_some, if_neg HH.out], rfl⟩⟩
    obtain ⟨N, rfl⟩ := Int.eq_ofNat_of_zero_le (show 0 ≤ n by omega)
    have HH : Hid (0 ≤ (N : Int) ∧ (N : Int) ≤ most) := ⟨by omega, by omega⟩
    have hN : (N : Int) ≤ 1099511627776 := (HF.out _ _ HX.out).2
    have e0 : decide ((N : Int) < (0 : Int)) = false := by simp
    have e1 : decide (most < (N : Int)) = false := by simpa using h1
    have HXX : Hid ((d.bind fun p => if 0 ≤ p.1 ∧ p.1 ≤ most then manyR (textR each) p.1.toNat p.2 else none) = manyR (textR each) N t) := by
      show _ = _
      rw [HX.out, Option.bind_some, if_pos HH.out, Int.toNat_natCast]
    clear h0 h1
    have HV0 : Hid (vT w.heap.size [] w1 (.slice none 0 0)) := World.ownsRow_nil _ _ _ _
    have HM0 : Hid (manyR (textR each) 0 t = some ([], t)) := rfl
    have HE : Hid (N ≤ 1099511627776) := by show _ ≤ _; omega
    go_wp2
    clear b1 b2
    go_loopg [6, 17] (N + 1) (fun g0 s6 s17 wr => ∃ (k : Nat) (ss : List ByteArray) (tk : Bs), k ≤ N ∧ N - k ≤ g0 ∧ s17 = .int .i64 k ∧ Hid (manyR (textR each) k t = some (ss, tk)) ∧ Hid (InAt W wr g tk false) ∧ Hid (vT w.heap.size ss wr s6) ∧ Hid (Turned g w wr))
    case atStart => exact ⟨0, [], t, Nat.zero_le _, by omega, rfl, HM0, HI, HV0, HT⟩
    case round =>
      obtain ⟨k, ss, tk, hk, hg, rfl, hmany, hin, hv, htn⟩ := hrel
      by_cases hlt : k < N
      · have b3 := HBF.out wr htn.out
        have HC := Lib.hid (limText_any W hB g tk wr each false hin.out)
        simp only [Bool.false_eq_true, if_false] at HC
        clear hN
        go_wp2_with fail
        refine HC.out.mono ?_
        rintro e w2 ⟨ht2, hc2⟩
        obtain ⟨x, tk2, bd, rfl, hi2, hcase⟩ : ∃ (x : ByteArray) (tk2 : Bs) (bd : Bool), e = .returned (.string x) ∧ InAt W w2 g tk2 bd ∧ ((bd = true ∧ (textR each) tk = none) ∨ (bd = false ∧ (textR each) tk = some (x, tk2))) := by
          rcases hc2 with ⟨hr, rfl, hi⟩ | ⟨x, t2, v, hr, rfl, rfl, hi⟩
          · exact ⟨ByteArray.empty, tk, true, rfl, hi, .inl ⟨rfl, hr⟩⟩
          · exact ⟨x, t2, false, rfl, hi, .inr ⟨rfl, hr⟩⟩
        have hlk := manyR_short (fun _ _ _ h => textR_left h) hmany.out
        have HL := Lib.hid hlk
        have hmt := HM.out
        obtain ⟨cs0, hbox⟩ := hin.out.box
        have HVA : Hid ((w2.alloc (.cells #[Value.string x] 9)).ownsRow w.heap.size 9 1 u6 ss.length (ss.map Value.string)) := (owns_turned hv.out ht2 (owns_apart hv.out hbox (by decide))).alloc _
        have HIA := Lib.hid (hi2.later ((Later.refl w2).alloc (.cells #[Value.string x] 9)))
        have HTA := Lib.hid ((htn.out.trans ht2).trans (((Later.refl w2).alloc (.cells #[Value.string x] 9)).turned g))
        have hsa : w.heap.size ≤ (w2.alloc (.cells #[Value.string x] 9)).heap.size := HTA.out.size
        have HM1 : Hid ((ss.length + 1) * 16 ≤ 140737488355328) := by show _ ≤ _; omega
        have HM2 : Hid (ss.length + 1 ≤ maxLen) := by show _ ≤ maxLen; simp only [maxLen]; omega
        have HCL : Hid ((w2.alloc (.cells #[Value.string x] 9)).cell? ⟨w2.heap.size, 0, none⟩ = some (Value.string x)) := (BoxAt.made w2 #[Value.string x] 9).cell (i := 0) rfl
        clear hc2 ht2 hi2 hv htn hin hlk hmt b3 hbox HC
        go_wp2_with (at_builtin; refine wpList_append_own _ rfl _ _ 28 rfl w.heap.size 9 i0 (.string ByteArray.empty) 1 16 Tryz.underlying28 hi0 hz0 hs0 hy0 rfl (by decide) _ _ _ rfl HVA.out _ 1 1 [Value.string x] rfl rfl ?_ ?_ HM2.out HM1.out hsa ?_)
        · intro j u hj
          match j, hj with
          | 0, hj => simp only [List.getElem?_cons_zero, Option.some.injEq] at hj; subst hj; exact HCL.out
          | j + 1, hj => simp at hj
        · intro u hu
          simp at hu
          subst hu
          rfl
        · intro v3 w3 hown3 hgrow _
          have HV3 : Hid (vT w.heap.size (ss ++ [x]) w3 v3) := by
            show w3.ownsRow _ _ _ _ _ _
            rw [List.length_append, List.map_append]
            exact hown3
          have hi3 := HIA.out.grown hgrow HVA.out ⟨by decide, by decide⟩ hsz
          have HI3 := Lib.hid hi3
          have HT3 := Lib.hid (turned_grown HTA.out hgrow (owns_block HVA.out))
          have b1 := HBI.out w3 HT3.out
          obtain ⟨A3, c3, p0, p1, _⟩ := hi3.cells
          clear hown3 hgrow hi3 HVA HIA HTA HCL hsa
          rcases hcase with ⟨rfl, hr⟩ | ⟨rfl, hr⟩
          · have HZ : Hid (manyR (textR each) N t = none) := by
              have h1 := manyR_succ hmany.out
              rw [hr] at h1
              have h2 := manyR_none (h1 : manyR (textR each) (k + 1) t = none) (N - (k + 1))
              rw [show k + 1 + (N - (k + 1)) = N by omega] at h2
              exact h2
            clear hr hmany
            go_wp2
            go_ret2
            exact ⟨HT3.out, _, false, tk2, true, rfl, HI3.out, .inr ⟨HXX.out.trans HZ.out, rfl⟩⟩
          · have HZ : Hid (manyR (textR each) (k + 1) t = some (ss ++ [x], tk2)) := by
              have h1 := manyR_succ hmany.out
              rw [hr] at h1
              exact h1
            have hE := HE.out
            clear hr hmany
            go_wp2
            go_roundg (N - (k + 1))
            case measure => omega
            case rel => exact ⟨k + 1, ss ++ [x], tk2, by omega, Nat.le_refl _, by go_num, HZ, HI3, HV3, HT3⟩
      · have HZ : Hid (manyR (textR each) N t = some (ss, tk)) := by
          have e : k = N := by omega
          rw [← e]
          exact hmany.out
        clear hmany
        go_wp2
        go_ret2
        exact ⟨htn.out, _, true, tk, false, rfl, hin.out, .inl ⟨ss, HXX.out.trans HZ.out, hv.out, rfl, rfl⟩⟩

end Go.Proofs.YtfcdhpkikhkmiaaGreatDoor

/-
  An In's whole, at rows of prims and of numbers.
-/
namespace Go.Proofs.YtfcdhpkikhkmiaaGreatDoor
open Go.RowKit Go.Maps

set_option maxRecDepth 100000 in
set_option maxHeartbeats 800000 in
theorem wholePrims_any {α : Type} (W : World) (g : Nat) (s : Bs) (bad : Bool) (w : World) (f : Nat) (first captured : Array Value) (V : α → World → Value → Prop) (r : Option (α × Bs)) (h : InAt W w g s bad)
    (hf : ∀ args w, (callFunc f args).run Tryz.prog w = .ok (.enter f args) w)
    (hread : bad = false → Calls Tryz.prog f (first ++ captured) w (ReadsV W g V r w)) :
    Calls Tryz.prog 94 #[.pointer (some ⟨g, 0, none⟩), .func (.func f) first captured] w (GivesV W g (.slice none 0 0) V (if bad = true then none else r) s w) := by
  have HH := Lib.hid h
  obtain ⟨A, c, q0, q1, _, _, _, _, fz⟩ := h.cells
  have f0 := fz 0
  have f1 := fz 1
  clear fz h
  cases bad with
  | true =>
    go_enter Tryz.func94, Tryz.ntmps94
    go_wp2
    go_ret
    exact ⟨(HH.out.spoil HH.out (Turned.refl _ _) q0).1, .inl ⟨rfl, rfl, (HH.out.spoil HH.out (Turned.refl _ _) q0).2⟩⟩
  | false =>
    have HR := Lib.hid (hread rfl)
    have HQ := Lib.hid q0
    clear hread
    go_enter Tryz.func94, Tryz.ntmps94
    go_wp2_with fail
    refine HR.out.mono ?_
    rintro e w1 ⟨ht, v, b, t, bd, rfl, hi, hc⟩
    have HT := Lib.hid ht; have HI := Lib.hid hi
    obtain ⟨A1, c1, p0, p1, _, _, _, _, fz⟩ := hi.cells
    have p2 := fz 0
    have p3 := fz 1
    clear fz ht hi q0 q1 f0 f1
    rcases hc with ⟨x, hr, hv, rfl, rfl⟩ | ⟨hr, hb⟩
    · have HX := Lib.hid hr; have HV := Lib.hid hv
      clear hr hv
      go_wp2
      go_ret
      exact ⟨HT.out, .inr ⟨x, t, v, HX.out, rfl, HV.out, HI.out⟩⟩
    · have HX := Lib.hid hr
      clear hr
      cases b with
      | false =>
        clear hb
        go_wp2
        go_ret
        exact ⟨(HH.out.spoil HI.out HT.out HQ.out).1, .inl ⟨HX.out, rfl, (HH.out.spoil HI.out HT.out HQ.out).2⟩⟩
      | true =>
        obtain rfl : bd = true := by simpa using hb
        clear hb
        go_wp2
        go_ret
        exact ⟨(HH.out.spoil HI.out HT.out HQ.out).1, .inl ⟨HX.out, rfl, (HH.out.spoil HI.out HT.out HQ.out).2⟩⟩

end Go.Proofs.YtfcdhpkikhkmiaaGreatDoor

/-
  An In's Texts, as a call; Prims, of a spoiled one.
-/
namespace Go.Proofs.YtfcdhpkikhkmiaaGreatDoor
open Go.RowKit Go.Maps

theorem three_boxes (w : World) (u v x : Value) (t1 t2 t3 : TypeId) :
    Later w (((w.alloc (.cells #[u] t1)).alloc (.cells #[v] t2)).alloc (.cells #[x] t3)) ∧
    (((w.alloc (.cells #[u] t1)).alloc (.cells #[v] t2)).alloc (.cells #[x] t3)).cell? ⟨w.heap.size, 0, none⟩ = some u ∧
    (((w.alloc (.cells #[u] t1)).alloc (.cells #[v] t2)).alloc (.cells #[x] t3)).cell? ⟨w.heap.size + 1, 0, none⟩ = some v ∧
    (((w.alloc (.cells #[u] t1)).alloc (.cells #[v] t2)).alloc (.cells #[x] t3)).cell? ⟨w.heap.size + 2, 0, none⟩ = some x := by
  have b1 := BoxAt.made w #[u] t1
  have b2 := BoxAt.made (w.alloc (.cells #[u] t1)) #[v] t2
  have b3 := BoxAt.made ((w.alloc (.cells #[u] t1)).alloc (.cells #[v] t2)) #[x] t3
  rw [World.size_alloc] at b2
  rw [World.size_alloc, World.size_alloc] at b3
  exact ⟨(((Later.refl w).alloc _).alloc _).alloc _, ((b1.alloc _).alloc _).cell (i := 0) rfl, (b2.alloc _).cell (i := 0) rfl, b3.cell (i := 0) rfl⟩

section
variable (W : World) (hB : Base W) (g : Nat) (s : Bs) (w : World)
include hB
set_option maxRecDepth 100000 in
set_option maxHeartbeats 800000 in
theorem readTexts_any (most each : Int) (bad : Bool) (h : InAt W w g s bad) :
    Calls Tryz.prog 71 #[.pointer (some ⟨g, 0, none⟩), .int .i64 most, .func (.func 72) #[.agg #[.pointer (some ⟨g, 0, none⟩), .int .i64 each]] #[]] w (GivesV W g (.slice none 0 0) (vT w.heap.size) (if bad = true then none else textsR most each s) s w) := by
  obtain ⟨hl, c1, c2, c3⟩ := three_boxes w (.pointer (some ⟨g, 0, none⟩)) (.int .i64 most) (.func (.func 72) #[.agg #[.pointer (some ⟨g, 0, none⟩), .int .i64 each]] #[]) 41 3 118
  have hg := h.lt
  have HL := Lib.hid hl
  have HW := Lib.hid (wholeTexts_any W g s bad _ 92 #[] #[.pointer (some ⟨w.heap.size, 0, none⟩), .pointer (some ⟨w.heap.size + 1, 0, none⟩), .pointer (some ⟨w.heap.size + 2, 0, none⟩)] _ (rowR most (textR each) s) (h.later hl) (enters_of Tryz.func92 (by kernel_rfl) rfl) (fun e => by subst e; exact rowText1_any W hB g s _ most each w.heap.size (w.heap.size + 1) (w.heap.size + 2) (h.later hl) c1 c2 c3 (by omega) (by omega) (by omega)))
  clear h c2 c3 hl hg
  unfold textsR
  generalize (if bad = true then none else rowR most (textR each) s) = r at HW ⊢
  go_enter Tryz.func71, Tryz.ntmps71
  go_wp2_with fail
  refine HW.out.mono ?_
  rintro e w1 ⟨ht, hc⟩
  rcases hc with ⟨hr, rfl, hi⟩ | ⟨x, t, v, hr, rfl, hv, hi⟩
  · go_wp2
    go_ret
    exact ⟨(HL.out.turned g).trans ht, .inl ⟨hr, rfl, hi⟩⟩
  · have HV : Hid (vT w.heap.size x w1 v) := owns_low hv HL.out.le
    clear hv
    go_wp2
    go_ret
    exact ⟨(HL.out.turned g).trans ht, .inr ⟨x, t, v, hr, rfl, HV.out, hi⟩⟩

set_option maxRecDepth 100000 in
set_option maxHeartbeats 800000 in
theorem inTexts_any (most each : Int) (bad : Bool) (h : InAt W w g s bad) :
    Calls Tryz.prog 23 #[.pointer (some ⟨g, 0, none⟩), .int .i64 most, .int .i64 each] w (GivesV W g (.slice none 0 0) (vT w.heap.size) (if bad = true then none else textsR most each s) s w) := by
  have HW := Lib.hid (readTexts_any W hB g s w most each bad h)
  clear h
  generalize (if bad = true then none else textsR most each s) = r at HW ⊢
  go_enter Tryz.func23, Tryz.ntmps23
  go_wp2_with fail
  refine HW.out.mono ?_
  rintro e w1 ⟨ht, hc⟩
  rcases hc with ⟨hr, rfl, hi⟩ | ⟨x, t, v, hr, rfl, hv, hi⟩
  · go_wp2
    go_ret
    exact ⟨ht, .inl ⟨hr, rfl, hi⟩⟩
  · have HV := Lib.hid hv
    clear hv
    go_wp2
    go_ret
    exact ⟨ht, .inr ⟨x, t, v, hr, rfl, HV.out, hi⟩⟩

omit hB in
set_option maxRecDepth 100000 in
set_option maxHeartbeats 800000 in
theorem inPrims_bad (most : Int) (h : InAt W w g s true) :
    Calls Tryz.prog 28 #[.pointer (some ⟨g, 0, none⟩), .int .i64 most] w fun e w' => e = .returned (.slice none 0 0) ∧ InAt W w' g s true ∧ Turned g w w' := by
  obtain ⟨hl, c1, c2, c3⟩ := three_boxes w (.pointer (some ⟨g, 0, none⟩)) (.int .i64 most) (.func (.func 25) #[.pointer (some ⟨g, 0, none⟩)] #[]) 41 3 58
  have HL := Lib.hid hl
  have HW := Lib.hid (wholePrims_any W g s true _ 95 #[] #[.pointer (some ⟨w.heap.size, 0, none⟩), .pointer (some ⟨w.heap.size + 1, 0, none⟩), .pointer (some ⟨w.heap.size + 2, 0, none⟩)] (fun _ _ _ => False) (none : Option (List Pr × Bs)) (h.later hl) (enters_of Tryz.func95 (by kernel_rfl) rfl) (fun e => by cases e))
  have HE : Hid (Calls Tryz.prog 75 #[.pointer (some ⟨g, 0, none⟩), .int .i64 most, .func (.func 25) #[.pointer (some ⟨g, 0, none⟩)] #[]] w fun e w' => e = .returned (.slice none 0 0) ∧ InAt W w' g s true ∧ Turned g w w') := by
    show Calls _ _ _ _ _
    clear h c2 c3 hl
    go_enter Tryz.func75, Tryz.ntmps75
    go_wp2_with fail
    refine HW.out.mono ?_
    rintro e w1 ⟨ht, hc⟩
    rcases hc with ⟨_, rfl, hi⟩ | ⟨_, _, _, _, _, hv, _⟩
    · go_wp2
      go_ret
      exact ⟨rfl, hi, (HL.out.turned g).trans ht⟩
    · exact hv.elim
  clear h c1 c2 c3 hl HW HL
  go_enter Tryz.func28, Tryz.ntmps28
  go_wp2_with fail
  refine HE.out.mono ?_
  rintro e w1 ⟨rfl, hi, ht⟩
  go_wp2
  go_ret
  exact ⟨rfl, hi, ht⟩
end

end Go.Proofs.YtfcdhpkikhkmiaaGreatDoor

/-
  An In's whole at prims.
-/
namespace Go.Proofs.YtfcdhpkikhkmiaaGreatDoor
open Go.RowKit Go.Maps

structure OwnP (B : Nat) (w : World) (x : PrC) : Prop where
  old : w.ownsRow B 9 1 (.slice x.A x.n x.c) x.v.old.length (x.v.old.map Value.string)
  new : w.ownsRow B 9 1 (.slice x.B x.m x.d) x.v.new.length (x.v.new.map Value.string)
section
variable {W w w' w'' : World} {B g b : Nat} {x : PrC} {cs : Array Value} {T : TypeId} {rest : Bs} {bad : Bool}
theorem owns_later {e : TypeId} {m : Nat} {v : Value} {xs : List Value} (h : w.ownsRow B e 1 v m xs) (hl : Later w w') : w'.ownsRow B e 1 v m xs :=
  owns_kept h fun b hb => by
    rcases h.2 with ⟨rfl, _⟩ | ⟨b', cap, cur, rfl, _, hh, _⟩
    · cases hb
    · simp only [Value.ownBlock, Option.some.injEq] at hb
      subst hb
      exact hl.block _ (Array.getElem?_eq_some_iff.1 hh).1
theorem OwnP.later (h : OwnP B w x) (hl : Later w w') : OwnP B w' x := ⟨owns_later h.old hl, owns_later h.new hl⟩
theorem OwnP.other (h : OwnP B w x) (ht : Turned b w w') (hb : BoxAt w b cs T) (hT : T ≠ 9) : OwnP B w' x := ⟨owns_turned h.old ht (owns_apart h.old hb hT), owns_turned h.new ht (owns_apart h.new hb hT)⟩
theorem Turned.fresh (h : Turned g w w') (ht : Turned b w' w'') (hb : w.heap.size ≤ b) : Turned g w w'' := turned_grown h ht (fun _ e => by cases e; exact hb)
theorem InAt.other (h : InAt W w g rest bad) (ht : Turned b w w') (hb : BoxAt w b cs T) (hT : T ≠ 92 ∧ T ≠ 5) (hW : W.heap.size ≤ b) : InAt W w' g rest bad := by
  refine h.keep (h.base.turn ht hW) fun k cs' T' fz hk hT' => ht.block k (Array.getElem?_eq_some_iff.1 hk).1 fun e => ?_
  cases e
  unfold BoxAt at hb
  rw [hb] at hk
  simp at hk
  rcases hT' with rfl | rfl
  · exact hT.1 hk.2.1
  · exact hT.2 hk.2.1
end
def zeroC9 : PrC := ⟨⟨0, ByteArray.empty, ByteArray.empty, 0, [], []⟩, none, 0, 0, none, 0, 0⟩
def ReadsP (W : World) (g B : Nat) (r : Option (Pr × Bs)) (w : World) (e : Ending) (w' : World) : Prop :=
  Turned g w w' ∧ ∃ (x : PrC) (b : Bool) (t : Bs) (bad : Bool), e = .returned (.tuple #[prV x, .bool b]) ∧ InAt W w' g t bad ∧ ((r = some (x.v, t) ∧ OwnP B w' x ∧ b = true ∧ bad = false) ∨ (r = none ∧ (b && !bad) = false))
def GivesP9 (W : World) (g B : Nat) (r : Option (Pr × Bs)) (s : Bs) (w : World) (e : Ending) (w' : World) : Prop :=
  Turned g w w' ∧ ((r = none ∧ e = .returned (prV zeroC9) ∧ InAt W w' g s true) ∨ ∃ (x : PrC) (t : Bs), r = some (x.v, t) ∧ e = .returned (prV x) ∧ OwnP B w' x ∧ InAt W w' g t false)

set_option maxRecDepth 100000 in
set_option maxHeartbeats 1600000 in
theorem wholePrim_any (W : World) (g : Nat) (s : Bs) (bad : Bool) (w : World) (f : Nat) (first captured : Array Value) (r : Option (Pr × Bs)) (B : Nat) (h : InAt W w g s bad)
    (hf : ∀ args w, (callFunc f args).run Tryz.prog w = .ok (.enter f args) w)
    (hread : ∀ V, InAt W V g s bad → Later w V → bad = false → Calls Tryz.prog f (first ++ captured) V (ReadsP W g B r V)) :
    Calls Tryz.prog 73 #[.pointer (some ⟨g, 0, none⟩), .func (.func f) first captured] w (GivesP9 W g B (if bad = true then none else r) s w) := by
  suffices H : ∀ R : Ending → World → Prop, (∀ e w', GivesP9 W g B (if bad = true then none else r) s w e w' → R e w') → Calls Tryz.prog 73 #[.pointer (some ⟨g, 0, none⟩), .func (.func f) first captured] w R from H _ (fun _ _ h => h)
  intro R hR
  have hl0 : Later w (w.alloc (.cells #[.int .i64 0, .string ⟨#[]⟩, .string ⟨#[]⟩, .int .i64 0, .slice none 0 0, .slice none 0 0] 57)) := (Later.refl w).alloc _
  have HG : Hid (w.heap.size ≠ g) := by have := h.lt; show _ ≠ _; omega
  have HWW : Hid (W.heap.size ≤ w.heap.size) := h.base.le
  have HB0 : Hid (BoxAt (w.alloc (.cells #[.int .i64 0, .string ⟨#[]⟩, .string ⟨#[]⟩, .int .i64 0, .slice none 0 0, .slice none 0 0] 57)) w.heap.size #[.int .i64 0, .string ⟨#[]⟩, .string ⟨#[]⟩, .int .i64 0, .slice none 0 0, .slice none 0 0] 57) := BoxAt.made w _ _
  have h0 := h.later hl0
  have HH := Lib.hid h0
  have HT0 : Hid (Turned g w (w.alloc (.cells #[.int .i64 0, .string ⟨#[]⟩, .string ⟨#[]⟩, .int .i64 0, .slice none 0 0, .slice none 0 0] 57))) := hl0.turned g
  have HL0 := Lib.hid hl0
  obtain ⟨A, c, q0, q1, _, _, _, _, fz⟩ := h0.cells
  have f0 := fz 0
  have f1 := fz 1
  clear fz h h0 hl0
  cases bad with
  | true =>
    have HRR := Lib.hid hR
    clear hR
    go_enter Tryz.func73, Tryz.ntmps73
    go_upto_region 1 with fail
    generalize w.alloc (.cells #[.int .i64 0, .string ⟨#[]⟩, .string ⟨#[]⟩, .int .i64 0, .slice none 0 0, .slice none 0 0] 57) = w0 at *
    have HSP := Lib.hid (HH.out.spoil HH.out (Turned.refl _ _) q0)
    have HD3 := Lib.hid ((HB0.out.other (turned_set w0 g 0 (.slice A s.length c)) HG.out).other (turned_set _ g 1 (.bool true)) HG.out)
    go_upto_region 7 with fail
    generalize ((w0.setCell ⟨g, 0, none⟩ (.slice A s.length c)).setCell ⟨g, 1, none⟩ (.bool true)) = w3 at HSP HD3 ⊢
    have hl4 := (Later.refl w3).alloc (.cells #[.int .i64 0, .string ⟨#[]⟩, .string ⟨#[]⟩, .int .i64 0, .slice none 0 0, .slice none 0 0] 57)
    have d1 := HD3.out.later hl4
    have HX4 : Hid (BoxAt (w3.alloc (.cells #[.int .i64 0, .string ⟨#[]⟩, .string ⟨#[]⟩, .int .i64 0, .slice none 0 0, .slice none 0 0] 57)) w3.heap.size #[.int .i64 0, .string ⟨#[]⟩, .string ⟨#[]⟩, .int .i64 0, .slice none 0 0, .slice none 0 0] 57) := BoxAt.made w3 _ _
    have HI4 := Lib.hid (HSP.out.2.later hl4)
    have HT4 := Lib.hid (HT0.out.trans (HSP.out.1.trans (hl4.turned g)))
    go_upto_region 8 with fail
    generalize w3.alloc (.cells #[.int .i64 0, .string ⟨#[]⟩, .string ⟨#[]⟩, .int .i64 0, .slice none 0 0, .slice none 0 0] 57) = w4 at d1 HX4 HI4 HT4 ⊢
    have y0 := d1.cell (i := 0) rfl; have y1 := d1.cell (i := 1) rfl; have y2 := d1.cell (i := 2) rfl; have y3 := d1.cell (i := 3) rfl; have y4 := d1.cell (i := 4) rfl; have y5 := d1.cell (i := 5) rfl
    have z0 := d1.frozen 0; have z1 := d1.frozen 1; have z2 := d1.frozen 2; have z3 := d1.frozen 3; have z4 := d1.frozen 4; have z5 := d1.frozen 5
    have x0 := HX4.out.cell (i := 0) rfl; have x1 := HX4.out.cell (i := 1) rfl; have x2 := HX4.out.cell (i := 2) rfl; have x3 := HX4.out.cell (i := 3) rfl; have x4 := HX4.out.cell (i := 4) rfl; have x5 := HX4.out.cell (i := 5) rfl
    have HD := Lib.hid d1
    clear d1 hl4
    go_wp2
    have hset := turned_set6 w4 w.heap.size (.int .i64 0) (.string ⟨#[]⟩) (.string ⟨#[]⟩) (.int .i64 0) (.slice none 0 0) (.slice none 0 0)
    refine bodyPost_ret (results_cell_row rfl _ _ w.heap.size 57 _ (0, 0) _ rfl (HD.out.set6 (.int .i64 0) (.string ⟨#[]⟩) (.string ⟨#[]⟩) (.int .i64 0) (.slice none 0 0) (.slice none 0 0)) Tryz.underlying57 rfl Tryz.primSize) rfl ?_
    exact HRR.out _ _ ⟨HT4.out.fresh hset (Nat.le_refl _), .inl ⟨rfl, rfl, HI4.out.other hset HD.out ⟨by decide, by decide⟩ HWW.out⟩⟩
  | false =>
    have HRR := Lib.hid hR
    have HR := Lib.hid (hread _ HH.out HL0.out rfl)
    have HQ := Lib.hid q0
    clear hread hR
    go_enter Tryz.func73, Tryz.ntmps73
    go_wp2_with fail
    generalize w.alloc (.cells #[.int .i64 0, .string ⟨#[]⟩, .string ⟨#[]⟩, .int .i64 0, .slice none 0 0, .slice none 0 0] 57) = w0 at *
    refine HR.out.mono ?_
    rintro e w1 ⟨ht, x, b, t, bd, rfl, hi, hc⟩
    have hl1 : Later w1 (w1.alloc (.cells #[.int .i64 x.v.kind, .string x.v.name, .string x.v.to, .int .i64 x.v.place, .slice x.A x.n x.c, .slice x.B x.m x.d] 57)) := (Later.refl w1).alloc _
    have HT := Lib.hid (ht.trans (hl1.turned g))
    have hi2 := hi.later hl1
    have HI := Lib.hid hi2
    have HB1 := Lib.hid ((HB0.out.other ht HG.out).alloc (.cells #[.int .i64 x.v.kind, .string x.v.name, .string x.v.to, .int .i64 x.v.place, .slice x.A x.n x.c, .slice x.B x.m x.d] 57))
    have HX1 : Hid (BoxAt (w1.alloc (.cells #[.int .i64 x.v.kind, .string x.v.name, .string x.v.to, .int .i64 x.v.place, .slice x.A x.n x.c, .slice x.B x.m x.d] 57)) w1.heap.size #[.int .i64 x.v.kind, .string x.v.name, .string x.v.to, .int .i64 x.v.place, .slice x.A x.n x.c, .slice x.B x.m x.d] 57) := BoxAt.made w1 _ _
    have HL1 := Lib.hid hl1
    obtain ⟨A1, c1, p0, p1, _, _, _, _, fz⟩ := hi2.cells
    have p2 := fz 0
    have p3 := fz 1
    clear fz ht hi hi2 hl1 q0 q1 f0 f1 HB0
    unfold prV
    go_upto_region 4 with fail
    rcases hc with ⟨hr, hv, rfl, rfl⟩ | ⟨hr, hb⟩
    · have HX := Lib.hid hr
      have HV := Lib.hid (hv.later HL1.out)
      clear hr hv
      generalize w1.alloc (.cells #[.int .i64 x.v.kind, .string x.v.name, .string x.v.to, .int .i64 x.v.place, .slice x.A x.n x.c, .slice x.B x.m x.d] 57) = w2 at *
      have d1 := HB1.out
      have y0 := d1.cell (i := 0) rfl; have y1 := d1.cell (i := 1) rfl; have y2 := d1.cell (i := 2) rfl; have y3 := d1.cell (i := 3) rfl; have y4 := d1.cell (i := 4) rfl; have y5 := d1.cell (i := 5) rfl
      have z0 := d1.frozen 0; have z1 := d1.frozen 1; have z2 := d1.frozen 2; have z3 := d1.frozen 3; have z4 := d1.frozen 4; have z5 := d1.frozen 5
      have x0 := HX1.out.cell (i := 0) rfl; have x1 := HX1.out.cell (i := 1) rfl; have x2 := HX1.out.cell (i := 2) rfl; have x3 := HX1.out.cell (i := 3) rfl; have x4 := HX1.out.cell (i := 4) rfl; have x5 := HX1.out.cell (i := 5) rfl
      clear d1
      go_wp2
      have hset := turned_set6 w2 w.heap.size (.int .i64 x.v.kind) (.string x.v.name) (.string x.v.to) (.int .i64 x.v.place) (.slice x.A x.n x.c) (.slice x.B x.m x.d)
      refine bodyPost_ret (results_cell_row rfl _ _ w.heap.size 57 _ (0, 0) _ rfl (HB1.out.set6 (.int .i64 x.v.kind) (.string x.v.name) (.string x.v.to) (.int .i64 x.v.place) (.slice x.A x.n x.c) (.slice x.B x.m x.d)) Tryz.underlying57 rfl Tryz.primSize) rfl ?_
      exact HRR.out _ _ ⟨(HT0.out.trans HT.out).fresh hset (Nat.le_refl _), .inr ⟨x, t, HX.out, rfl, HV.out.other hset HB1.out (by decide), HI.out.other hset HB1.out ⟨by decide, by decide⟩ HWW.out⟩⟩
    · have HX := Lib.hid hr
      clear hr
      generalize w1.alloc (.cells #[.int .i64 x.v.kind, .string x.v.name, .string x.v.to, .int .i64 x.v.place, .slice x.A x.n x.c, .slice x.B x.m x.d] 57) = w2 at *
      cases b with
      | false =>
        clear hb
        have HSP := Lib.hid (HH.out.spoil HI.out HT.out HQ.out)
        have HD3 := Lib.hid ((HB1.out.other (turned_set w2 g 0 (.slice A s.length c)) HG.out).other (turned_set _ g 1 (.bool true)) HG.out)
        go_upto_region 7 with fail
        generalize ((w2.setCell ⟨g, 0, none⟩ (.slice A s.length c)).setCell ⟨g, 1, none⟩ (.bool true)) = w3 at HSP HD3 ⊢
        have hl4 := (Later.refl w3).alloc (.cells #[.int .i64 0, .string ⟨#[]⟩, .string ⟨#[]⟩, .int .i64 0, .slice none 0 0, .slice none 0 0] 57)
        have d1 := HD3.out.later hl4
        have HX4 : Hid (BoxAt (w3.alloc (.cells #[.int .i64 0, .string ⟨#[]⟩, .string ⟨#[]⟩, .int .i64 0, .slice none 0 0, .slice none 0 0] 57)) w3.heap.size #[.int .i64 0, .string ⟨#[]⟩, .string ⟨#[]⟩, .int .i64 0, .slice none 0 0, .slice none 0 0] 57) := BoxAt.made w3 _ _
        have HI4 := Lib.hid (HSP.out.2.later hl4)
        have HT4 := Lib.hid (HT0.out.trans (HSP.out.1.trans (hl4.turned g)))
        go_upto_region 8 with fail
        generalize w3.alloc (.cells #[.int .i64 0, .string ⟨#[]⟩, .string ⟨#[]⟩, .int .i64 0, .slice none 0 0, .slice none 0 0] 57) = w4 at d1 HX4 HI4 HT4 ⊢
        have y0 := d1.cell (i := 0) rfl; have y1 := d1.cell (i := 1) rfl; have y2 := d1.cell (i := 2) rfl; have y3 := d1.cell (i := 3) rfl; have y4 := d1.cell (i := 4) rfl; have y5 := d1.cell (i := 5) rfl
        have z0 := d1.frozen 0; have z1 := d1.frozen 1; have z2 := d1.frozen 2; have z3 := d1.frozen 3; have z4 := d1.frozen 4; have z5 := d1.frozen 5
        have x0 := HX4.out.cell (i := 0) rfl; have x1 := HX4.out.cell (i := 1) rfl; have x2 := HX4.out.cell (i := 2) rfl; have x3 := HX4.out.cell (i := 3) rfl; have x4 := HX4.out.cell (i := 4) rfl; have x5 := HX4.out.cell (i := 5) rfl
        have HD := Lib.hid d1
        clear d1 hl4
        go_wp2
        have hset := turned_set6 w4 w.heap.size (.int .i64 0) (.string ⟨#[]⟩) (.string ⟨#[]⟩) (.int .i64 0) (.slice none 0 0) (.slice none 0 0)
        refine bodyPost_ret (results_cell_row rfl _ _ w.heap.size 57 _ (0, 0) _ rfl (HD.out.set6 (.int .i64 0) (.string ⟨#[]⟩) (.string ⟨#[]⟩) (.int .i64 0) (.slice none 0 0) (.slice none 0 0)) Tryz.underlying57 rfl Tryz.primSize) rfl ?_
        exact HRR.out _ _ ⟨HT4.out.fresh hset (Nat.le_refl _), .inl ⟨HX.out, rfl, HI4.out.other hset HD.out ⟨by decide, by decide⟩ HWW.out⟩⟩
      | true =>
        obtain rfl : bd = true := by simpa using hb
        clear hb
        have HSP := Lib.hid (HH.out.spoil HI.out HT.out HQ.out)
        have HD3 := Lib.hid ((HB1.out.other (turned_set w2 g 0 (.slice A s.length c)) HG.out).other (turned_set _ g 1 (.bool true)) HG.out)
        go_upto_region 7 with fail
        generalize ((w2.setCell ⟨g, 0, none⟩ (.slice A s.length c)).setCell ⟨g, 1, none⟩ (.bool true)) = w3 at HSP HD3 ⊢
        have hl4 := (Later.refl w3).alloc (.cells #[.int .i64 0, .string ⟨#[]⟩, .string ⟨#[]⟩, .int .i64 0, .slice none 0 0, .slice none 0 0] 57)
        have d1 := HD3.out.later hl4
        have HX4 : Hid (BoxAt (w3.alloc (.cells #[.int .i64 0, .string ⟨#[]⟩, .string ⟨#[]⟩, .int .i64 0, .slice none 0 0, .slice none 0 0] 57)) w3.heap.size #[.int .i64 0, .string ⟨#[]⟩, .string ⟨#[]⟩, .int .i64 0, .slice none 0 0, .slice none 0 0] 57) := BoxAt.made w3 _ _
        have HI4 := Lib.hid (HSP.out.2.later hl4)
        have HT4 := Lib.hid (HT0.out.trans (HSP.out.1.trans (hl4.turned g)))
        go_upto_region 8 with fail
        generalize w3.alloc (.cells #[.int .i64 0, .string ⟨#[]⟩, .string ⟨#[]⟩, .int .i64 0, .slice none 0 0, .slice none 0 0] 57) = w4 at d1 HX4 HI4 HT4 ⊢
        have y0 := d1.cell (i := 0) rfl; have y1 := d1.cell (i := 1) rfl; have y2 := d1.cell (i := 2) rfl; have y3 := d1.cell (i := 3) rfl; have y4 := d1.cell (i := 4) rfl; have y5 := d1.cell (i := 5) rfl
        have z0 := d1.frozen 0; have z1 := d1.frozen 1; have z2 := d1.frozen 2; have z3 := d1.frozen 3; have z4 := d1.frozen 4; have z5 := d1.frozen 5
        have x0 := HX4.out.cell (i := 0) rfl; have x1 := HX4.out.cell (i := 1) rfl; have x2 := HX4.out.cell (i := 2) rfl; have x3 := HX4.out.cell (i := 3) rfl; have x4 := HX4.out.cell (i := 4) rfl; have x5 := HX4.out.cell (i := 5) rfl
        have HD := Lib.hid d1
        clear d1 hl4
        go_wp2
        have hset := turned_set6 w4 w.heap.size (.int .i64 0) (.string ⟨#[]⟩) (.string ⟨#[]⟩) (.int .i64 0) (.slice none 0 0) (.slice none 0 0)
        refine bodyPost_ret (results_cell_row rfl _ _ w.heap.size 57 _ (0, 0) _ rfl (HD.out.set6 (.int .i64 0) (.string ⟨#[]⟩) (.string ⟨#[]⟩) (.int .i64 0) (.slice none 0 0) (.slice none 0 0)) Tryz.underlying57 rfl Tryz.primSize) rfl ?_
        exact HRR.out _ _ ⟨HT4.out.fresh hset (Nat.le_refl _), .inl ⟨HX.out, rfl, HI4.out.other hset HD.out ⟨by decide, by decide⟩ HWW.out⟩⟩

end Go.Proofs.YtfcdhpkikhkmiaaGreatDoor
