import Derived.Test.YtomboeiaajggoaaGreatPk9
import Derived.Test.YtomboeiaajggoaaGreatPk13
import Derived.Test.YtomboeiaajggoaaGreatPk7
import Derived.Deep.LoopGhost
import Derived.Deep.QuietTactic
import Derived.BigQuiet
import Derived.Lib.Hide
import Derived.Test.YtomboeiaajggoaaGreatPk20
import Derived.Test.YtomboeiaajggoaaGreatPk19
import Derived.Test.YtomboeiaajggoaaGreatPk21
import Derived.Test.YtomboeiaajggoaaGreatPk15
import Derived.Test.YtomboeiaajggoaaGreatPk23

/-
  What seq's Same comes to, as a call.
-/
namespace Go.Proofs.YtomboeiaajggoaaGreat
open Go.RowKit Go.Maps

set_option maxRecDepth 100000 in
set_option maxHeartbeats 1600000 in
theorem equalP_any (A B : Option Addr) (n c m d : Nat) (xs ys : List PrC) (w : World) (hx : PsOk w A n xs) (hy : PsOk w B m ys) (hn : n ≤ 65536) (hm : m ≤ 65536) :
    Calls Tryz.prog 81 #[.slice A n c, .slice B m d, .func (.func 82) #[] #[]] w (Says (sameS (valsP xs) (valsP ys)) w) := by
  have HX := Lib.hid hx; have HY := Lib.hid hy; clear hx hy
  by_cases hnm : n = m
  case neg =>
    have HE : Hid (sameS (valsP xs) (valsP ys) = false) := sameS_length (by rw [valsP_length, valsP_length, HX.out.len, HY.out.len]; exact hnm)
    rw [HE.out]
    have hne : ((n : Int) == (m : Int)) = false := by rw [beq_eq_false_iff_ne]; omega
    go_enter Tryz.func81, Tryz.ntmps81
    go_wp2
    go_ret
    exact ⟨rfl, Later.refl w⟩
  subst hnm
  go_enter Tryz.func81, Tryz.ntmps81
  go_wp2
  go_loopg [17] (n + 1) (fun g s7 wr => ∃ k : Nat, k ≤ n ∧ n - k ≤ g ∧ s7 = .int .i64 k ∧ Hid (∀ j (p q : Pr), j < k → (valsP xs)[j]? = some p → (valsP ys)[j]? = some q → sameP p q = true) ∧ Hid (Later w wr))
  case atStart => exact ⟨0, Nat.zero_le _, by omega, rfl, fun j p q hj => by omega, Later.refl w⟩
  case round =>
    obtain ⟨k, hk, hg, rfl, hall, hwr⟩ := hrel
    by_cases hlt : k < n
    · obtain ⟨b, o, x, rfl, hz, hok, g0, g1, g2, g3, g4, g5⟩ := (HX.out.later hwr.out).get hlt
      obtain ⟨b', o', y, rfl, hz', hok', k0, k1, k2, k3, k4, k5⟩ := (HY.out.later hwr.out).get hlt
      have HLB : Hid (Later wr ((wr.alloc (.cells #[.int .i64 x.v.kind, .string x.v.name, .string x.v.to, .int .i64 x.v.place, .slice x.A x.n x.c, .slice x.B x.m x.d] 69)).alloc (.cells #[.int .i64 y.v.kind, .string y.v.name, .string y.v.to, .int .i64 y.v.place, .slice y.A y.n y.c, .slice y.B y.m y.d] 69))) := ((Later.refl wr).alloc _).alloc _
      have HAT := Lib.hid (valsP_at hz); have HAT' := Lib.hid (valsP_at hz')
      have HR := Lib.hid (primSame_any x y _ (hok.later HLB.out) (hok'.later HLB.out))
      clear hok hok' hz hz'
      have HL1 : Later wr (wr.alloc (.cells #[.int .i64 x.v.kind, .string x.v.name, .string x.v.to, .int .i64 x.v.place, .slice x.A x.n x.c, .slice x.B x.m x.d] 69)) := (Later.refl wr).alloc _
      have q0 := HL1.cell k0; have q1 := HL1.cell k1; have q2 := HL1.cell k2; have q3 := HL1.cell k3; have q4 := HL1.cell k4; have q5 := HL1.cell k5
      clear HL1 k0 k1 k2 k3 k4 k5
      unfold prV at HR
      cases hr : sameP x.v y.v
      · rw [hr] at HR
        have HNO : Hid (sameS (valsP xs) (valsP ys) = false) := sameS_at HAT.out HAT'.out hr
        rw [HNO.out]
        clear hr
        go_wp2_with fail
        refine HR.out.mono ?_
        rintro e w2 ⟨rfl, hl2⟩
        have HL2 := Lib.hid hl2
        clear hl2 HR
        go_wp2
        go_ret
        exact ⟨rfl, (hwr.out.trans HLB.out).trans HL2.out⟩
      · rw [hr] at HR
        have HNX : Hid (∀ j (p q : Pr), j < k + 1 → (valsP xs)[j]? = some p → (valsP ys)[j]? = some q → sameP p q = true) := fun j p q hj h1 h2 => by
          by_cases e : j = k
          · subst e
            rw [HAT.out] at h1; rw [HAT'.out] at h2
            cases h1; cases h2
            exact hr
          · exact hall.out j p q (by omega) h1 h2
        clear hr
        go_wp2_with fail
        refine HR.out.mono ?_
        rintro e w2 ⟨rfl, hl2⟩
        have HL2 := Lib.hid hl2
        clear hl2 HR
        go_wp2
        go_roundg (n - (k + 1))
        case measure => omega
        case rel => exact ⟨k + 1, by omega, Nat.le_refl _, by go_num, HNX, (hwr.out.trans HLB.out).trans HL2.out⟩
    · have HE : Hid (sameS (valsP xs) (valsP ys) = true) := sameS_all (by rw [valsP_length, valsP_length, HX.out.len, HY.out.len]) fun j p q h1 h2 => hall.out j p q (by
        have := (List.getElem?_eq_some_iff.1 h1).1
        rw [valsP_length, HX.out.len] at this
        omega) h1 h2
      go_wp2
      go_ret
      exact ⟨by rw [HE.out]; rfl, hwr.out⟩

set_option maxRecDepth 100000 in
set_option maxHeartbeats 400000 in
theorem seqSame_any (A B : Option Addr) (n c m d : Nat) (xs ys : List PrC) (w : World) (hx : PsOk w A n xs) (hy : PsOk w B m ys) (hn : n ≤ 65536) (hm : m ≤ 65536) :
    Calls Tryz.prog 54 #[.slice A n c, .slice B m d] w (Says (sameS (valsP xs) (valsP ys)) w) := by
  have H := Lib.hid (equalP_any A B n c m d xs ys w hx hy hn hm)
  clear hx hy
  go_enter Tryz.func54, Tryz.ntmps54
  go_wp2_with fail
  refine H.out.mono ?_
  rintro e w1 ⟨rfl, hl⟩
  have HL := Lib.hid hl
  clear hl H
  go_wp2
  go_ret
  exact ⟨rfl, HL.out⟩

end Go.Proofs.YtomboeiaajggoaaGreat

/-
  What named's Same comes to, as a call.
-/
namespace Go.Proofs.YtomboeiaajggoaaGreat
open Go.RowKit Go.Maps

theorem sameN_parts (p q : Pa) : sameN p q = (decide (p.id = q.id) && (decide (p.note = q.note) && (decide (p.deps = q.deps) && sameS p.l q.l))) := by
  obtain ⟨i, n, d, l⟩ := p
  obtain ⟨i', n', d', l'⟩ := q
  rw [Bool.eq_iff_iff, sameN_iff]
  simp only [Bool.and_eq_true, decide_eq_true_eq, sameS_iff, Pa.mk.injEq]
set_option maxRecDepth 100000 in
set_option maxHeartbeats 800000 in
theorem same7_any (x y : PaC) (w : World) (hx : PaOk w x) (hy : PaOk w y) : Calls Tryz.prog 31 #[paV x, paV y] w (Says (sameN x.v y.v) w) := by
  have HS : Hid (∀ w', Later w w' → Calls Tryz.prog 54 #[.slice x.L x.nl x.cl, .slice y.L y.nl y.cl] w' (Says (sameS x.v.l y.v.l) w')) := fun w' hl => by
    rw [← hx.is, ← hy.is]
    exact seqSame_any x.L y.L x.nl x.cl y.nl y.cl x.xs y.xs w' (hx.row.later hl) (hy.row.later hl) (by have := hx.lmost; omega) (by have := hy.lmost; omega)
  have HE : Hid (∀ w', Later w w' → Calls Tryz.prog 53 #[.slice x.D x.nd x.cd, .slice y.D y.nd y.cd] w' (Says (decide (x.v.deps = y.v.deps)) w')) := fun w' hl =>
    equalI_any x.D y.D x.nd x.cd y.nd y.cd x.v.deps y.v.deps _ (RowK.later hx.deps hl) (RowK.later hy.deps hl) hx.dmost hy.dmost
  clear hx hy
  rw [sameN_parts]
  obtain ⟨⟨id, nt, deps, l⟩, D, nd, cd, L, nl, cl, xs⟩ := x
  obtain ⟨⟨id', nt', deps', l'⟩, D', nd', cd', L', nl', cl', ys⟩ := y
  dsimp only at HS HE ⊢
  unfold paV
  dsimp only
  by_cases h1 : id = id'
  · subst h1
    by_cases h2 : nt = nt'
    · subst h2
      rw [decide_eq_true (rfl : id = id), decide_eq_true (rfl : nt = nt), Bool.true_and, Bool.true_and]
      have HLB : Hid (Later w ((w.alloc (.cells #[.int .i64 id, .string nt, .slice D nd cd, .slice L nl cl] 30)).alloc (.cells #[.int .i64 id, .string nt, .slice D' nd' cd', .slice L' nl' cl'] 30))) := ((Later.refl w).alloc _).alloc _
      have HBX : Hid (BoxAt ((w.alloc (.cells #[.int .i64 id, .string nt, .slice D nd cd, .slice L nl cl] 30)).alloc (.cells #[.int .i64 id, .string nt, .slice D' nd' cd', .slice L' nl' cl'] 30)) w.heap.size #[.int .i64 id, .string nt, .slice D nd cd, .slice L nl cl] 30) := (BoxAt.made w _ _).alloc _
      have HBY : Hid (BoxAt ((w.alloc (.cells #[.int .i64 id, .string nt, .slice D nd cd, .slice L nl cl] 30)).alloc (.cells #[.int .i64 id, .string nt, .slice D' nd' cd', .slice L' nl' cl'] 30)) (w.heap.size + 1) #[.int .i64 id, .string nt, .slice D' nd' cd', .slice L' nl' cl'] 30) := by
        have := BoxAt.made (w.alloc (.cells #[.int .i64 id, .string nt, .slice D nd cd, .slice L nl cl] 30)) #[.int .i64 id, .string nt, .slice D' nd' cd', .slice L' nl' cl'] 30
        rw [World.size_alloc] at this
        exact this
      have HE1 := Lib.hid (HE.out _ HLB.out)
      generalize decide (deps = deps') = dd at HE1 ⊢
      generalize sameS l l' = b at HS ⊢
      generalize hRR : (dd && b) = r
      have HRR := Lib.hid hRR
      clear hRR HE
      go_enter Tryz.func31, Tryz.ntmps31
      go_wp2_with fail
      refine HE1.out.mono ?_
      rintro e w3 ⟨rfl, hl3⟩
      have HL3 := Lib.hid (HLB.out.trans hl3)
      have q0 : w3.cell? ⟨w.heap.size, 3, none⟩ = some (.slice L nl cl) := (HBX.out.later hl3).cell rfl
      have q1 : w3.cell? ⟨w.heap.size + 1, 3, none⟩ = some (.slice L' nl' cl') := (HBY.out.later hl3).cell rfl
      clear hl3 HE1 HBX HBY
      cases dd with
      | false =>
        go_wp2
        go_ret
        exact ⟨by rw [← HRR.out]; rfl, HL3.out⟩
      | true =>
        have HS3 := Lib.hid (HS.out w3 HL3.out)
        clear HS
        go_wp2_with fail
        refine HS3.out.mono ?_
        rintro e w4 ⟨rfl, hl4⟩
        have HL4 := Lib.hid (HL3.out.trans hl4)
        clear hl4 HS3
        go_wp2
        go_ret
        exact ⟨by rw [← HRR.out]; rfl, HL4.out⟩
    · rw [decide_eq_false h2, Bool.false_and, Bool.and_false]
      have t1 := text_ne h2
      go_enter Tryz.func31, Tryz.ntmps31
      go_wp2
      go_ret
      exact ⟨rfl, ((Later.refl w).alloc _).alloc _⟩
  · rw [decide_eq_false h1, Bool.false_and]
    go_enter Tryz.func31, Tryz.ntmps31
    go_wp2
    go_ret
    exact ⟨rfl, ((Later.refl w).alloc _).alloc _⟩

end Go.Proofs.YtomboeiaajggoaaGreat

/-
  What stands while a statement tells two patches into two new boxes, in whatever order; operations of such statements.
-/
namespace Go.Proofs.YtomboeiaajggoaaGreat
open Go.RowKit Go.Maps

def zeroNL : Array Value := #[.int .i64 0, .string ⟨#[]⟩, .slice none 0 0, .slice none 0 0]
structure TwD where
  y : PaC
  z : PaC
  t : Bool
  g8 : Nat
  g9 : Nat
/-- What stands: b, b': the two boxes are made; s: both are told, the first is kept, the second is kept. -/
structure TwS (T : TypeId) (wx : World) (r : Option (Pa × Pa)) (b b' : Bool) (s : Nat) (D : TwD) (V : World) : Prop where
  later : Later wx V
  sw : 1 ≤ s → PaOk V D.y ∧ PaOk V D.z ∧ D.t = r.isSome ∧ (r = none → D.y = zeroN ∧ D.z = zeroN) ∧ ∀ c, r = some c → D.y.v = c.1 ∧ D.z.v = c.2
  b8 : b = true → wx.heap.size ≤ D.g8 ∧ ∃ cs, cs.size = 4 ∧ BoxAt V D.g8 cs T ∧ (2 ≤ s → cs = (paL D.y).toArray)
  b9 : b' = true → wx.heap.size ≤ D.g9 ∧ ∃ cs, cs.size = 4 ∧ BoxAt V D.g9 cs T ∧ (3 ≤ s → cs = (paL D.z).toArray)
  ne : b = true → b' = true → D.g8 ≠ D.g9
  a8 : 1 ≤ s → b = true → AwayN D.g8 D.y ∧ AwayN D.g8 D.z
  a9 : 1 ≤ s → b' = true → AwayN D.g9 D.y ∧ AwayN D.g9 D.z
section
variable {T : TypeId} {wx V V' : World} {r : Option (Pa × Pa)} {b b' : Bool} {s : Nat} {D : TwD}
theorem TwS.start : TwS T wx r false false 0 ⟨zeroN, zeroN, false, 0, 0⟩ { wx with drawn := wx.drawn + 1 } :=
  ⟨(Later.refl wx).drew, (fun e => by omega), (fun e => by cases e), (fun e => by cases e), (fun e => by cases e), (fun e => by omega), (fun e => by omega)⟩
/-- All is later. -/
theorem TwS.on (h : TwS T wx r b b' 0 D V) (hl : Later V V') : TwS T wx r b b' 0 D V' :=
  ⟨h.later.trans hl, (fun e => by omega), (fun e => by obtain ⟨q1, cs, q2, q3, q4⟩ := h.b8 e; exact ⟨q1, cs, q2, q3.later hl, q4⟩), (fun e => by obtain ⟨q1, cs, q2, q3, q4⟩ := h.b9 e; exact ⟨q1, cs, q2, q3.later hl, q4⟩), h.ne, (fun e => by omega), (fun e => by omega)⟩
theorem TwS.swap (h : TwS T wx r b b' 0 D V) (hl : Later V V') {y z : PaC} (h1 : PaOk V' y) (h2 : PaOk V' z) (h3 : r = none → y = zeroN ∧ z = zeroN) (h4 : ∀ c, r = some c → y.v = c.1 ∧ z.v = c.2) (h5 : ∀ k, wx.heap.size ≤ k → k < V.heap.size → AwayN k y ∧ AwayN k z) : TwS T wx r b b' 1 { D with y := y, z := z, t := r.isSome } V' :=
  ⟨h.later.trans hl, fun _ => ⟨h1, h2, rfl, h3, h4⟩, (fun e => by obtain ⟨q1, cs, q2, q3, _⟩ := h.b8 e; exact ⟨q1, cs, q2, q3.later hl, fun e => by omega⟩), (fun e => by obtain ⟨q1, cs, q2, q3, _⟩ := h.b9 e; exact ⟨q1, cs, q2, q3.later hl, fun e => by omega⟩), h.ne, (fun _ e => by obtain ⟨q1, cs, q2, q3, _⟩ := h.b8 e; exact h5 _ q1 q3.lt), (fun _ e => by obtain ⟨q1, cs, q2, q3, _⟩ := h.b9 e; exact h5 _ q1 q3.lt)⟩
theorem TwS.alloc8 (h : TwS T wx r false b' s D V) (hs : s ≤ 1) : TwS T wx r true b' s { D with g8 := V.heap.size } (V.alloc (.cells zeroNL T)) :=
  ⟨h.later.alloc _, fun e => ⟨(h.sw e).1.later4 _, (h.sw e).2.1.later4 _, (h.sw e).2.2⟩, (fun _ => ⟨h.later.le, zeroNL, rfl, BoxAt.made V zeroNL T, fun e => by omega⟩), (fun e => by obtain ⟨q1, cs, q2, q3, q4⟩ := h.b9 e; exact ⟨q1, cs, q2, q3.alloc _, q4⟩), (fun _ e => by obtain ⟨_, _, _, q3, _⟩ := h.b9 e; have := q3.lt; show V.heap.size ≠ D.g9; omega), (fun e _ => ⟨(h.sw e).1.away (Nat.le_refl _), (h.sw e).2.1.away (Nat.le_refl _)⟩), h.a9⟩
theorem TwS.alloc9 (h : TwS T wx r b false s D V) (hs : s ≤ 1) : TwS T wx r b true s { D with g9 := V.heap.size } (V.alloc (.cells zeroNL T)) :=
  ⟨h.later.alloc _, fun e => ⟨(h.sw e).1.later4 _, (h.sw e).2.1.later4 _, (h.sw e).2.2⟩, (fun e => by obtain ⟨q1, cs, q2, q3, q4⟩ := h.b8 e; exact ⟨q1, cs, q2, q3.alloc _, q4⟩), (fun _ => ⟨h.later.le, zeroNL, rfl, BoxAt.made V zeroNL T, fun e => by omega⟩), (fun e _ => by obtain ⟨_, _, _, q3, _⟩ := h.b8 e; have := q3.lt; show D.g8 ≠ V.heap.size; omega), h.a8, (fun e _ => ⟨(h.sw e).1.away (Nat.le_refl _), (h.sw e).2.1.away (Nat.le_refl _)⟩)⟩
theorem TwS.st8 (h : TwS T wx r true true 1 D V) (hb : BoxAt V' D.g8 (paL D.y).toArray T) (ht : Turned D.g8 V V') : TwS T wx r true true 2 D V' :=
  ⟨h.later.turn ht (h.b8 rfl).1, fun _ => ⟨(h.sw (Nat.le_refl _)).1.off ht (h.a8 (Nat.le_refl _) rfl).1, (h.sw (Nat.le_refl _)).2.1.off ht (h.a8 (Nat.le_refl _) rfl).2, (h.sw (Nat.le_refl _)).2.2⟩, (fun _ => ⟨(h.b8 rfl).1, _, rfl, hb, fun _ => rfl⟩), (fun _ => by obtain ⟨q1, cs, q2, q3, q4⟩ := h.b9 rfl; exact ⟨q1, cs, q2, q3.other ht (Ne.symm (h.ne rfl rfl)), fun e => by omega⟩), h.ne, (fun _ => h.a8 (Nat.le_refl _)), (fun _ => h.a9 (Nat.le_refl _))⟩
theorem TwS.st9 (h : TwS T wx r true true 2 D V) (hb : BoxAt V' D.g9 (paL D.z).toArray T) (ht : Turned D.g9 V V') : TwS T wx r true true 3 D V' :=
  ⟨h.later.turn ht (h.b9 rfl).1, fun _ => ⟨(h.sw (by omega)).1.off ht (h.a9 (by omega) rfl).1, (h.sw (by omega)).2.1.off ht (h.a9 (by omega) rfl).2, (h.sw (by omega)).2.2⟩, (fun _ => by obtain ⟨q1, cs, q2, q3, q4⟩ := h.b8 rfl; exact ⟨q1, cs, q2, q3.other ht (h.ne rfl rfl), fun _ => q4 (Nat.le_refl _)⟩), (fun _ => ⟨(h.b9 rfl).1, _, rfl, hb, fun _ => rfl⟩), h.ne, (fun _ => h.a8 (by omega)), (fun _ => h.a9 (by omega))⟩
/-- At the end. -/
theorem TwS.boxes (h : TwS T wx r true true 3 D V) : BoxAt V D.g8 (paL D.y).toArray T ∧ BoxAt V D.g9 (paL D.z).toArray T := by
  obtain ⟨_, cs, _, h1, h2⟩ := h.b8 rfl
  obtain ⟨_, ds, _, k1, k2⟩ := h.b9 rfl
  rw [h2 (by omega)] at h1
  rw [k2 (by omega)] at k1
  exact ⟨h1, k1⟩
end
section
variable {ops : Array Oper} {Q : Exit → Act → World → Prop} {K : Act → World → Prop} {i : Nat} {dst : Option Tmp} {js : List Nat} {a : Act} {w w0 : World}
theorem OpIs.allocN (h : OpIs ops i (.alloc 30) dst js) (hk : K (a.put dst (.pointer (some ⟨w.heap.size, 0, none⟩))) (w.alloc (.cells zeroNL 30))) : wpOp Tryz.prog ops Q i K a w :=
  h.go fun o h1 h2 => by
    have hr : (execOp a.eval o).run Tryz.prog w = .ok (.value (.pointer (some ⟨w.heap.size, 0, none⟩))) (w.alloc (.cells zeroNL 30)) := by
      unfold execOp
      rw [h1]
      go_simp
      rfl
    unfold Oper.wp
    rw [hr]
    show K _ _
    rw [h2]
    exact hk
theorem OpIs.allocRN (h : OpIs ops i (.alloc 25) dst js) (hk : K (a.put dst (.pointer (some ⟨w.heap.size, 0, none⟩))) (w.alloc (.cells zeroNL 25))) : wpOp Tryz.prog ops Q i K a w :=
  h.go fun o h1 h2 => by
    have hr : (execOp a.eval o).run Tryz.prog w = .ok (.value (.pointer (some ⟨w.heap.size, 0, none⟩))) (w.alloc (.cells zeroNL 25)) := by
      unfold execOp
      rw [h1]
      go_simp
      rfl
    unfold Oper.wp
    rw [hr]
    show K _ _
    rw [h2]
    exact hk
theorem OpIs.indexNC {j : Tmp} {z : Int} {g o n c m : Nat} (h : OpIs ops i (.indexAddr 40 (.tmp j) (.const (.int .i64 z))) dst js) (hz : z = (m : Nat)) (hj : a.eval (.tmp j) = .slice (some ⟨g, o, none⟩) n c) (hm : m < n) (hk : K (a.put dst (.pointer (some ⟨g, o + m * 4, none⟩))) w) : wpOp Tryz.prog ops Q i K a w :=
  h.go fun op h1 h2 => by
    subst hz
    have hr : (execOp a.eval op).run Tryz.prog w = .ok (.value (.pointer (some ⟨g, o + m * 4, none⟩))) w := by
      unfold execOp
      rw [h1]
      dsimp only
      rw [hj]
      go_simp
    unfold Oper.wp
    rw [hr]
    show K _ _
    rw [h2]
    exact hk
theorem OpIs.indexRN {j k : Tmp} {g o n c m : Nat} (h : OpIs ops i (.indexAddr 39 (.tmp j) (.tmp k)) dst js) (hj : a.eval (.tmp j) = .slice (some ⟨g, o, none⟩) n c) (hk' : a.eval (.tmp k) = .int .i64 (m : Nat)) (hm : m < n) (hk : K (a.put dst (.pointer (some ⟨g, o + m * 4, none⟩))) w) : wpOp Tryz.prog ops Q i K a w :=
  h.go fun op h1 h2 => by
    have hr : (execOp a.eval op).run Tryz.prog w = .ok (.value (.pointer (some ⟨g, o + m * 4, none⟩))) w := by
      unfold execOp
      rw [h1]
      dsimp only
      rw [hj, hk']
      go_simp
    unfold Oper.wp
    rw [hr]
    show K _ _
    rw [h2]
    exact hk
theorem OpIs.loadNs {k : Tmp} {g o m n : Nat} {x : PaC} {xs : List PaC} (h : OpIs ops i (.load 30 (.tmp k)) dst js) (he : a.eval (.tmp k) = .pointer (some ⟨g, o + m * 4, none⟩)) (hr : RowK 4 w (some ⟨g, o, none⟩) n (xs.map paL)) (hx : xs[m]? = some x) (hk : K (a.put dst (paV x)) w) : wpOp Tryz.prog ops Q i K a w :=
  h.go fun op h1 h2 => by
    have hm : m < n := by
      have := hr.len
      simp only [List.length_map] at this
      have := (List.getElem?_eq_some_iff.1 hx).1
      omega
    obtain ⟨b', o', q, hA, hz, g0, g1, g2, g3⟩ := hr.getN hm
    cases hA
    rw [hx] at hz
    cases hz
    have hrun : (execOp a.eval op).run Tryz.prog w = .ok (.value (paV x)) w := by
      clear hr hk hx
      unfold paV execOp
      rw [h1]
      dsimp only
      rw [he]
      go_simp
    unfold Oper.wp
    rw [hrun]
    show K _ _
    rw [h2]
    exact hk
theorem OpIs.loadRNs {k : Tmp} {g o m n : Nat} {x : PaC} {xs : List PaC} (h : OpIs ops i (.load 25 (.tmp k)) dst js) (he : a.eval (.tmp k) = .pointer (some ⟨g, o + m * 4, none⟩)) (hr : RowK 4 w (some ⟨g, o, none⟩) n (xs.map paL)) (hx : xs[m]? = some x) (hk : K (a.put dst (paV x)) w) : wpOp Tryz.prog ops Q i K a w :=
  h.go fun op h1 h2 => by
    have hm : m < n := by
      have := hr.len
      simp only [List.length_map] at this
      have := (List.getElem?_eq_some_iff.1 hx).1
      omega
    obtain ⟨b', o', q, hA, hz, g0, g1, g2, g3⟩ := hr.getN hm
    cases hA
    rw [hx] at hz
    cases hz
    have hrun : (execOp a.eval op).run Tryz.prog w = .ok (.value (paV x)) w := by
      clear hr hk hx
      unfold paV execOp
      rw [h1]
      dsimp only
      rw [he]
      go_simp
    unfold Oper.wp
    rw [hrun]
    show K _ _
    rw [h2]
    exact hk
end
theorem Tryz.rpatchSize : (Tryz.prog.info? 25).map (·.size) = some 4 := by kernel_rfl

end Go.Proofs.YtomboeiaajggoaaGreat

/-
  Operations of a region that are guarded by one that yields true; functions as values.
-/
namespace Go.Proofs.YtomboeiaajggoaaGreat
open Go.RowKit Go.Maps

/-- Operation i of the region, guarded by operation g, whose slot is d. -/
def OpG (ops : Array Oper) (i : Nat) (op : Op) (dst : Option Tmp) (js : List Nat) (g : Nat) (d : Tmp) : Prop := ∃ o, ops[i]? = some o ∧ o.op = op ∧ o.dst = dst ∧ o.guard = some (g, true) ∧ needs o js = true ∧ (ops[g]?).bind (·.dst) = some d
def unguard (ops : Array Oper) (i : Nat) : Array Oper := ops.modify i fun o => { o with guard := none }
theorem OpG.waits {ops : Array Oper} {i g : Nat} {d : Tmp} {op : Op} {dst : Option Tmp} {js : List Nat} (h : OpG ops i op dst js g d) {o : Oper} (ho : ops[i]? = some o) {l : Nat → Bool} (hl : ∀ e ∈ o.after, Region.binds .any e = true → l e.on = true) : ∀ j ∈ js, l j = true := by
  obtain ⟨o', h1, -, -, -, h5, -⟩ := h
  rw [ho] at h1
  cases h1
  intro j hj
  have := List.all_eq_true.1 h5 j hj
  simp only [Array.any_eq_true, Bool.and_eq_true, decide_eq_true_eq] at this
  obtain ⟨k, hk, e1, e2⟩ := this
  rw [← e1]
  exact hl _ (Array.getElem_mem hk) e2
theorem OpG.un {ops : Array Oper} {i g : Nat} {d : Tmp} {op : Op} {dst : Option Tmp} {js : List Nat} (h : OpG ops i op dst js g d) : OpIs (unguard ops i) i op dst [] := by
  obtain ⟨o, h1, h2, h3, -, -, -⟩ := h
  exact ⟨{ o with guard := none }, by simp [unguard, Array.getElem?_modify, h1], h2, h3, rfl, rfl⟩
theorem OpG.via {P : Program} {ops : Array Oper} {Q : Exit → Act → World → Prop} {K : Act → World → Prop} {i g : Nat} {d : Tmp} {op : Op} {dst : Option Tmp} {js : List Nat} {a : Act} {w : World} (h : OpG ops i op dst js g d) (hv : a.eval (.tmp d) = .bool true) (hd : d < a.tmps.size)
    (hk : wpOp P (unguard ops i) Q i K a w) : wpOp P ops Q i K a w := by
  obtain ⟨o, h1, -, -, h4, -, h6⟩ := h
  unfold wpOp at hk ⊢
  rw [h1]
  have e1 : (unguard ops i)[i]? = some { o with guard := none } := by simp [unguard, Array.getElem?_modify, h1]
  rw [e1] at hk
  have e2 : Region.wanted o (yielded ops a.tmps) = true := by
    have ht : a.tmps[d]? = some (.bool true) := by
      rw [Array.getElem?_eq_getElem hd]
      have := hv
      simp only [Act.eval, Array.getD, hd, dif_pos] at this
      exact congrArg some this
    simp only [Region.wanted, h4, yielded]
    rw [h6]
    simp [ht]
  dsimp only at hk ⊢
  rw [if_pos e2]
  rw [if_pos (by rfl)] at hk
  exact hk

section
variable {ops : Array Oper} {Q : Exit → Act → World → Prop} {K : Act → World → Prop} {i : Nat} {dst : Option Tmp} {js : List Nat} {a : Act} {w w0 : World}
theorem OpIs.loadF {k : Tmp} {g : Nat} {fi : FuncId} {lb : Array Value} {t : TypeId} (h : OpIs ops i (.load 136 (.tmp k)) dst js) (he : a.eval (.tmp k) = .pointer (some ⟨g, 0, none⟩)) (hb : BoxAt w g #[.func (.func fi) #[] lb] t) (hk : K (a.put dst (.func (.func fi) #[] lb)) w) : wpOp Tryz.prog ops Q i K a w :=
  h.go fun o h1 h2 => by
    have hc := hb.cell (i := 0) rfl
    have hr : (execOp a.eval o).run Tryz.prog w = .ok (.value (.func (.func fi) #[] lb)) w := by
      clear hb hk
      unfold execOp
      rw [h1]
      dsimp only
      rw [he]
      go_simp
    unfold Oper.wp
    rw [hr]
    show K _ _
    rw [h2]
    exact hk
theorem run_neq_func_nil (w : World) (fi : FuncId) (lb : Array Value) : (binOp .neq 136 (.func (.func fi) #[] lb) .nilFunc).run Tryz.prog w = .ok (.bool true) w := by
  have key : ∀ d, (Op.equalIn (d + 1) 136 (.func (.func fi) #[] lb) .nilFunc).run Tryz.prog w = .ok false w := fun d => by
    simp [Op.equalIn, run_underlying Tryz.underlying136]
  have h : (Op.equal 136 (.func (.func fi) #[] lb) .nilFunc).run Tryz.prog w = .ok false w := key 9999
  simp [binOp, h]
theorem OpIs.notNil {k : Tmp} {fi : FuncId} {lb : Array Value} (h : OpIs ops i (.binOp .neq 136 (.tmp k) (.const .nilFunc) 136) dst js) (he : a.eval (.tmp k) = .func (.func fi) #[] lb) (hk : K (a.put dst (.bool true)) w) : wpOp Tryz.prog ops Q i K a w :=
  h.go fun o h1 h2 => by
    have hr : (execOp a.eval o).run Tryz.prog w = .ok (.value (.bool true)) w := by
      clear hk
      unfold execOp
      rw [h1]
      dsimp only
      rw [he]
      have hn := run_neq_func_nil w fi lb
      go_simp
    unfold Oper.wp
    rw [hr]
    show K _ _
    rw [h2]
    exact hk
theorem OpIs.pick {j k : Tmp} {v : Value} (h : OpIs ops i (.pick (.tmp j) (.tmp k) (.const (.bool false))) dst js) (hj : a.eval (.tmp j) = .bool true) (hv : a.eval (.tmp k) = v) (hk : K (a.put dst v) w) : wpOp Tryz.prog ops Q i K a w :=
  h.go fun o h1 h2 => by
    have hr : (execOp a.eval o).run Tryz.prog w = .ok (.value v) w := by
      clear hk
      unfold execOp
      rw [h1]
      dsimp only
      rw [hj, hv]
      go_simp
    unfold Oper.wp
    rw [hr]
    show K _ _
    rw [h2]
    exact hk
/-- A prim of a row is read. -/
theorem OpIs.loadP {k : Tmp} {g o m n : Nat} {x : PrC} {xs : List PrC} (h : OpIs ops i (.load 69 (.tmp k)) dst js) (he : a.eval (.tmp k) = .pointer (some ⟨g, o + m * 6, none⟩)) (hr : RowK 6 w (some ⟨g, o, none⟩) n (xs.map prL)) (hx : xs[m]? = some x) (hk : K (a.put dst (prV x)) w) : wpOp Tryz.prog ops Q i K a w :=
  h.go fun op h1 h2 => by
    have hm : m < n := by
      have := hr.len
      simp only [List.length_map] at this
      have := (List.getElem?_eq_some_iff.1 hx).1
      omega
    obtain ⟨b', o', q, hA, hz, g0, g1, g2, g3, g4, g5⟩ := hr.getP hm
    cases hA
    rw [hx] at hz
    cases hz
    have hrun : (execOp a.eval op).run Tryz.prog w = .ok (.value (prV x)) w := by
      clear hr hk hx
      unfold prV execOp
      rw [h1]
      dsimp only
      rw [he]
      go_simp
    unfold Oper.wp
    rw [hrun]
    show K _ _
    rw [h2]
    exact hk
/-- A function value is called. -/
theorem OpIs.callF {f k m : Tmp} {t s : TypeId} {v u : Value} {fi : FuncId} {lb : Array Value} {Post : Ending → World → Prop} (h : OpIs ops i (.call { callee := .value (.tmp f), args := #[.tmp k, .tmp m], argTypes := #[t, s] }) dst js) (hf : ∀ args w, (callFunc fi args).run Tryz.prog w = .ok (.enter fi args) w)
    (he0 : a.eval (.tmp f) = .func (.func fi) #[] lb) (he : a.eval (.tmp k) = v) (he2 : a.eval (.tmp m) = u) (hc : Calls Tryz.prog fi (#[v, u] ++ lb) w Post) (hk : ∀ e w', Post e w' → ∃ r, e = .returned r ∧ K (a.put dst r) w') : wpOp Tryz.prog ops Q i K a w :=
  h.go fun o h1 h2 => by
    have hr : (execOp a.eval o).run Tryz.prog w = .ok (.enter fi (#[v, u] ++ lb)) w := by
      unfold execOp
      rw [h1]
      simp only [resolve, invoke, Sem.run_bind, List.map_toArray, List.map_cons, List.map_nil, he0, he, he2]
      go_simp
    unfold Oper.wp
    rw [hr]
    show Calls _ _ _ _ _
    refine hc.mono ?_
    intro e w' hp
    obtain ⟨r, rfl, hku⟩ := hk e w' hp
    dsimp only
    rw [h2]
    exact hku
end

end Go.Proofs.YtomboeiaajggoaaGreat
