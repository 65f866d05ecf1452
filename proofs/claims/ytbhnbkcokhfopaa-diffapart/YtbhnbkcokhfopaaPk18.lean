import Derived.Test.YtbhnbkcokhfopaaRows
import Derived.Test.YtbhnbkcokhfopaaChecked
import Derived.Test.YtbhnbkcokhfopaaPk1
import Derived.Test.YtbhnbkcokhfopaaPk3
import Derived.ProofKit
import Derived.OpenShut
import Derived.SizedLaws
import Derived.SliceStrings
import Derived.Test.YtbhnbkcokhfopaaPk2
import Derived.Deep.LoopGhost
import Derived.Deep.QuietTactic
import Derived.BigQuiet
import Derived.Lib.Hide
import Derived.Test.YtbhnbkcokhfopaaPk15
import Derived.Test.YtbhnbkcokhfopaaPk11
import Derived.Test.YtbhnbkcokhfopaaPk12
import Derived.Test.YtbhnbkcokhfopaaPk13
import Derived.Test.YtbhnbkcokhfopaaPk9
import Derived.Deep.MidRow
import Derived.Test.YtbhnbkcokhfopaaPk17

/-
  Rows of lines that come in: from what is read as data to what the calls ask.
-/
namespace Go.Proofs.Ytbhnbkcokhfopaa
open Go.ChangeShapes Go.WideShapes Go.ChangeAt Go.RowKit

theorem Try.own : ownKnob Try.prog.godebug = none := by kernel_rfl

theorem Try.laidOut : laidOutB Try.prog = true := by kernel_rfl

theorem Try.cells9 : Try.prog.cellsOf 9 = 1 := by kernel_rfl

theorem Try.bytes9 : Try.prog.bytesOf 9 = 16 := by kernel_rfl

theorem weights_strs {H : Type} {P : Program} {e : TypeId} : ∀ {ss : List ByteArray} {s : ByteArray}, s ∈ ss → s.size ∈ DataW.weightsAll (H := H) P e (strs ss)
  | [], _, h => by simp at h
  | x :: ss, s, h => by
    simp only [strs, List.map_cons, DataW.weightsAll, List.mem_append]
    rcases List.mem_cons.1 h with rfl | h
    · left; simp [DataW.weights]
    · right; exact weights_strs h

/-- A row of lines that came in, nil or not. -/
theorem came_of {H : Type} {enc : TypeId × Value → H} {W : World} {a0 : Option Addr} {len cap fuel : Nat} {x : DataW H × List MemPlace}
    (hf : DataW.trod enc Try.prog W 0 (fun _ => true) true fuel 22 [.slice a0 len cap] = some x) (hw : ∀ k ∈ x.1.weights Try.prog 22, k ≤ reachBytes) : ∃ ss, Came W a0 len cap ss := by
  rcases open_strings Try.underlying22 Try.underlying9 Try.cells9 hf with ⟨hcs, hx⟩ | ⟨a, len', cap', ss, hcs, _, hl, hm, hz, hx, hcell, _⟩
  · simp at hcs
    obtain ⟨rfl, rfl, rfl⟩ := hcs
    exact ⟨[], Row.none, Nat.le_refl _, Nat.zero_le _, fun s hs => by simp at hs⟩
  · simp at hcs
    obtain ⟨rfl, rfl, rfl⟩ := hcs
    subst hx
    simp only [if_true] at hz
    have hbig := reachBytes_lt
    have hwt : ∀ k ∈ (DataW.slice (H := H) (strs (ss.take len)) (strs (ss.drop len))).weights Try.prog 22, k ≤ reachBytes := hw
    simp only [DataW.weights, Try.underlying22, Try.bytes9] at hwt
    obtain ⟨b, off, spot⟩ := a
    refine ⟨ss.take len, ⟨by rw [List.length_take]; omega, fun h0 => ?_⟩, hl, ?_, fun s hs => ?_⟩
    · have hspot : spot = none := by simpa [Addr.add] using World.cell?_spot (hcell 0 (by omega))
      subst hspot
      refine ⟨b, off, rfl, fun j s hs => ?_⟩
      have hj : j < len := by
        have := (List.getElem?_eq_some_iff.1 hs).1
        rw [List.length_take] at this; omega
      rw [List.getElem?_take_of_lt hj] at hs
      have := hcell j (by omega)
      rw [plain_add] at this
      rw [this]
      simp [List.getD, hs]
    · have := hwt _ (List.mem_cons_self)
      simp only [strs, List.length_map, List.length_take, List.length_drop] at this
      omega
    · have := hwt s.size (List.mem_cons_of_mem _ (List.mem_append_left _ (weights_strs hs)))
      omega

/-- What the reach says of the argument at place j. -/
theorem reach_at {H : Type} {ts : List TypeId} {ds : List (DataW H)} (h : (DataW.weightsEach Try.prog ts ds).all (· ≤ reachBytes) = true) {j : Nat} {t : TypeId} {d : DataW H} (ht : ts[j]? = some t) (hd : ds[j]? = some d) :
    ∀ k ∈ d.weights Try.prog t, k ≤ reachBytes := fun k hk => by
  have := List.all_eq_true.1 h k (DataW.weights_mem_each ht hd k hk)
  simpa using this

end Go.Proofs.Ytbhnbkcokhfopaa

/-
  What layer 6's own test for few lines comes to, as a call: if it says so, there are at most 40 in each row.
-/
namespace Go.Proofs.Ytbhnbkcokhfopaa
open Go.RowKit

/-- A bool; if it is true, there are few. -/
def FewEnd6 (n m : Nat) (w : World) (e : Ending) (w' : World) : Prop := ∃ b : Bool, e = .returned (.bool b) ∧ (b = true → n ≤ 40 ∧ m ≤ 40) ∧ Later w w'

set_option maxHeartbeats 800000 in
theorem few6_any (A B : Option Addr) (n c m d : Nat) (la lb : List ByteArray) (w : World) (ha : Row w A n la) (hb : Row w B m lb) (hn : n ≤ 140737488355328) (hm : m ≤ 140737488355328) :
    Calls Try.prog 9 #[.slice A n c, .slice B m d] w (FewEnd6 n m w) := by
  have hl : Later w (w.alloc (.cells #[.slice A n c, .slice B m d] 22)) := (Later.refl w).alloc _
  have HA := Lib.hid (ha.later hl); have HB := Lib.hid (hb.later hl); have HL := Lib.hid hl
  have c0 : (w.alloc (.cells #[.slice A n c, .slice B m d] 22)).cell? ⟨w.heap.size, 0, none⟩ = some (.slice A n c) := by simp
  have c1 : (w.alloc (.cells #[.slice A n c, .slice B m d] 22)).cell? ⟨w.heap.size, 1, none⟩ = some (.slice B m d) := by simp
  clear ha hb hl
  go_enter Try.func9, Try.ntmps9
  go_wp2
  generalize w.alloc (.cells #[.slice A n c, .slice B m d] 22) = w1 at HA HB HL c0 c1 ⊢
  generalize w.heap.size = g at c0 c1 ⊢
  go_loop [5, 14] (fun s5 s14 => ∃ (i : Nat) (x : Int), i ≤ 2 ∧ s14 = .int .i64 (i : Nat) ∧ s5 = .int .i64 x) (fun _ s14 => 2 - (intOf s14).toNat)
  case atStart => exact ⟨0, 0, by omega, rfl, rfl⟩
  case round =>
    obtain ⟨i, x, hi, rfl, rfl⟩ := hrel
    rcases (by omega : i = 0 ∨ i = 1 ∨ i = 2) with rfl | rfl | rfl
    · go_wp2
      go_loop [5, 20] (fun s5 s20 => ∃ (j : Nat) (y : Int), j ≤ n ∧ s20 = .int .i64 (j : Nat) ∧ s5 = .int .i64 y) (fun _ s20 => n - (intOf s20).toNat)
      case atStart => exact ⟨0, x, Nat.zero_le _, rfl, rfl⟩
      case round =>
        obtain ⟨j, y, hj, rfl, rfl⟩ := hrel
        by_cases hlt : j < n
        · obtain ⟨b1, o1, rfl, g2⟩ := HA.out.get hlt
          generalize la.getD j ByteArray.empty = s at g2
          go_wp2
          exact ⟨⟨j + 1, _, by omega, by go_num, rfl⟩, by simp [intOf]; omega⟩
        · go_wp2
          exact ⟨⟨1, y, by omega, by go_num, rfl⟩, by simp [intOf]⟩
    · go_wp2
      go_loop [5, 20] (fun s5 s20 => ∃ (j : Nat) (y : Int), j ≤ m ∧ s20 = .int .i64 (j : Nat) ∧ s5 = .int .i64 y) (fun _ s20 => m - (intOf s20).toNat)
      case atStart => exact ⟨0, x, Nat.zero_le _, rfl, rfl⟩
      case round =>
        obtain ⟨j, y, hj, rfl, rfl⟩ := hrel
        by_cases hlt : j < m
        · obtain ⟨b1, o1, rfl, g2⟩ := HB.out.get hlt
          generalize lb.getD j ByteArray.empty = s at g2
          go_wp2
          exact ⟨⟨j + 1, _, by omega, by go_num, rfl⟩, by simp [intOf]; omega⟩
        · go_wp2
          exact ⟨⟨2, y, by omega, by go_num, rfl⟩, by simp [intOf]⟩
    · go_wp2
      all_goals
        go_ret
        refine ⟨_, rfl, ?_, HL.out⟩
        simp
        try omega

end Go.Proofs.Ytbhnbkcokhfopaa

/-
  What swap's Swap comes to, as a call: what it tells lies behind all that was there.
-/
namespace Go.Proofs.Ytbhnbkcokhfopaa
open Go.RowKit Go.Maps

/-- Two prims, behind all that was there, and a Bool. -/
def GivesF (r : Pr × Pr × Bool) (w : World) (e : Ending) (w' : World) : Prop :=
  ∃ a b : PrC, e = .returned (.tuple #[prV a, prV b, .bool r.2.2]) ∧ a.v = r.1 ∧ b.v = r.2.1 ∧ PrOk w' a ∧ PrOk w' b ∧ Fresh w a ∧ Fresh w b ∧ Later w w'
theorem fresh_zero (w : World) : Fresh w zeroC := ⟨(fun k h => by cases h), (fun k h => by cases h)⟩

set_option maxRecDepth 100000 in
set_option maxHeartbeats 1600000 in
theorem swap_fresh (x y : PrC) (w : World) (hx : PrOk w x) (hy : PrOk w y) :
    Calls Try.prog 27 #[prV x, prV y] w (GivesF (swapR (swapP x.v y.v)) w) := by
  obtain ⟨b0, b1, b2, b3, hl⟩ := four_boxes w #[.int .i64 x.v.kind, .string x.v.name, .string x.v.to, .int .i64 x.v.place, .slice x.A x.n x.c, .slice x.B x.m x.d] #[.int .i64 y.v.kind, .string y.v.name, .string y.v.to, .int .i64 y.v.place, .slice y.A y.n y.c, .slice y.B y.m y.d] #[.int .i64 0, .string ⟨#[]⟩, .string ⟨#[]⟩, .int .i64 0, .slice none 0 0, .slice none 0 0] #[.int .i64 0, .string ⟨#[]⟩, .string ⟨#[]⟩, .int .i64 0, .slice none 0 0, .slice none 0 0] 51
  have HR1 := Lib.hid (fun (w' : World) (h : Later w w') => primRight_any x w' (hx.later h))
  have HR2 := Lib.hid (fun (w' : World) (h : Later w w') => primRight_any y w' (hy.later h))
  have HTN := Lib.hid (fun (hp : rightP x.v = true) (hq : rightP y.v = true) (w' : World) (h : Later w w') => turn_any x y w' (hx.later h) (hy.later h) hp hq)
  have HX := Lib.hid hx; have HY := Lib.hid hy
  clear hx hy
  unfold prV at HR1 HR2 HTN ⊢
  cases hp : rightP x.v
  · rw [swapR_none (swapP_not _ _ (by simp [hp]))]
    rw [hp] at HR1
    clear HR2 HTN hp
    go_enter Try.func27, Try.ntmps27
    go_wp2_with fail
    refine (HR1.out _ hl).mono ?_
    generalize (((w.alloc (.cells #[.int .i64 x.v.kind, .string x.v.name, .string x.v.to, .int .i64 x.v.place, .slice x.A x.n x.c, .slice x.B x.m x.d] 51)).alloc (.cells #[.int .i64 y.v.kind, .string y.v.name, .string y.v.to, .int .i64 y.v.place, .slice y.A y.n y.c, .slice y.B y.m y.d] 51)).alloc (.cells #[.int .i64 0, .string ⟨#[]⟩, .string ⟨#[]⟩, .int .i64 0, .slice none 0 0, .slice none 0 0] 51)).alloc (.cells #[.int .i64 0, .string ⟨#[]⟩, .string ⟨#[]⟩, .int .i64 0, .slice none 0 0, .slice none 0 0] 51) = wb at b0 b1 b2 b3 hl ⊢
    rintro e w1 ⟨rfl, hlw⟩
    have hsz := b3.lt
    have c2 := b2.later hlw
    have u0 := c2.cell (i := 0) rfl; have u1 := c2.cell (i := 1) rfl; have u2 := c2.cell (i := 2) rfl; have u3 := c2.cell (i := 3) rfl; have u4 := c2.cell (i := 4) rfl; have u5 := c2.cell (i := 5) rfl
    have v0 := c2.frozen 0; have v1 := c2.frozen 1; have v2 := c2.frozen 2; have v3 := c2.frozen 3; have v4 := c2.frozen 4; have v5 := c2.frozen 5
    have k2 := turned_set6 w1 (w.heap.size + 1 + 1) (.int .i64 0) (.string ⟨#[]⟩) (.string ⟨#[]⟩) (.int .i64 0) (.slice none 0 0) (.slice none 0 0)
    have c3 := (b3.later hlw).other k2 (by omega)
    have r0 := c3.cell (i := 0) rfl; have r1 := c3.cell (i := 1) rfl; have r2 := c3.cell (i := 2) rfl; have r3 := c3.cell (i := 3) rfl; have r4 := c3.cell (i := 4) rfl; have r5 := c3.cell (i := 5) rfl
    have t0 := c3.frozen 0; have t1 := c3.frozen 1; have t2 := c3.frozen 2; have t3 := c3.frozen 3; have t4 := c3.frozen 4; have t5 := c3.frozen 5
    have k3 := turned_set6 ((((((w1.setCell ⟨w.heap.size + 1 + 1, 0, none⟩ (.int .i64 0)).setCell ⟨w.heap.size + 1 + 1, 1, none⟩ (.string ⟨#[]⟩)).setCell ⟨w.heap.size + 1 + 1, 2, none⟩ (.string ⟨#[]⟩)).setCell ⟨w.heap.size + 1 + 1, 3, none⟩ (.int .i64 0)).setCell ⟨w.heap.size + 1 + 1, 4, none⟩ (.slice none 0 0)).setCell ⟨w.heap.size + 1 + 1, 5, none⟩ (.slice none 0 0)) (w.heap.size + 1 + 1 + 1) (.int .i64 0) (.string ⟨#[]⟩) (.string ⟨#[]⟩) (.int .i64 0) (.slice none 0 0) (.slice none 0 0)
    have HK2z := Lib.hid k2; have HK3z := Lib.hid k3; have HC2z := Lib.hid ((c2.set6 (.int .i64 0) (.string ⟨#[]⟩) (.string ⟨#[]⟩) (.int .i64 0) (.slice none 0 0) (.slice none 0 0)).other k3 (by omega)); have HC3z := Lib.hid (c3.set6 (.int .i64 0) (.string ⟨#[]⟩) (.string ⟨#[]⟩) (.int .i64 0) (.slice none 0 0) (.slice none 0 0))
    clear k2 k3 c2 c3
    have HL := Lib.hid (hl.trans hlw)
    clear b0 b1 b2 b3 hl hlw HR1
    go_wp2
    exact bodyPost_ret (results_two rfl _ _ _ _ _ _ _ _ _ _ _ _ rfl rfl rfl HC2z.out HC3z.out Try.underlying51 rfl Try.primSize Try.primSize) rfl
      ⟨zeroC, zeroC, rfl, rfl, rfl, zeroC_ok _, zeroC_ok _, fresh_zero w, fresh_zero w, ((HL.out).turn HK2z.out (by omega)).turn HK3z.out (by omega)⟩
  cases hq : rightP y.v
  · rw [swapR_none (swapP_not _ _ (by simp [hq]))]
    rw [hp] at HR1
    rw [hq] at HR2
    clear HTN hp hq
    go_enter Try.func27, Try.ntmps27
    go_wp2_with fail
    refine (HR1.out _ hl).mono ?_
    generalize (((w.alloc (.cells #[.int .i64 x.v.kind, .string x.v.name, .string x.v.to, .int .i64 x.v.place, .slice x.A x.n x.c, .slice x.B x.m x.d] 51)).alloc (.cells #[.int .i64 y.v.kind, .string y.v.name, .string y.v.to, .int .i64 y.v.place, .slice y.A y.n y.c, .slice y.B y.m y.d] 51)).alloc (.cells #[.int .i64 0, .string ⟨#[]⟩, .string ⟨#[]⟩, .int .i64 0, .slice none 0 0, .slice none 0 0] 51)).alloc (.cells #[.int .i64 0, .string ⟨#[]⟩, .string ⟨#[]⟩, .int .i64 0, .slice none 0 0, .slice none 0 0] 51) = wb at b0 b1 b2 b3 hl ⊢
    rintro e w1 ⟨rfl, hlw⟩
    have hsz := b3.lt
    obtain ⟨q0, q1, q2, q3, q4, q5⟩ := BoxAt.all (x := y) (b1.later hlw)
    have HB2 := Lib.hid (b2.later hlw); have HB3 := Lib.hid (b3.later hlw); have HL1 := Lib.hid (hl.trans hlw)
    clear b0 b1 b2 b3 hl hlw HR1
    go_wp2_with fail
    refine (HR2.out _ HL1.out).mono ?_
    rintro e w2 ⟨rfl, hlw⟩
    clear q0 q1 q2 q3 q4 q5
    have c2 := HB2.out.later hlw
    have u0 := c2.cell (i := 0) rfl; have u1 := c2.cell (i := 1) rfl; have u2 := c2.cell (i := 2) rfl; have u3 := c2.cell (i := 3) rfl; have u4 := c2.cell (i := 4) rfl; have u5 := c2.cell (i := 5) rfl
    have v0 := c2.frozen 0; have v1 := c2.frozen 1; have v2 := c2.frozen 2; have v3 := c2.frozen 3; have v4 := c2.frozen 4; have v5 := c2.frozen 5
    have k2 := turned_set6 w2 (w.heap.size + 1 + 1) (.int .i64 0) (.string ⟨#[]⟩) (.string ⟨#[]⟩) (.int .i64 0) (.slice none 0 0) (.slice none 0 0)
    have c3 := (HB3.out.later hlw).other k2 (by omega)
    have r0 := c3.cell (i := 0) rfl; have r1 := c3.cell (i := 1) rfl; have r2 := c3.cell (i := 2) rfl; have r3 := c3.cell (i := 3) rfl; have r4 := c3.cell (i := 4) rfl; have r5 := c3.cell (i := 5) rfl
    have t0 := c3.frozen 0; have t1 := c3.frozen 1; have t2 := c3.frozen 2; have t3 := c3.frozen 3; have t4 := c3.frozen 4; have t5 := c3.frozen 5
    have k3 := turned_set6 ((((((w2.setCell ⟨w.heap.size + 1 + 1, 0, none⟩ (.int .i64 0)).setCell ⟨w.heap.size + 1 + 1, 1, none⟩ (.string ⟨#[]⟩)).setCell ⟨w.heap.size + 1 + 1, 2, none⟩ (.string ⟨#[]⟩)).setCell ⟨w.heap.size + 1 + 1, 3, none⟩ (.int .i64 0)).setCell ⟨w.heap.size + 1 + 1, 4, none⟩ (.slice none 0 0)).setCell ⟨w.heap.size + 1 + 1, 5, none⟩ (.slice none 0 0)) (w.heap.size + 1 + 1 + 1) (.int .i64 0) (.string ⟨#[]⟩) (.string ⟨#[]⟩) (.int .i64 0) (.slice none 0 0) (.slice none 0 0)
    have HK2z := Lib.hid k2; have HK3z := Lib.hid k3; have HC2z := Lib.hid ((c2.set6 (.int .i64 0) (.string ⟨#[]⟩) (.string ⟨#[]⟩) (.int .i64 0) (.slice none 0 0) (.slice none 0 0)).other k3 (by omega)); have HC3z := Lib.hid (c3.set6 (.int .i64 0) (.string ⟨#[]⟩) (.string ⟨#[]⟩) (.int .i64 0) (.slice none 0 0) (.slice none 0 0))
    clear k2 k3 c2 c3
    have HL := Lib.hid (HL1.out.trans hlw)
    clear hlw HR2
    go_wp2
    exact bodyPost_ret (results_two rfl _ _ _ _ _ _ _ _ _ _ _ _ rfl rfl rfl HC2z.out HC3z.out Try.underlying51 rfl Try.primSize Try.primSize) rfl
      ⟨zeroC, zeroC, rfl, rfl, rfl, zeroC_ok _, zeroC_ok _, fresh_zero w, fresh_zero w, ((HL.out).turn HK2z.out (by omega)).turn HK3z.out (by omega)⟩
  rw [hp] at HR1
  rw [hq] at HR2
  generalize hR : swapR (swapP x.v y.v) = R
  have HRR := Lib.hid hR
  clear hR
  go_enter Try.func27, Try.ntmps27
  go_wp2_with fail
  refine (HR1.out _ hl).mono ?_
  generalize (((w.alloc (.cells #[.int .i64 x.v.kind, .string x.v.name, .string x.v.to, .int .i64 x.v.place, .slice x.A x.n x.c, .slice x.B x.m x.d] 51)).alloc (.cells #[.int .i64 y.v.kind, .string y.v.name, .string y.v.to, .int .i64 y.v.place, .slice y.A y.n y.c, .slice y.B y.m y.d] 51)).alloc (.cells #[.int .i64 0, .string ⟨#[]⟩, .string ⟨#[]⟩, .int .i64 0, .slice none 0 0, .slice none 0 0] 51)).alloc (.cells #[.int .i64 0, .string ⟨#[]⟩, .string ⟨#[]⟩, .int .i64 0, .slice none 0 0, .slice none 0 0] 51) = wb at b0 b1 b2 b3 hl ⊢
  rintro e w1 ⟨rfl, hlw⟩
  have hsz := b3.lt
  obtain ⟨q0, q1, q2, q3, q4, q5⟩ := BoxAt.all (x := y) (b1.later hlw)
  have HB0 := Lib.hid (b0.later hlw); have HB1 := Lib.hid (b1.later hlw); have HB2 := Lib.hid (b2.later hlw); have HB3 := Lib.hid (b3.later hlw); have HL1 := Lib.hid (hl.trans hlw)
  clear b0 b1 b2 b3 hl hlw HR1
  go_wp2_with fail
  refine (HR2.out _ HL1.out).mono ?_
  rintro e w2 ⟨rfl, hlw⟩
  clear q0 q1 q2 q3 q4 q5
  obtain ⟨p0, p1, p2, p3, p4, p5⟩ := BoxAt.all (x := x) (HB0.out.later hlw)
  obtain ⟨q0, q1, q2, q3, q4, q5⟩ := BoxAt.all (x := y) (HB1.out.later hlw)
  have hlt2 := (HB3.out.later hlw).lt
  have HB4 := Lib.hid (HB2.out.later hlw); have HB5 := Lib.hid (HB3.out.later hlw); have HL2 := Lib.hid (HL1.out.trans hlw)
  clear hlw HR2
  go_wp2_with fail
  refine (HTN.out hp hq _ HL2.out).mono ?_
  rintro e w3 ⟨a, b, rfl, ha, hb, hao, hlw⟩
  clear p0 p1 p2 p3 p4 p5 q0 q1 q2 q3 q4 q5 HTN HB0 HB1 HB2 HB3
  have hsw : R = swapR (heedP (a.v, b.v, (turnP x.v y.v).2.2)) := by rw [← HRR.out, heed_of hp hq ha hb rfl]
  have HSW := Lib.hid hsw
  clear hsw
  generalize (turnP x.v y.v).2.2 = t at HSW ⊢
  clear ha hb HRR
  obtain ⟨hao1, hbo1⟩ := hao w HX.out HY.out
  have HAO := Lib.hid hao1; have HBO := Lib.hid hbo1
  clear hao hao1 hbo1 hp hq HX HY
  have c2 := HB4.out.later hlw
  have u0 := c2.cell (i := 0) rfl; have u1 := c2.cell (i := 1) rfl; have u2 := c2.cell (i := 2) rfl; have u3 := c2.cell (i := 3) rfl; have u4 := c2.cell (i := 4) rfl; have u5 := c2.cell (i := 5) rfl
  have v0 := c2.frozen 0; have v1 := c2.frozen 1; have v2 := c2.frozen 2; have v3 := c2.frozen 3; have v4 := c2.frozen 4; have v5 := c2.frozen 5
  have k2 := turned_set6 w3 (w.heap.size + 1 + 1) (.int .i64 a.v.kind) (.string a.v.name) (.string a.v.to) (.int .i64 a.v.place) (.slice a.A a.n a.c) (.slice a.B a.m a.d)
  have c3 := (HB5.out.later hlw).other k2 (by omega)
  have r0 := c3.cell (i := 0) rfl; have r1 := c3.cell (i := 1) rfl; have r2 := c3.cell (i := 2) rfl; have r3 := c3.cell (i := 3) rfl; have r4 := c3.cell (i := 4) rfl; have r5 := c3.cell (i := 5) rfl
  have t0 := c3.frozen 0; have t1 := c3.frozen 1; have t2 := c3.frozen 2; have t3 := c3.frozen 3; have t4 := c3.frozen 4; have t5 := c3.frozen 5
  have k3 := turned_set6 ((((((w3.setCell ⟨w.heap.size + 1 + 1, 0, none⟩ (.int .i64 a.v.kind)).setCell ⟨w.heap.size + 1 + 1, 1, none⟩ (.string a.v.name)).setCell ⟨w.heap.size + 1 + 1, 2, none⟩ (.string a.v.to)).setCell ⟨w.heap.size + 1 + 1, 3, none⟩ (.int .i64 a.v.place)).setCell ⟨w.heap.size + 1 + 1, 4, none⟩ (.slice a.A a.n a.c)).setCell ⟨w.heap.size + 1 + 1, 5, none⟩ (.slice a.B a.m a.d)) (w.heap.size + 1 + 1 + 1) (.int .i64 b.v.kind) (.string b.v.name) (.string b.v.to) (.int .i64 b.v.place) (.slice b.A b.n b.c) (.slice b.B b.m b.d)
  have HK2 := Lib.hid k2; have HK3 := Lib.hid k3; have HC2 := Lib.hid ((c2.set6 (.int .i64 a.v.kind) (.string a.v.name) (.string a.v.to) (.int .i64 a.v.place) (.slice a.A a.n a.c) (.slice a.B a.m a.d)).other k3 (by omega)); have HC3 := Lib.hid (c3.set6 (.int .i64 b.v.kind) (.string b.v.name) (.string b.v.to) (.int .i64 b.v.place) (.slice b.A b.n b.c) (.slice b.B b.m b.d))
  clear k2 k3 c2 c3
  have HL3 := Lib.hid (((HL2.out.trans hlw).turn HK2.out (by omega)).turn HK3.out (by omega))
  clear hlw HK2 HK3 HB4 HB5
  unfold prV
  go_upto_region 4 with fail
  generalize (((((((((((w3.setCell ⟨w.heap.size + 1 + 1, 0, none⟩ (.int .i64 a.v.kind)).setCell ⟨w.heap.size + 1 + 1, 1, none⟩ (.string a.v.name)).setCell ⟨w.heap.size + 1 + 1, 2, none⟩ (.string a.v.to)).setCell ⟨w.heap.size + 1 + 1, 3, none⟩ (.int .i64 a.v.place)).setCell ⟨w.heap.size + 1 + 1, 4, none⟩ (.slice a.A a.n a.c)).setCell ⟨w.heap.size + 1 + 1, 5, none⟩ (.slice a.B a.m a.d)).setCell ⟨w.heap.size + 1 + 1 + 1, 0, none⟩ (.int .i64 b.v.kind)).setCell ⟨w.heap.size + 1 + 1 + 1, 1, none⟩ (.string b.v.name)).setCell ⟨w.heap.size + 1 + 1 + 1, 2, none⟩ (.string b.v.to)).setCell ⟨w.heap.size + 1 + 1 + 1, 3, none⟩ (.int .i64 b.v.place)).setCell ⟨w.heap.size + 1 + 1 + 1, 4, none⟩ (.slice b.A b.n b.c)).setCell ⟨w.heap.size + 1 + 1 + 1, 5, none⟩ (.slice b.B b.m b.d) = w4 at HC2 HC3 HL3 ⊢
  clear u0 u1 u2 u3 u4 u5 v0 v1 v2 v3 v4 v5 r0 r1 r2 r3 r4 r5 t0 t1 t2 t3 t4 t5
  have HRA := Lib.hid (fun (w' : World) (h : Later w w') => primRight_any a w' (HAO.out.later h))
  have HRB := Lib.hid (fun (w' : World) (h : Later w w') => primRight_any b w' (HBO.out.later h))
  unfold prV at HRA HRB
  cases t
  · obtain rfl : R = noneP := by rw [HSW.out, heed_false]; rfl
    clear HSW HRA HRB
    have c2 := HC2.out
    have u0 := c2.cell (i := 0) rfl; have u1 := c2.cell (i := 1) rfl; have u2 := c2.cell (i := 2) rfl; have u3 := c2.cell (i := 3) rfl; have u4 := c2.cell (i := 4) rfl; have u5 := c2.cell (i := 5) rfl
    have v0 := c2.frozen 0; have v1 := c2.frozen 1; have v2 := c2.frozen 2; have v3 := c2.frozen 3; have v4 := c2.frozen 4; have v5 := c2.frozen 5
    have k2 := turned_set6 w4 (w.heap.size + 1 + 1) (.int .i64 0) (.string ⟨#[]⟩) (.string ⟨#[]⟩) (.int .i64 0) (.slice none 0 0) (.slice none 0 0)
    have c3 := (HC3.out).other k2 (by omega)
    have r0 := c3.cell (i := 0) rfl; have r1 := c3.cell (i := 1) rfl; have r2 := c3.cell (i := 2) rfl; have r3 := c3.cell (i := 3) rfl; have r4 := c3.cell (i := 4) rfl; have r5 := c3.cell (i := 5) rfl
    have t0 := c3.frozen 0; have t1 := c3.frozen 1; have t2 := c3.frozen 2; have t3 := c3.frozen 3; have t4 := c3.frozen 4; have t5 := c3.frozen 5
    have k3 := turned_set6 ((((((w4.setCell ⟨w.heap.size + 1 + 1, 0, none⟩ (.int .i64 0)).setCell ⟨w.heap.size + 1 + 1, 1, none⟩ (.string ⟨#[]⟩)).setCell ⟨w.heap.size + 1 + 1, 2, none⟩ (.string ⟨#[]⟩)).setCell ⟨w.heap.size + 1 + 1, 3, none⟩ (.int .i64 0)).setCell ⟨w.heap.size + 1 + 1, 4, none⟩ (.slice none 0 0)).setCell ⟨w.heap.size + 1 + 1, 5, none⟩ (.slice none 0 0)) (w.heap.size + 1 + 1 + 1) (.int .i64 0) (.string ⟨#[]⟩) (.string ⟨#[]⟩) (.int .i64 0) (.slice none 0 0) (.slice none 0 0)
    have HK2z := Lib.hid k2; have HK3z := Lib.hid k3; have HC2z := Lib.hid ((c2.set6 (.int .i64 0) (.string ⟨#[]⟩) (.string ⟨#[]⟩) (.int .i64 0) (.slice none 0 0) (.slice none 0 0)).other k3 (by omega)); have HC3z := Lib.hid (c3.set6 (.int .i64 0) (.string ⟨#[]⟩) (.string ⟨#[]⟩) (.int .i64 0) (.slice none 0 0) (.slice none 0 0))
    clear k2 k3 c2 c3
    go_wp2
    exact bodyPost_ret (results_two rfl _ _ _ _ _ _ _ _ _ _ _ _ rfl rfl rfl HC2z.out HC3z.out Try.underlying51 rfl Try.primSize Try.primSize) rfl
      ⟨zeroC, zeroC, rfl, rfl, rfl, zeroC_ok _, zeroC_ok _, fresh_zero w, fresh_zero w, ((HL3.out).turn HK2z.out (by omega)).turn HK3z.out (by omega)⟩
  obtain ⟨y0, y1, y2, y3, y4, y5⟩ := BoxAt.all (x := a) HC2.out
  cases ha : rightP a.v
  · obtain rfl : R = noneP := by rw [HSW.out]; simp [heedP, ha, swapR]
    rw [ha] at HRA
    clear HSW HRB ha
    go_wp2_with fail
    refine (HRA.out _ HL3.out).mono ?_
    rintro e w5 ⟨rfl, hlw⟩
    clear y0 y1 y2 y3 y4 y5
    have c2 := HC2.out.later hlw
    have u0 := c2.cell (i := 0) rfl; have u1 := c2.cell (i := 1) rfl; have u2 := c2.cell (i := 2) rfl; have u3 := c2.cell (i := 3) rfl; have u4 := c2.cell (i := 4) rfl; have u5 := c2.cell (i := 5) rfl
    have v0 := c2.frozen 0; have v1 := c2.frozen 1; have v2 := c2.frozen 2; have v3 := c2.frozen 3; have v4 := c2.frozen 4; have v5 := c2.frozen 5
    have k2 := turned_set6 w5 (w.heap.size + 1 + 1) (.int .i64 0) (.string ⟨#[]⟩) (.string ⟨#[]⟩) (.int .i64 0) (.slice none 0 0) (.slice none 0 0)
    have c3 := (HC3.out.later hlw).other k2 (by omega)
    have r0 := c3.cell (i := 0) rfl; have r1 := c3.cell (i := 1) rfl; have r2 := c3.cell (i := 2) rfl; have r3 := c3.cell (i := 3) rfl; have r4 := c3.cell (i := 4) rfl; have r5 := c3.cell (i := 5) rfl
    have t0 := c3.frozen 0; have t1 := c3.frozen 1; have t2 := c3.frozen 2; have t3 := c3.frozen 3; have t4 := c3.frozen 4; have t5 := c3.frozen 5
    have k3 := turned_set6 ((((((w5.setCell ⟨w.heap.size + 1 + 1, 0, none⟩ (.int .i64 0)).setCell ⟨w.heap.size + 1 + 1, 1, none⟩ (.string ⟨#[]⟩)).setCell ⟨w.heap.size + 1 + 1, 2, none⟩ (.string ⟨#[]⟩)).setCell ⟨w.heap.size + 1 + 1, 3, none⟩ (.int .i64 0)).setCell ⟨w.heap.size + 1 + 1, 4, none⟩ (.slice none 0 0)).setCell ⟨w.heap.size + 1 + 1, 5, none⟩ (.slice none 0 0)) (w.heap.size + 1 + 1 + 1) (.int .i64 0) (.string ⟨#[]⟩) (.string ⟨#[]⟩) (.int .i64 0) (.slice none 0 0) (.slice none 0 0)
    have HK2z := Lib.hid k2; have HK3z := Lib.hid k3; have HC2z := Lib.hid ((c2.set6 (.int .i64 0) (.string ⟨#[]⟩) (.string ⟨#[]⟩) (.int .i64 0) (.slice none 0 0) (.slice none 0 0)).other k3 (by omega)); have HC3z := Lib.hid (c3.set6 (.int .i64 0) (.string ⟨#[]⟩) (.string ⟨#[]⟩) (.int .i64 0) (.slice none 0 0) (.slice none 0 0))
    clear k2 k3 c2 c3
    have HL := Lib.hid (HL3.out.trans hlw)
    clear hlw HRA
    go_wp2
    exact bodyPost_ret (results_two rfl _ _ _ _ _ _ _ _ _ _ _ _ rfl rfl rfl HC2z.out HC3z.out Try.underlying51 rfl Try.primSize Try.primSize) rfl
      ⟨zeroC, zeroC, rfl, rfl, rfl, zeroC_ok _, zeroC_ok _, fresh_zero w, fresh_zero w, ((HL.out).turn HK2z.out (by omega)).turn HK3z.out (by omega)⟩
  rw [ha] at HRA
  cases hb : rightP b.v
  · obtain rfl : R = noneP := by rw [HSW.out]; simp [heedP, hb, swapR]
    rw [hb] at HRB
    clear HSW ha hb
    go_wp2_with fail
    refine (HRA.out _ HL3.out).mono ?_
    rintro e w5 ⟨rfl, hlw⟩
    clear y0 y1 y2 y3 y4 y5
    have HC4 := Lib.hid (HC2.out.later hlw); have HC5 := Lib.hid (HC3.out.later hlw); have HL5 := Lib.hid (HL3.out.trans hlw)
    obtain ⟨z0, z1, z2, z3, z4, z5⟩ := BoxAt.all (x := b) HC5.out
    clear hlw HRA
    go_wp2_with fail
    refine (HRB.out _ HL5.out).mono ?_
    rintro e w6 ⟨rfl, hlw⟩
    clear z0 z1 z2 z3 z4 z5
    have c2 := HC4.out.later hlw
    have u0 := c2.cell (i := 0) rfl; have u1 := c2.cell (i := 1) rfl; have u2 := c2.cell (i := 2) rfl; have u3 := c2.cell (i := 3) rfl; have u4 := c2.cell (i := 4) rfl; have u5 := c2.cell (i := 5) rfl
    have v0 := c2.frozen 0; have v1 := c2.frozen 1; have v2 := c2.frozen 2; have v3 := c2.frozen 3; have v4 := c2.frozen 4; have v5 := c2.frozen 5
    have k2 := turned_set6 w6 (w.heap.size + 1 + 1) (.int .i64 0) (.string ⟨#[]⟩) (.string ⟨#[]⟩) (.int .i64 0) (.slice none 0 0) (.slice none 0 0)
    have c3 := (HC5.out.later hlw).other k2 (by omega)
    have r0 := c3.cell (i := 0) rfl; have r1 := c3.cell (i := 1) rfl; have r2 := c3.cell (i := 2) rfl; have r3 := c3.cell (i := 3) rfl; have r4 := c3.cell (i := 4) rfl; have r5 := c3.cell (i := 5) rfl
    have t0 := c3.frozen 0; have t1 := c3.frozen 1; have t2 := c3.frozen 2; have t3 := c3.frozen 3; have t4 := c3.frozen 4; have t5 := c3.frozen 5
    have k3 := turned_set6 ((((((w6.setCell ⟨w.heap.size + 1 + 1, 0, none⟩ (.int .i64 0)).setCell ⟨w.heap.size + 1 + 1, 1, none⟩ (.string ⟨#[]⟩)).setCell ⟨w.heap.size + 1 + 1, 2, none⟩ (.string ⟨#[]⟩)).setCell ⟨w.heap.size + 1 + 1, 3, none⟩ (.int .i64 0)).setCell ⟨w.heap.size + 1 + 1, 4, none⟩ (.slice none 0 0)).setCell ⟨w.heap.size + 1 + 1, 5, none⟩ (.slice none 0 0)) (w.heap.size + 1 + 1 + 1) (.int .i64 0) (.string ⟨#[]⟩) (.string ⟨#[]⟩) (.int .i64 0) (.slice none 0 0) (.slice none 0 0)
    have HK2z := Lib.hid k2; have HK3z := Lib.hid k3; have HC2z := Lib.hid ((c2.set6 (.int .i64 0) (.string ⟨#[]⟩) (.string ⟨#[]⟩) (.int .i64 0) (.slice none 0 0) (.slice none 0 0)).other k3 (by omega)); have HC3z := Lib.hid (c3.set6 (.int .i64 0) (.string ⟨#[]⟩) (.string ⟨#[]⟩) (.int .i64 0) (.slice none 0 0) (.slice none 0 0))
    clear k2 k3 c2 c3
    have HL := Lib.hid (HL5.out.trans hlw)
    clear hlw HRB
    go_wp2
    exact bodyPost_ret (results_two rfl _ _ _ _ _ _ _ _ _ _ _ _ rfl rfl rfl HC2z.out HC3z.out Try.underlying51 rfl Try.primSize Try.primSize) rfl
      ⟨zeroC, zeroC, rfl, rfl, rfl, zeroC_ok _, zeroC_ok _, fresh_zero w, fresh_zero w, ((HL.out).turn HK2z.out (by omega)).turn HK3z.out (by omega)⟩
  obtain rfl : R = (a.v, b.v, true) := by rw [HSW.out]; simp [heedP, ha, hb, swapR]
  rw [hb] at HRB
  clear HSW ha hb
  go_wp2_with fail
  refine (HRA.out _ HL3.out).mono ?_
  rintro e w5 ⟨rfl, hlw⟩
  clear y0 y1 y2 y3 y4 y5
  have HC4 := Lib.hid (HC2.out.later hlw); have HC5 := Lib.hid (HC3.out.later hlw); have HL5 := Lib.hid (HL3.out.trans hlw)
  obtain ⟨z0, z1, z2, z3, z4, z5⟩ := BoxAt.all (x := b) HC5.out
  clear hlw HRA
  go_wp2_with fail
  refine (HRB.out _ HL5.out).mono ?_
  rintro e w6 ⟨rfl, hlw⟩
  clear z0 z1 z2 z3 z4 z5
  have HC6 := Lib.hid (HC4.out.later hlw); have HC7 := Lib.hid (HC5.out.later hlw); have HL6 := Lib.hid (HL5.out.trans hlw)
  clear hlw HRB HC2 HC3 HC4 HC5
  have HCA := Lib.hid (fun (w' : World) (h : Later w w') => primClone_any a w' (HAO.out.later h))
  have HCB := Lib.hid (fun (w' : World) (h : Later w w') => primClone_any b w' (HBO.out.later h))
  unfold prV at HCA HCB
  obtain ⟨y0, y1, y2, y3, y4, y5⟩ := BoxAt.all (x := a) HC6.out
  obtain ⟨z0, z1, z2, z3, z4, z5⟩ := BoxAt.all (x := b) HC7.out
  have hlt6 := HC7.out.lt
  go_upto_region 6 with fail
  go_region_with (first | (go_at_call 38; have hq := H7; clear hq; refine (HCB.out _ (Later.trans (HL6.out.trans HL7.out) (by first | exact Later.refl _ | exact (Later.refl _).drew | exact (Later.refl _).drewN _))).mono ?_; rintro e w8 ⟨u8, v8, rfl, hpr8⟩; obtain ⟨A8, c8, hv8, hcc8, hr8⟩ := hpr8.old.row; obtain ⟨B8, d8, hv9, hdd8, hs8⟩ := hpr8.new.row; subst hv8 hv9; have hlw : Later w7 w8 := Later.trans (by first | exact Later.refl _ | exact (Later.refl _).drew | exact (Later.refl _).drewN _) hpr8.later; have c2 := HC8.out.later hlw; have u0 := c2.cell (i := 0) rfl; have u1 := c2.cell (i := 1) rfl; have u2 := c2.cell (i := 2) rfl; have u3 := c2.cell (i := 3) rfl; have u4 := c2.cell (i := 4) rfl; have u5 := c2.cell (i := 5) rfl; have v0 := c2.frozen 0; have v1 := c2.frozen 1; have v2 := c2.frozen 2; have v3 := c2.frozen 3; have v4 := c2.frozen 4; have v5 := c2.frozen 5; have k2 := turned_set6 w8 (w.heap.size + 1 + 1) (.int .i64 a.v.kind) (.string a.v.name) (.string a.v.to) (.int .i64 a.v.place) (.slice A7 a.v.old.length c7) (.slice B7 a.v.new.length d7); have c3 := (HC9.out.later hlw).other k2 (by omega); have r0 := c3.cell (i := 0) rfl; have r1 := c3.cell (i := 1) rfl; have r2 := c3.cell (i := 2) rfl; have r3 := c3.cell (i := 3) rfl; have r4 := c3.cell (i := 4) rfl; have r5 := c3.cell (i := 5) rfl; have t0 := c3.frozen 0; have t1 := c3.frozen 1; have t2 := c3.frozen 2; have t3 := c3.frozen 3; have t4 := c3.frozen 4; have t5 := c3.frozen 5; have k3 := turned_set6 ((((((w8.setCell ⟨w.heap.size + 1 + 1, 0, none⟩ (.int .i64 a.v.kind)).setCell ⟨w.heap.size + 1 + 1, 1, none⟩ (.string a.v.name)).setCell ⟨w.heap.size + 1 + 1, 2, none⟩ (.string a.v.to)).setCell ⟨w.heap.size + 1 + 1, 3, none⟩ (.int .i64 a.v.place)).setCell ⟨w.heap.size + 1 + 1, 4, none⟩ (.slice A7 a.v.old.length c7)).setCell ⟨w.heap.size + 1 + 1, 5, none⟩ (.slice B7 a.v.new.length d7)) (w.heap.size + 1 + 1 + 1) (.int .i64 b.v.kind) (.string b.v.name) (.string b.v.to) (.int .i64 b.v.place) (.slice A8 b.v.old.length c8) (.slice B8 b.v.new.length d8); have HK2z := Lib.hid k2; have HK3z := Lib.hid k3; have HC2z := Lib.hid ((c2.set6 (.int .i64 a.v.kind) (.string a.v.name) (.string a.v.to) (.int .i64 a.v.place) (.slice A7 a.v.old.length c7) (.slice B7 a.v.new.length d7)).other k3 (by omega)); have HC3z := Lib.hid (c3.set6 (.int .i64 b.v.kind) (.string b.v.name) (.string b.v.to) (.int .i64 b.v.place) (.slice A8 b.v.old.length c8) (.slice B8 b.v.new.length d8)); clear k2 k3 c2 c3; have H8 : Hid (IsPr b.v w7 w8 (.slice A8 b.v.old.length c8) (.slice B8 b.v.new.length d8)) := hpr8.base (by first | exact Later.refl _ | exact (Later.refl _).drew | exact (Later.refl _).drewN _); have HU8 : Hid ((∀ k, (Value.slice A8 b.v.old.length c8).ownBlock = some k → w7.heap.size ≤ k) ∧ (∀ k, (Value.slice B8 b.v.new.length d8).ownBlock = some k → w7.heap.size ≤ k)) := ⟨H8.out.old.block, H8.out.new.block⟩; have HL8 := Lib.hid hlw; clear hpr8 hlw hr8 hs8 hcc8 hdd8) | (go_at_call 38; refine (HCA.out _ (Later.trans HL6.out (by first | exact Later.refl _ | exact (Later.refl _).drew | exact (Later.refl _).drewN _))).mono ?_; rintro e w7 ⟨u7, v7, rfl, hpr7⟩; obtain ⟨A7, c7, hv7, hcc7, hr7⟩ := hpr7.old.row; obtain ⟨B7, d7, hv7', hdd7, hs7⟩ := hpr7.new.row; subst hv7 hv7'; have hlw : Later w6 w7 := Later.trans (by first | exact Later.refl _ | exact (Later.refl _).drew | exact (Later.refl _).drewN _) hpr7.later; have H7 : Hid (IsPr a.v w6 w7 (.slice A7 a.v.old.length c7) (.slice B7 a.v.new.length d7)) := hpr7.base (by first | exact Later.refl _ | exact (Later.refl _).drew | exact (Later.refl _).drewN _); have HU7 : Hid ((∀ k, (Value.slice A7 a.v.old.length c7).ownBlock = some k → w6.heap.size ≤ k) ∧ (∀ k, (Value.slice B7 a.v.new.length d7).ownBlock = some k → w6.heap.size ≤ k)) := ⟨H7.out.old.block, H7.out.new.block⟩; have HL7 := Lib.hid hlw; have HC8 := Lib.hid (HC6.out.later hlw); have HC9 := Lib.hid (HC7.out.later hlw); obtain ⟨f0, f1, f2, f3, f4, f5⟩ := BoxAt.all (x := b) HC9.out; clear hpr7 hlw hr7 hs7 hcc7 hdd7))
  all_goals go_wp2
  all_goals
    have hle := HL7.out.le
    have l1 : Later w w7 := HL6.out.trans HL7.out
    have l2 : Later w w8 := l1.trans HL8.out
    have l3 := l2.turn HK2z.out (by omega)
    have l4 := l3.turn HK3z.out (by omega)
    have i1 := (((H7.out.base HL6.out).on HL8.out).off HK2z.out (fun k hk => by have := HU7.out.1 k hk; omega) (fun k hk => by have := HU7.out.2 k hk; omega) l3).off HK3z.out (fun k hk => by have := HU7.out.1 k hk; omega) (fun k hk => by have := HU7.out.2 k hk; omega) l4
    have i2 := ((H8.out.base l1).off HK2z.out (fun k hk => by have := HU8.out.1 k hk; omega) (fun k hk => by have := HU8.out.2 k hk; omega) l3).off HK3z.out (fun k hk => by have := HU8.out.1 k hk; omega) (fun k hk => by have := HU8.out.2 k hk; omega) l4
    have m1 := HAO.out.mild
    have m2 := HBO.out.mild
    obtain ⟨A9, c9, hv9, hc9, hr9⟩ := i1.old.row
    cases hv9
    obtain ⟨A9, c9, hv9, hc9', hr9'⟩ := i1.new.row
    cases hv9
    obtain ⟨A9, c9, hv9, hd9, hs9⟩ := i2.old.row
    cases hv9
    obtain ⟨A9, c9, hv9, hd9', hs9'⟩ := i2.new.row
    cases hv9
    have hw6 := HL6.out.le
    exact bodyPost_ret (results_two rfl _ _ _ _ _ _ _ _ _ _ _ _ rfl rfl rfl HC2z.out HC3z.out Try.underlying51 rfl Try.primSize Try.primSize) rfl
      ⟨⟨a.v, A7, a.v.old.length, c7, B7, a.v.new.length, d7⟩, ⟨b.v, A8, b.v.old.length, c8, B8, b.v.new.length, d8⟩, rfl, rfl, rfl, ⟨hr9, hr9', hc9, hc9', m1.omost, m1.nmost, m1.name, m1.to, m1.lo, m1.hi, m1.olds, m1.news⟩, ⟨hs9, hs9', hd9, hd9', m2.omost, m2.nmost, m2.name, m2.to, m2.lo, m2.hi, m2.olds, m2.news⟩,
        ⟨fun k hk => Nat.le_trans hw6 (HU7.out.1 k hk), fun k hk => Nat.le_trans hw6 (HU7.out.2 k hk)⟩, ⟨fun k hk => Nat.le_trans (Nat.le_trans hw6 hle) (HU8.out.1 k hk), fun k hk => Nat.le_trans (Nat.le_trans hw6 hle) (HU8.out.2 k hk)⟩, l4⟩

end Go.Proofs.Ytbhnbkcokhfopaa

/-
  A prim that is written into a row of prims.
-/
namespace Go.Proofs.Ytbhnbkcokhfopaa
open Go.RowKit Go.Maps

theorem flat_set (v0 v1 v2 v3 v4 v5 : Value) : ∀ {css : List (List Value)}, (∀ cs ∈ css, cs.length = 6) → ∀ {i : Nat}, i < css.length → ((((((css.flatten.set (i * 6) v0).set (i * 6 + 1) v1).set (i * 6 + 2) v2).set (i * 6 + 3) v3).set (i * 6 + 4) v4).set (i * 6 + 5) v5) = (css.set i [v0, v1, v2, v3, v4, v5]).flatten
  | [], _, _, h => absurd h (Nat.not_lt_zero _)
  | c :: css, hk, i, hi => by
    match c, hk c List.mem_cons_self with
    | [a0, a1, a2, a3, a4, a5], _ =>
      cases i with
      | zero => simp
      | succ i =>
        have ih := flat_set v0 v1 v2 v3 v4 v5 (css := css) (fun cs h => hk cs (List.mem_cons_of_mem _ h)) (i := i) (by simpa using hi)
        rw [List.set_cons_succ, List.flatten_cons, List.flatten_cons, ← ih]
        simp only [show (i + 1) * 6 = i * 6 + 6 by omega, show i * 6 + 6 + 1 = i * 6 + 1 + 6 by omega, show i * 6 + 6 + 2 = i * 6 + 2 + 6 by omega, show i * 6 + 6 + 3 = i * 6 + 3 + 6 by omega, show i * 6 + 6 + 4 = i * 6 + 4 + 6 by omega, show i * 6 + 6 + 5 = i * 6 + 5 + 6 by omega]
        rfl
theorem turned_sets (w : World) (g o i : Nat) (v0 v1 v2 v3 v4 v5 : Value) : Turned g w ((((((w.setCell ⟨g, o + i * 6, none⟩ v0).setCell ⟨g, o + i * 6 + 1, none⟩ v1).setCell ⟨g, o + i * 6 + 2, none⟩ v2).setCell ⟨g, o + i * 6 + 3, none⟩ v3).setCell ⟨g, o + i * 6 + 4, none⟩ v4).setCell ⟨g, o + i * 6 + 5, none⟩ v5) :=
  (((((turned_set w g _ v0).trans (turned_set _ g _ v1)).trans (turned_set _ g _ v2)).trans (turned_set _ g _ v3)).trans (turned_set _ g _ v4)).trans (turned_set _ g _ v5)

section
variable {e : TypeId} {w0 w w' : World} {A : Option Addr} {n c g o : Nat} {xs : List PrC}
theorem OwnPs.ps (h : OwnPs e w0 w (.slice A n c) xs) : PsOk w A n xs := by
  obtain ⟨A', c', hv, _, hr⟩ := h.row
  cases hv
  exact hr
theorem OwnPs.size (h : OwnPs e w0 w (.slice A n c) xs) : xs.length = n := h.ps.len
/-- The block of such a row. -/
theorem OwnPs.at (h : OwnPs e w0 w (.slice (some ⟨g, o, none⟩) n c) xs) : o = 0 ∧ ∃ cur, w.heap[g]? = some (.cells cur e (0, 0)) ∧ cur.size = c * 6 ∧ n ≤ c ∧ c ≤ maxLen ∧ cur.toList.take (n * 6) = (xs.map prL).flatten := by
  have hs := h.size
  rcases h.own.1.2 with ⟨hv, _⟩ | ⟨g', cap, cur, hv, _, hh, hnc, hm, hc, ht⟩
  · cases hv
  · simp only [List.length_map] at hv hnc ht
    rw [hs] at hv hnc ht
    cases hv
    exact ⟨rfl, cur, hh, hc, hnc, hm, ht⟩
theorem OwnPs.frozen (h : OwnPs e w0 w (.slice (some ⟨g, o, none⟩) n c) xs) (i : Nat) : w.frozen? ⟨g, i, none⟩ = false := by
  obtain ⟨_, cur, hh, _⟩ := h.at
  exact frozen_no hh i
/-- Written at place i. -/
theorem OwnPs.set (h : OwnPs e w0 w (.slice (some ⟨g, o, none⟩) n c) xs) {i : Nat} (hi : i < n) (x : PrC) (hx : PrOk w x) (ha : Away g x) :
    OwnPs e w0 ((((((w.setCell ⟨g, o + i * 6, none⟩ (.int .i64 x.v.kind)).setCell ⟨g, o + i * 6 + 1, none⟩ (.string x.v.name)).setCell ⟨g, o + i * 6 + 2, none⟩ (.string x.v.to)).setCell ⟨g, o + i * 6 + 3, none⟩ (.int .i64 x.v.place)).setCell ⟨g, o + i * 6 + 4, none⟩ (.slice x.A x.n x.c)).setCell ⟨g, o + i * 6 + 5, none⟩ (.slice x.B x.m x.d)) (.slice (some ⟨g, o, none⟩) n c) (xs.set i x) := by
  have hsz := h.size
  obtain ⟨rfl, cur, hh, hcs, hnc, hm, ht⟩ := h.at
  have hb := h.block g rfl
  have htn := turned_sets w g 0 i (.int .i64 x.v.kind) (.string x.v.name) (.string x.v.to) (.int .i64 x.v.place) (.slice x.A x.n x.c) (.slice x.B x.m x.d)
  have hl := h.later.turn htn hb
  have hbox := (((((BoxAt.set (show BoxAt w g cur e from hh) (0 + i * 6) (.int .i64 x.v.kind)).set (0 + i * 6 + 1) (.string x.v.name)).set (0 + i * 6 + 2) (.string x.v.to)).set (0 + i * 6 + 3) (.int .i64 x.v.place)).set (0 + i * 6 + 4) (.slice x.A x.n x.c)).set (0 + i * 6 + 5) (.slice x.B x.m x.d)
  have hlen : (xs.map prL).length = n := by simp [hsz]
  refine ⟨⟨⟨?_, .inr ⟨g, c, _, ?_, hb, hbox, ?_, hm, ?_, ?_⟩⟩, ?_, hl⟩, ?_, ?_⟩
  · rw [flat_length (k := 6) (by intro cs hcs; obtain ⟨y, _, rfl⟩ := List.mem_map.1 hcs; rfl)]
  · simp [hsz]
  · simp [hsz]; exact hnc
  · simpa using hcs
  · simp only [List.length_map, List.length_set, Array.toList_setIfInBounds, List.take_set, hsz, ht, Nat.zero_add]
    rw [flat_set _ _ _ _ _ _ (by intro cs hcs; obtain ⟨y, _, rfl⟩ := List.mem_map.1 hcs; rfl) (by simp [hsz]; exact hi), List.map_set]
    rfl
  · intro cs hcs
    obtain ⟨y, _, rfl⟩ := List.mem_map.1 hcs
    rfl
  · intro y hy
    have h1 : PrOk w y ∧ Away g y := by
      rcases List.mem_or_eq_of_mem_set hy with h2 | rfl
      · exact ⟨h.ok y h2, h.away y h2 g rfl⟩
      · exact ⟨hx, ha⟩
    exact h1.1.off htn h1.2
  · intro y hy g' hg'
    cases hg'
    rcases List.mem_or_eq_of_mem_set hy with h2 | rfl
    · exact h.away y h2 _ rfl
    · exact ha
end

theorem grown_later {w w' : World} (h : Later w w') (r : Option Nat) : w.grownBy w' r := ⟨h.os, h.tape, h.output, h.size, fun i hi _ => h.block i hi⟩
theorem grown_trans {w w' w'' : World} {r : Option Nat} (h : w.grownBy w' r) (k : w'.grownBy w'' r) : w.grownBy w'' r :=
  ⟨k.os.trans h.os, k.tape.trans h.tape, k.output.trans h.output, Nat.le_trans h.size k.size, fun i hi hne => (k.block i (Nat.lt_of_lt_of_le hi h.size) hne).trans (h.block i hi hne)⟩
/-- What was made since is turned: all that was there is as it was. -/
theorem Later.grown {w0 w w' : World} {v : Value} (h : Later w0 w) (hg : w.grownBy w' v.ownBlock) (hb : ∀ b, v.ownBlock = some b → w0.heap.size ≤ b) : Later w0 w' := Below.grown h hg h.size hb
theorem results_one {P : Program} {fn : Func} {p u : Tmp} {ty : TypeId} (h : fn.results = #[.cell p ty, .tmp u]) (tmps : Array Value) (w : World) (g : Nat) (t : TypeId) (cs : Array Value) (fr : Nat × Nat) (d : TypeDesc) (v : Value)
    (hp : tmps.getD p undef = .pointer (some ⟨g, 0, none⟩)) (hv : tmps.getD u undef = v) (hg : w.heap[g]? = some (.cells cs t fr))
    (hu : P.underlying ty = some d) (hd : (match d with | .struct _ | .array _ _ => true | _ => false) = true) (hi : (P.info? ty).map (·.size) = some cs.size) :
    (results fn tmps).run P w = .ok (.tuple #[.agg cs, v]) w := by
  have hp' : tmps[p]?.getD undef = .pointer (some ⟨g, 0, none⟩) := by simpa using hp
  have hv' : tmps[u]?.getD undef = v := by simpa using hv
  simp [results, h, hp', hv', asAddr, run_loadVar_row w g t ty cs fr d hg hu hd hi]

end Go.Proofs.Ytbhnbkcokhfopaa

/-
  Stores of prims, as laws of the walk: into a block, into a row.
-/
namespace Go.Proofs.Ytbhnbkcokhfopaa
open Go.RowKit Go.Maps

theorem prV_is (x : PrC) : prV x = .agg (prL x).toArray := rfl
theorem prL_one (x : PrC) : (prL x).toArray.all (·.oneCell') = true := by simp [prL, Value.oneCell']
/-- A block that was made since is turned. -/
theorem grown_new {w w1 w2 : World} {r : Option Nat} {g : Nat} (h : w.grownBy w1 r) (k : Turned g w1 w2) (hg : w.heap.size ≤ g) : w.grownBy w2 r :=
  ⟨k.os.trans h.os, k.tape.trans h.tape, k.output.trans h.output, Nat.le_trans h.size k.size, fun i hi hne => (k.block i (Nat.lt_of_lt_of_le hi h.size) (by simp; omega)).trans (h.block i hi hne)⟩
section
variable {ops : Array Oper} {rest : List Oper} {op : Oper} {a : Act} {w w0 : World} {Q : Exit → Act → World → Prop}
theorem put_none (a : Act) (v : Value) : a.put none v = a := rfl
/-- A prim is written into a block. -/
theorem wpList_store_box (hgd : op.guard = none) (hd : op.dst = none) (T : TypeId) (j k : Tmp) (ho : op.op = .store T (.tmp j) (.tmp k)) (hi : (Try.prog.info? T).map (·.size) = some 6) (g : Nat) (x : PrC) (hj : a.eval (.tmp j) = .pointer (some ⟨g, 0, none⟩)) (hv : a.eval (.tmp k) = prV x)
    {cs : Array Value} {t : TypeId} (hb : BoxAt w g cs t) (hs : cs.size = 6) (h : ∀ w', BoxAt w' g (prL x).toArray t → Turned g w w' → wpList Try.prog ops Q rest a w') : wpList Try.prog ops Q (op :: rest) a w := by
  refine wpList_store_row hgd T (.tmp j) (.tmp k) ho g (prL x).toArray hj (hv.trans (prV_is x)) t cs hb hi hs (prL_one x) ?_
  rw [hd, put_none]
  refine h _ ?_ ?_
  · exact setRow_heap w g cs _ t _ hb
  · exact ⟨rfl, rfl, rfl, by simp, fun i hi hne => setRow_other w g i _ (fun e => hne (by rw [e]))⟩
/-- A prim is written into a row. -/
theorem wpList_store_ps (hgd : op.guard = none) (hd : op.dst = none) (T : TypeId) (j k : Tmp) (ho : op.op = .store T (.tmp j) (.tmp k)) (hi : (Try.prog.info? T).map (·.size) = some 6) {e : TypeId} {g o n c i : Nat} {xs : List PrC} (x : PrC) (hj : a.eval (.tmp j) = .pointer (some ⟨g, o + i * 6, none⟩)) (hv : a.eval (.tmp k) = prV x)
    (hown : OwnPs e w0 w (.slice (some ⟨g, o, none⟩) n c) xs) (hin : i < n) (hx : PrOk w x) (ha : Away g x) (h : ∀ w', OwnPs e w0 w' (.slice (some ⟨g, o, none⟩) n c) (xs.set i x) → Turned g w w' → wpList Try.prog ops Q rest a w') : wpList Try.prog ops Q (op :: rest) a w := by
  obtain ⟨b', o', q, hA, hz, hok, g0, g1, g2, g3, g4, g5⟩ := hown.ps.get hin
  cases hA
  have hth : w.there g (o + i * 6) 6 := by
    intro r hr
    refine ⟨?_, hown.frozen _⟩
    match r, hr with
    | 0, _ => rw [Nat.add_zero, g0]; rfl
    | 1, _ => rw [g1]; rfl
    | 2, _ => rw [g2]; rfl
    | 3, _ => rw [g3]; rfl
    | 4, _ => rw [g4]; rfl
    | 5, _ => rw [g5]; rfl
  refine wpList_store_mid hgd T (.tmp j) (.tmp k) ho g (o + i * 6) (prL x).toArray hj (hv.trans (prV_is x)) hth hi (prL_one x) ?_
  rw [hd, put_none]
  exact h _ (hown.set hin x hx ha) (turned_sets w g o i _ _ _ _ _ _)
end

end Go.Proofs.Ytbhnbkcokhfopaa
