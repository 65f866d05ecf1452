import Derived.Test.YtomboeiaajggoaaGreatDoorPk7
import Derived.Test.YtomboeiaajggoaaGreatDoorPk13
import Derived.Test.YtomboeiaajggoaaGreatDoorPk5
import Derived.Deep.LoopGhost
import Derived.Deep.QuietTactic
import Derived.BigQuiet
import Derived.Lib.Hide
import Derived.Test.YtomboeiaajggoaaGreatDoorPk6
import Derived.Shelf.Slices.CompactS
import Derived.Shelf.Strings.Prefix
import Derived.Test.YtomboeiaajggoaaGreatDoorProg
import Derived.Lib.SlicesCompact
import Derived.Lib.Strings
import Derived.Test.YtomboeiaajggoaaGreatDoorPk8
import Derived.Test.YtomboeiaajggoaaGreatDoorPk15
import Derived.Test.YtomboeiaajggoaaGreatDoorPk17

/-
  What seq's Same comes to, as a call.
-/
namespace Go.Proofs.YtomboeiaajggoaaGreatDoor
open Go.RowKit Go.Maps

set_option maxRecDepth 100000 in
set_option maxHeartbeats 1600000 in
theorem equalP_any (A B : Option Addr) (n c m d : Nat) (xs ys : List PrC) (w : World) (hx : PsOk w A n xs) (hy : PsOk w B m ys) (hn : n ≤ 65536) (hm : m ≤ 65536) :
    Calls Tryz.prog 38 #[.slice A n c, .slice B m d, .func (.func 25) #[] #[]] w (Says (sameS (valsP xs) (valsP ys)) w) := by
  have HX := Lib.hid hx; have HY := Lib.hid hy; clear hx hy
  by_cases hnm : n = m
  case neg =>
    have HE : Hid (sameS (valsP xs) (valsP ys) = false) := sameS_length (by rw [valsP_length, valsP_length, HX.out.len, HY.out.len]; exact hnm)
    rw [HE.out]
    have hne : ((n : Int) == (m : Int)) = false := by rw [beq_eq_false_iff_ne]; omega
    go_enter Tryz.func38, Tryz.ntmps38
    go_wp2
    go_ret
    exact ⟨rfl, Later.refl w⟩
  subst hnm
  go_enter Tryz.func38, Tryz.ntmps38
  go_wp2
  go_loopg [17] (n + 1) (fun g s7 wr => ∃ k : Nat, k ≤ n ∧ n - k ≤ g ∧ s7 = .int .i64 k ∧ Hid (∀ j (p q : Pr), j < k → (valsP xs)[j]? = some p → (valsP ys)[j]? = some q → sameP p q = true) ∧ Hid (Later w wr))
  case atStart => exact ⟨0, Nat.zero_le _, by omega, rfl, fun j p q hj => by omega, Later.refl w⟩
  case round =>
    obtain ⟨k, hk, hg, rfl, hall, hwr⟩ := hrel
    by_cases hlt : k < n
    · obtain ⟨b, o, x, rfl, hz, hok, g0, g1, g2, g3, g4, g5⟩ := (HX.out.later hwr.out).get hlt
      obtain ⟨b', o', y, rfl, hz', hok', k0, k1, k2, k3, k4, k5⟩ := (HY.out.later hwr.out).get hlt
      have HLB : Hid (Later wr ((wr.alloc (.cells #[.int .i64 x.v.kind, .string x.v.name, .string x.v.to, .int .i64 x.v.place, .slice x.A x.n x.c, .slice x.B x.m x.d] 48)).alloc (.cells #[.int .i64 y.v.kind, .string y.v.name, .string y.v.to, .int .i64 y.v.place, .slice y.A y.n y.c, .slice y.B y.m y.d] 48))) := ((Later.refl wr).alloc _).alloc _
      have HAT := Lib.hid (valsP_at hz); have HAT' := Lib.hid (valsP_at hz')
      have HR := Lib.hid (primSame_any x y _ (hok.later HLB.out) (hok'.later HLB.out))
      clear hok hok' hz hz'
      have HL1 : Later wr (wr.alloc (.cells #[.int .i64 x.v.kind, .string x.v.name, .string x.v.to, .int .i64 x.v.place, .slice x.A x.n x.c, .slice x.B x.m x.d] 48)) := (Later.refl wr).alloc _
      have q0 := HL1.cell k0; have q1 := HL1.cell k1; have q2 := HL1.cell k2; have q3 := HL1.cell k3; have q4 := HL1.cell k4; have q5 := HL1.cell k5
      clear HL1 k0 k1 k2 k3 k4 k5
      unfold prV at HR
      cases hr : sameP x.v y.v
      · rw [hr] at HR
        have HNO : Hid (sameS (valsP xs) (valsP ys) = false) := sameS_at HAT.out HAT'.out hr
        rw [HNO.out]
        clear hr
        go_wp2_with fail
        refine HR.out.mono ?_
        rintro e w2 ⟨rfl, hl2⟩
        have HL2 := Lib.hid hl2
        clear hl2 HR
        go_wp2
        go_ret
        exact ⟨rfl, (hwr.out.trans HLB.out).trans HL2.out⟩
      · rw [hr] at HR
        have HNX : Hid (∀ j (p q : Pr), j < k + 1 → (valsP xs)[j]? = some p → (valsP ys)[j]? = some q → sameP p q = true) := fun j p q hj h1 h2 => by
          by_cases e : j = k
          · subst e
            rw [HAT.out] at h1; rw [HAT'.out] at h2
            cases h1; cases h2
            exact hr
          · exact hall.out j p q (by omega) h1 h2
        clear hr
        go_wp2_with fail
        refine HR.out.mono ?_
        rintro e w2 ⟨rfl, hl2⟩
        have HL2 := Lib.hid hl2
        clear hl2 HR
        go_wp2
        go_roundg (n - (k + 1))
        case measure => omega
        case rel => exact ⟨k + 1, by omega, Nat.le_refl _, by go_num, HNX, (hwr.out.trans HLB.out).trans HL2.out⟩
    · have HE : Hid (sameS (valsP xs) (valsP ys) = true) := sameS_all (by rw [valsP_length, valsP_length, HX.out.len, HY.out.len]) fun j p q h1 h2 => hall.out j p q (by
        have := (List.getElem?_eq_some_iff.1 h1).1
        rw [valsP_length, HX.out.len] at this
        omega) h1 h2
      go_wp2
      go_ret
      exact ⟨by rw [HE.out]; rfl, hwr.out⟩

set_option maxRecDepth 100000 in
set_option maxHeartbeats 400000 in
theorem seqSame_any (A B : Option Addr) (n c m d : Nat) (xs ys : List PrC) (w : World) (hx : PsOk w A n xs) (hy : PsOk w B m ys) (hn : n ≤ 65536) (hm : m ≤ 65536) :
    Calls Tryz.prog 11 #[.slice A n c, .slice B m d] w (Says (sameS (valsP xs) (valsP ys)) w) := by
  have H := Lib.hid (equalP_any A B n c m d xs ys w hx hy hn hm)
  clear hx hy
  go_enter Tryz.func11, Tryz.ntmps11
  go_wp2_with fail
  refine H.out.mono ?_
  rintro e w1 ⟨rfl, hl⟩
  have HL := Lib.hid hl
  clear hl H
  go_wp2
  go_ret
  exact ⟨rfl, HL.out⟩

end Go.Proofs.YtomboeiaajggoaaGreatDoor

/-
  What the document's All comes to, as a call.
-/
namespace Go.Proofs.YtomboeiaajggoaaGreatDoor
open Go.RowKit Go.Maps

set_option maxRecDepth 100000 in
set_option maxHeartbeats 1600000 in
theorem refAllP_any (A B : Option Addr) (n c m d : Nat) (xs ys : List PrC) (w : World) (hx : PsOk w A n xs) (hy : PsOk w B m ys) (hn : n ≤ 65536) (hm : m ≤ 65536) :
    Calls Tryz.prog 12 #[.slice A n c, .slice B m d] w (Says (sameS (valsP xs) (valsP ys)) w) := by
  have HX := Lib.hid hx; have HY := Lib.hid hy; clear hx hy
  by_cases hnm : n = m
  case neg =>
    have HE : Hid (sameS (valsP xs) (valsP ys) = false) := sameS_length (by rw [valsP_length, valsP_length, HX.out.len, HY.out.len]; exact hnm)
    rw [HE.out]
    have hne : ((n : Int) == (m : Int)) = false := by rw [beq_eq_false_iff_ne]; omega
    go_enter Tryz.func12, Tryz.ntmps12
    go_wp2
    go_ret
    exact ⟨rfl, Later.refl w⟩
  subst hnm
  go_enter Tryz.func12, Tryz.ntmps12
  go_wp2
  go_loopg [5] (n + 1) (fun g s7 wr => ∃ k : Nat, k ≤ n ∧ n - k ≤ g ∧ s7 = .int .i64 k ∧ Hid (∀ j (p q : Pr), j < k → (valsP xs)[j]? = some p → (valsP ys)[j]? = some q → sameP p q = true) ∧ Hid (Later w wr))
  case atStart => exact ⟨0, Nat.zero_le _, by omega, rfl, fun j p q hj => by omega, Later.refl w⟩
  case round =>
    obtain ⟨k, hk, hg, rfl, hall, hwr⟩ := hrel
    by_cases hlt : k < n
    · obtain ⟨b, o, x, rfl, hz, hok, g0, g1, g2, g3, g4, g5⟩ := (HX.out.later hwr.out).get hlt
      obtain ⟨b', o', y, rfl, hz', hok', k0, k1, k2, k3, k4, k5⟩ := (HY.out.later hwr.out).get hlt
      have HLB : Hid (Later wr (wr)) := Later.refl wr
      have HAT := Lib.hid (valsP_at hz); have HAT' := Lib.hid (valsP_at hz')
      have HR := Lib.hid (fun (w1 : World) (h : Later wr w1) => refSameP_any x y w1 (hok.later h) (hok'.later h))
      clear hok hok' hz hz'
      unfold prV at HR
      cases hr : sameP x.v y.v
      · rw [hr] at HR
        have HNO : Hid (sameS (valsP xs) (valsP ys) = false) := sameS_at HAT.out HAT'.out hr
        rw [HNO.out]
        clear hr
        go_wp2
        go_region_with (go_at_call 39; refine (HR.out _ (by first | exact Later.refl _ | exact (Later.refl _).drew | exact (Later.refl _).drewN _)).mono ?_; rintro e w2 ⟨rfl, hl2⟩; have HL2 : Hid (Later wr w2) := Later.trans (by first | exact Later.refl _ | exact (Later.refl _).drew | exact (Later.refl _).drewN _) hl2; clear hl2)
        all_goals go_wp2
        all_goals go_ret
        all_goals exact ⟨rfl, (hwr.out.trans HL2.out)⟩
      · rw [hr] at HR
        have HNX : Hid (∀ j (p q : Pr), j < k + 1 → (valsP xs)[j]? = some p → (valsP ys)[j]? = some q → sameP p q = true) := fun j p q hj h1 h2 => by
          by_cases e : j = k
          · subst e
            rw [HAT.out] at h1; rw [HAT'.out] at h2
            cases h1; cases h2
            exact hr
          · exact hall.out j p q (by omega) h1 h2
        clear hr
        go_wp2
        go_region_with (go_at_call 39; refine (HR.out _ (by first | exact Later.refl _ | exact (Later.refl _).drew | exact (Later.refl _).drewN _)).mono ?_; rintro e w2 ⟨rfl, hl2⟩; have HL2 : Hid (Later wr w2) := Later.trans (by first | exact Later.refl _ | exact (Later.refl _).drew | exact (Later.refl _).drewN _) hl2; clear hl2)
        all_goals go_wp2
        all_goals go_roundg (n - (k + 1))
        all_goals first | omega | exact ⟨k + 1, by omega, Nat.le_refl _, by go_num, HNX, hwr.out.trans HL2.out⟩
    · have HE : Hid (sameS (valsP xs) (valsP ys) = true) := sameS_all (by rw [valsP_length, valsP_length, HX.out.len, HY.out.len]) fun j p q h1 h2 => hall.out j p q (by
        have := (List.getElem?_eq_some_iff.1 h1).1
        rw [valsP_length, HX.out.len] at this
        omega) h1 h2
      go_wp2
      go_ret
      exact ⟨by rw [HE.out]; rfl, hwr.out⟩


end Go.Proofs.YtomboeiaajggoaaGreatDoor

/-
  What Right of rows comes to, as a call, and the document's.
-/
namespace Go.Proofs.YtomboeiaajggoaaGreatDoor
open Go.RowKit Go.Maps

set_option maxRecDepth 100000 in
set_option maxHeartbeats 800000 in
theorem seqRight_any (A : Option Addr) (n c : Nat) (xs : List PrC) (w : World) (hx : PsOk w A n xs) (hn : n ≤ 65536) :
    Calls Tryz.prog 9 #[.slice A n c] w (Says ((valsP xs).all rightP) w) := by
  have HX := Lib.hid hx; clear hx
  go_enter Tryz.func9, Tryz.ntmps9
  go_wp2
  go_loopg [7] (n + 1) (fun g s7 wr => ∃ k : Nat, k ≤ n ∧ n - k ≤ g ∧ s7 = .int .i64 k ∧ Hid (((valsP xs).take k).all rightP = true) ∧ Hid (Later w wr))
  case atStart => exact ⟨0, Nat.zero_le _, by omega, rfl, by simp [Hid], Later.refl w⟩
  case round =>
    obtain ⟨k, hk, hg, rfl, hall, hwr⟩ := hrel
    by_cases hlt : k < n
    · obtain ⟨b, o, x, rfl, hz, hok, g0, g1, g2, g3, g4, g5⟩ := (HX.out.later hwr.out).get hlt
      have HLB : Hid (Later wr (wr.alloc (.cells #[.int .i64 x.v.kind, .string x.v.name, .string x.v.to, .int .i64 x.v.place, .slice x.A x.n x.c, .slice x.B x.m x.d] 48))) := (Later.refl wr).alloc _
      have HR := Lib.hid (primRight_any x _ (hok.later HLB.out))
      have HTK := Lib.hid (valsP_take hz); have HAT := Lib.hid (List.mem_of_getElem? (valsP_at hz))
      clear hok hz
      unfold prV at HR
      cases hr : rightP x.v
      · rw [hr] at HR
        have HNO : Hid ((valsP xs).all rightP = false) := List.all_eq_false.2 ⟨x.v, HAT.out, by simp [hr]⟩
        clear hr
        go_wp2_with fail
        refine HR.out.mono ?_
        rintro e w2 ⟨rfl, hl2⟩
        have HL2 := Lib.hid hl2
        clear hl2 HR
        go_wp2
        go_ret
        exact ⟨by rw [HNO.out]; rfl, (hwr.out.trans HLB.out).trans HL2.out⟩
      · rw [hr] at HR
        have HNX : Hid (((valsP xs).take (k + 1)).all rightP = true) := by
          show _ = true
          rw [HTK.out, List.all_append, hall.out]; simp [hr]
        clear hr
        go_wp2_with fail
        refine HR.out.mono ?_
        rintro e w2 ⟨rfl, hl2⟩
        have HL2 := Lib.hid hl2
        clear hl2 HR
        go_wp2
        go_roundg (n - (k + 1))
        case measure => omega
        case rel => exact ⟨k + 1, by omega, Nat.le_refl _, by go_num, HNX, (hwr.out.trans HLB.out).trans HL2.out⟩
    · have HE : Hid ((valsP xs).all rightP = true) := by
        have := hall.out
        rw [List.take_of_length_le (by rw [valsP_length, HX.out.len]; omega)] at this
        exact this
      go_wp2
      go_ret
      exact ⟨by rw [HE.out]; rfl, hwr.out⟩

set_option maxRecDepth 100000 in
set_option maxHeartbeats 800000 in
theorem refRight5_any (A : Option Addr) (n c : Nat) (xs : List PrC) (w : World) (hx : PsOk w A n xs) (hn : n ≤ 65536) :
    Calls Tryz.prog 10 #[.slice A n c] w (Says ((valsP xs).all rightP) w) := by
  have HX := Lib.hid hx; clear hx
  go_enter Tryz.func10, Tryz.ntmps10
  go_wp2
  go_loopg [3] (n + 1) (fun g s7 wr => ∃ k : Nat, k ≤ n ∧ n - k ≤ g ∧ s7 = .int .i64 k ∧ Hid (((valsP xs).take k).all rightP = true) ∧ Hid (Later w wr))
  case atStart => exact ⟨0, Nat.zero_le _, by omega, rfl, by simp [Hid], Later.refl w⟩
  case round =>
    obtain ⟨k, hk, hg, rfl, hall, hwr⟩ := hrel
    by_cases hlt : k < n
    · obtain ⟨b, o, x, rfl, hz, hok, g0, g1, g2, g3, g4, g5⟩ := (HX.out.later hwr.out).get hlt
      have HLB : Hid (Later wr (wr)) := Later.refl wr
      have HR := Lib.hid (refRightP_any x _ (hok.later HLB.out))
      have HTK := Lib.hid (valsP_take hz); have HAT := Lib.hid (List.mem_of_getElem? (valsP_at hz))
      clear hok hz
      unfold prV at HR
      cases hr : rightP x.v
      · rw [hr] at HR
        have HNO : Hid ((valsP xs).all rightP = false) := List.all_eq_false.2 ⟨x.v, HAT.out, by simp [hr]⟩
        clear hr
        go_wp2_with fail
        refine HR.out.mono ?_
        rintro e w2 ⟨rfl, hl2⟩
        have HL2 := Lib.hid hl2
        clear hl2 HR
        go_wp2
        go_ret
        exact ⟨by rw [HNO.out]; rfl, (hwr.out.trans HLB.out).trans HL2.out⟩
      · rw [hr] at HR
        have HNX : Hid (((valsP xs).take (k + 1)).all rightP = true) := by
          show _ = true
          rw [HTK.out, List.all_append, hall.out]; simp [hr]
        clear hr
        go_wp2_with fail
        refine HR.out.mono ?_
        rintro e w2 ⟨rfl, hl2⟩
        have HL2 := Lib.hid hl2
        clear hl2 HR
        go_wp2
        go_roundg (n - (k + 1))
        case measure => omega
        case rel => exact ⟨k + 1, by omega, Nat.le_refl _, by go_num, HNX, (hwr.out.trans HLB.out).trans HL2.out⟩
    · have HE : Hid ((valsP xs).all rightP = true) := by
        have := hall.out
        rw [List.take_of_length_le (by rw [valsP_length, HX.out.len]; omega)] at this
        exact this
      go_wp2
      go_ret
      exact ⟨by rw [HE.out]; rfl, hwr.out⟩


end Go.Proofs.YtomboeiaajggoaaGreatDoor

/-
  What calls of the library come to, laid at this program: slices.Compact, strings.HasPrefix.
-/
namespace Go.Proofs
open Go.Shelf
def Tryz.laysCompact_ren : Go.Shelf.Ren := ⟨fun | 194 => 43 | n => n, fun | 31 => 32 | 9 => 9 | 3 => 3 | 4 => 4 | 0 => 0 | n => n, fun | n => n⟩
theorem Tryz.laysCompact : Go.Proofs.Lays.n194 Tryz.prog Tryz.laysCompact_ren := {
  mixed := by kernel_rfl
  f194 := Tryz.func43.trans (congrArg some (by kernel_rfl))
  t0 := Tryz.underlying0
  a0 := Tryz.isAgg0
  z0 := Tryz.sizeOf0
  v0 := Tryz.zeroValue0
  t3 := Tryz.underlying3
  a3 := Tryz.isAgg3
  z3 := Tryz.sizeOf3
  v3 := Tryz.zeroValue3
  t4 := Tryz.underlying4
  a4 := Tryz.isAgg4
  z4 := Tryz.sizeOf4
  v4 := Tryz.zeroValue4
  t9 := Tryz.underlying9
  a9 := Tryz.isAgg9
  z9 := Tryz.sizeOf9
  v9 := Tryz.zeroValue9
  t31 := Tryz.underlying32
  a31 := Tryz.isAgg32
  z31 := Tryz.sizeOf32
  v31 := Tryz.zeroValue32 }
def Tryz.laysPrefix_ren : Go.Shelf.Ren := ⟨fun | 99 => 47 | 206 => 76 | n => n, fun | 9 => 9 | 4 => 4 | 3 => 3 | n => n, fun | n => n⟩
theorem Tryz.laysPrefix : Go.Proofs.Lays.n99 Tryz.prog Tryz.laysPrefix_ren := {
  mixed := by kernel_rfl
  f99 := Tryz.func47.trans (congrArg some (by kernel_rfl))
  f206 := Tryz.func76.trans (congrArg some (by kernel_rfl))
  t3 := Tryz.underlying3
  a3 := Tryz.isAgg3
  z3 := Tryz.sizeOf3
  v3 := Tryz.zeroValue3
  t4 := Tryz.underlying4
  a4 := Tryz.isAgg4
  z4 := Tryz.sizeOf4
  v4 := Tryz.zeroValue4
  t9 := Tryz.underlying9
  a9 := Tryz.isAgg9
  z9 := Tryz.sizeOf9
  v9 := Tryz.zeroValue9 }
end Go.Proofs

/-
  The names of a row, each once, rising. Nothing of any program.
-/
namespace Go.Proofs.YtomboeiaajggoaaGreatDoor
open Go.RowKit

/-- These are the names, each once, rising. -/
structure IsNames (l : List Pr) (r : List ByteArray) : Prop where
  rise : r.Pairwise fun a b => ltN a b = true
  mem : ∀ n, n ∈ r ↔ ∃ p ∈ l, n ∈ namesP p
theorem IsNames.one {l : List Pr} {r s : List ByteArray} (h : IsNames l r) (k : IsNames l s) : r = s := by
  have key : (r.map fun n => (n, ())) = s.map fun n => (n, ()) := by
    refine rising_ext (List.pairwise_map.2 h.rise) (List.pairwise_map.2 k.rise) fun f => ?_
    simp only [List.mem_map]
    constructor
    · rintro ⟨n, hn, rfl⟩; exact ⟨n, (k.mem n).2 ((h.mem n).1 hn), rfl⟩
    · rintro ⟨n, hn, rfl⟩; exact ⟨n, (h.mem n).2 ((k.mem n).1 hn), rfl⟩
  have := congrArg (List.map Prod.fst) key
  simpa [List.map_map, Function.comp_def] using this

theorem beforeL (a b : List UInt8) : bytesBefore a b = true ↔ a < b := by
  induction a generalizing b with
  | nil => cases b <;> simp [bytesBefore]
  | cons x a ih =>
    cases b with
    | nil => simp [bytesBefore]
    | cons y b => simp only [bytesBefore, Bool.or_eq_true, decide_eq_true_eq, Bool.and_eq_true, beq_iff_eq, List.cons_lt_cons_iff, ih]
theorem le_or {a b : List UInt8} (h : a ≤ b) : a = b ∨ bytesBefore a b = true := by
  by_cases e : a = b
  · exact .inl e
  · rcases WideAt.bytes_total a b e with h1 | h1
    · exact .inr h1
    · exact absurd ((beforeL b a).1 h1) (List.not_lt.2 h)

/-- Of a sorted row, each once. -/
theorem compact_rises {zs : List (List UInt8)} (h : zs.Pairwise (· ≤ ·)) : (Lib.compact zs).Pairwise (fun a b => bytesBefore a b = true) ∧ ∀ x, x ∈ Lib.compact zs ↔ x ∈ zs := by
  have hat : ∀ i, i < zs.length → zs.toArray[i]! = zs.getD i [] := fun i hi => by simp [hi]
  have hle : ∀ i j, i < j → j < zs.length → zs.getD i [] ≤ zs.getD j [] := fun i j hij hj => by
    have := List.pairwise_iff_getElem.1 h i j (by omega) hj hij
    simpa [List.getD, List.getElem?_eq_getElem hj, List.getElem?_eq_getElem (show i < zs.length by omega)] using this
  have key : ∀ m, m ≤ zs.length → (Lib.compactUpTo zs.toArray m).Pairwise (fun a b => bytesBefore a b = true) ∧ ∀ x, x ∈ Lib.compactUpTo zs.toArray m ↔ ∃ j, j < m ∧ zs.getD j [] = x := by
    intro m
    induction m with
    | zero => intro _; simp [Lib.compactUpTo]
    | succ m ih =>
      intro hm
      obtain ⟨h1, h2⟩ := ih (by omega)
      rw [Lib.compactUpTo_succ]
      cases hk : Lib.keeps zs.toArray m with
      | true =>
        rw [if_pos rfl, hat m (by omega)]
        refine ⟨List.pairwise_append.2 ⟨h1, List.pairwise_singleton _ _, fun a ha b hb => ?_⟩, fun x => ?_⟩
        · simp only [List.mem_singleton] at hb
          subst hb
          obtain ⟨j, hj, rfl⟩ := (h2 a).1 ha
          have hm0 : 0 < m := by omega
          have hne : zs.getD m [] ≠ zs.getD (m - 1) [] := by
            have : zs.toArray[m]! ≠ zs.toArray[m - 1]! := by
              rcases of_decide_eq_true hk with e | e
              · omega
              · exact e
            rw [hat m (by omega), hat (m - 1) (by omega)] at this
            exact this
          have hlast : bytesBefore (zs.getD (m - 1) []) (zs.getD m []) = true := by
            rcases le_or (hle (m - 1) m (by omega) (by omega)) with e | e
            · exact absurd e.symm hne
            · exact e
          by_cases ej : j = m - 1
          · subst ej; exact hlast
          · rcases le_or (hle j (m - 1) (by omega) (by omega)) with e | e
            · rw [e]; exact hlast
            · exact WideShapes.bytes_trans _ _ _ e hlast
        · simp only [List.mem_append, h2, List.mem_singleton]
          constructor
          · rintro (⟨j, hj, e⟩ | e)
            · exact ⟨j, by omega, e⟩
            · exact ⟨m, by omega, e.symm⟩
          · rintro ⟨j, hj, e⟩
            by_cases ej : j = m
            · subst ej; exact .inr e.symm
            · exact .inl ⟨j, by omega, e⟩
      | false =>
        rw [if_neg (by simp), List.append_nil]
        refine ⟨h1, fun x => ?_⟩
        rw [h2]
        have hk' := of_decide_eq_false hk
        have hm0 : m ≠ 0 := fun e => hk' (.inl e)
        have heq : zs.getD m [] = zs.getD (m - 1) [] := by
          have : zs.toArray[m]! = zs.toArray[m - 1]! := Decidable.byContradiction fun e => hk' (.inr e)
          rw [hat m (by omega), hat (m - 1) (by omega)] at this
          exact this
        constructor
        · rintro ⟨j, hj, e⟩; exact ⟨j, by omega, e⟩
        · rintro ⟨j, hj, e⟩
          by_cases ej : j = m
          · subst ej; exact ⟨j - 1, by omega, by rw [← heq]; exact e⟩
          · exact ⟨j, by omega, e⟩
  obtain ⟨h1, h2⟩ := key zs.length (Nat.le_refl _)
  refine ⟨h1, fun x => (h2 x).trans ?_⟩
  constructor
  · rintro ⟨j, hj, rfl⟩
    rw [List.getD, List.getElem?_eq_getElem hj]
    exact List.getElem_mem hj
  · intro hx
    obtain ⟨j, hj, rfl⟩ := List.getElem_of_mem hx
    exact ⟨j, hj, by simp [List.getD, List.getElem?_eq_getElem hj]⟩

/-- The names of all, as they come. -/
def allNames (l : List Pr) : List ByteArray := l.flatMap namesP
theorem allNames_snoc (l : List Pr) (p : Pr) : allNames (l ++ [p]) = allNames l ++ namesP p := by simp [allNames]
theorem namesP_le (p : Pr) : (namesP p).length ≤ 2 := by
  unfold namesP
  split
  · simp
  · split <;> simp
theorem allNames_length (l : List Pr) : (allNames l).length ≤ 2 * l.length := by
  induction l with
  | nil => simp [allNames]
  | cons p l ih =>
    have := namesP_le p
    simp only [allNames, List.flatMap_cons, List.length_append, List.length_cons] at ih ⊢
    omega
/-- Sorted, and each once. -/
def namesS (l : List Pr) : List ByteArray := (Lib.compact (((allNames l).map bytes).mergeSort fun x y => decide (x ≤ y))).map txt
theorem namesS_is (l : List Pr) : IsNames l (namesS l) := by
  have hs : (((allNames l).map bytes).mergeSort fun x y => decide (x ≤ y)).Pairwise (· ≤ ·) := by
    have := List.pairwise_mergeSort (le := fun x y : List UInt8 => decide (x ≤ y)) (fun a b c h1 h2 => by
      simp only [decide_eq_true_eq] at *
      exact List.le_trans h1 h2) (fun a b => by
      simp only [Bool.or_eq_true, decide_eq_true_eq]
      exact List.le_total a b) ((allNames l).map bytes)
    exact this.imp (by simp)
  obtain ⟨h1, h2⟩ := compact_rises hs
  have ht : ∀ x : List UInt8, bytes (txt x) = x := fun x => bytes_txt x
  refine ⟨List.pairwise_map.2 (h1.imp fun {a b} hab => ?_), fun n => ?_⟩
  · unfold ltN; rw [ht, ht]; exact hab
  · unfold namesS
    simp only [List.mem_map, h2, List.mem_mergeSort]
    constructor
    · rintro ⟨x, ⟨m, hm, rfl⟩, rfl⟩
      rw [txt_bytes]
      exact List.mem_flatMap.1 hm
    · intro hn
      exact ⟨bytes n, ⟨n, List.mem_flatMap.2 hn, rfl⟩, txt_bytes n⟩
theorem namesS_length (l : List Pr) : (namesS l).length ≤ 2 * l.length := by
  have h1 := allNames_length l
  have h2 : (Lib.compact (((allNames l).map bytes).mergeSort fun x y => decide (x ≤ y))).length ≤ (allNames l).length := by
    unfold Lib.compact Lib.compactUpTo
    rw [List.length_map]
    refine Nat.le_trans (List.length_filter_le _ _) ?_
    simp
  unfold namesS
  rw [List.length_map]
  omega
/-- Does one begin with it? -/
def touchesB (r : List ByteArray) (s : ByteArray) : Bool := r.any fun n => Lib.hasPrefix n.data.toList s.data.toList

end Go.Proofs.YtomboeiaajggoaaGreatDoor

/-
  A row of texts of the call's own, sorted, and each kept once, by the library.
-/
namespace Go.Proofs.YtomboeiaajggoaaGreatDoor
open Go.RowKit Go.Maps Go.Sort

/-- The texts, sorted. -/
def sortB (ss : List ByteArray) : List (List UInt8) := (ss.map bytes).mergeSort fun x y => decide (x ≤ y)
theorem sortB_length (ss : List ByteArray) : (sortB ss).length = ss.length := by simp [sortB]
theorem enc_texts (l : List (List UInt8)) : l.map encStr = (l.map txt).map Value.string := by
  rw [List.map_map]
  rfl
theorem enc_all (ss : List ByteArray) : (ss.map bytes).map encStr = ss.map Value.string := by
  rw [List.map_map]
  exact List.map_congr_left fun s _ => enc_bytes s

theorem sort_own {w0 w : World} {v : Value} {ss : List ByteArray} (h : Own 9 w0 w v ss) (hn : ss.length ≤ 1000000) :
    Calls Tryz.prog 42 #[v] w fun e w' => e = .returned (.tuple #[]) ∧ Own 9 w0 w' v ((sortB ss).map txt) := by
  rcases h.1.2 with ⟨rfl, h0⟩ | ⟨g, cap, cur, rfl, hg, hh, hnc, hm, hs, ht⟩
  · have : ss = [] := List.eq_nil_of_length_eq_zero h0
    subst this
    refine (AnyM.slices_Sort_string_none Tryz.laysSort none 0 w).mono ?_
    rintro e w' ⟨rfl, rfl⟩
    exact ⟨rfl, by simpa [sortB] using h⟩
  · rw [Nat.mul_one] at ht
    have hho := holds_of_block (ss := ss.map bytes) hh (by rw [List.length_map, ht, enc_all])
    have hc := AnyM.slices_Sort_string Tryz.laysSort g 0 cap (ss.map bytes) w hho (Array.getElem?_eq_some_iff.1 hh).1 (by simp; omega)
    rw [List.length_map] at hc
    refine hc.mono ?_
    rintro e w' ⟨rfl, k1, os1, rfl⟩
    have h1 := ownsRow_sorted (n := k1) (os := os1) (base := w0.heap.size) (g := g) (cap := cap) (ss := ss.map bytes) (ts := sortB ss) (by simp [sortB]) hg hh (by simpa using hnc) hm hs
    have hl := h.2.turn (B := g) (grownBy_sorted (n := k1) (os := os1) (sortB ss).toArray) hg
    rw [enc_texts, List.length_map] at h1
    exact ⟨rfl, by rw [List.length_map, sortB_length]; exact h1, hl⟩

theorem compact_own {w0 w : World} {v : Value} {zs : List (List UInt8)} (h : Own 9 w0 w v (zs.map txt)) (hn : zs.length ≤ 1000000) :
    Calls Tryz.prog 43 #[v] w fun e w' => ∃ u, e = .returned u ∧ Reads w' u ((Lib.compact zs).map txt) ∧ Later w0 w' := by
  have hle : (Lib.compact zs).length ≤ zs.length := by
    unfold Lib.compact Lib.compactUpTo
    rw [List.length_map]
    refine Nat.le_trans (List.length_filter_le _ _) ?_
    simp
  rcases h.1.2 with ⟨rfl, h0⟩ | ⟨g, cap, cur, rfl, hg, hh, hnc, hm, hs, ht⟩
  · rw [List.length_map] at h0
    have : zs = [] := List.eq_nil_of_length_eq_zero h0
    subst this
    refine (Any.slices_Compact_string_empty Tryz.laysCompact none 0 w).mono ?_
    rintro e w' ⟨rfl, rfl⟩
    exact ⟨_, rfl, Reads.nil _, h.2⟩
  · rw [Nat.mul_one, List.length_map] at ht
    rw [List.length_map] at hnc ⊢
    have hho := holds_of_block (ss := zs) hh (by rw [ht, ← enc_texts])
    have hc := Any.slices_Compact_string Tryz.laysCompact g 0 cap zs w hho (by omega) hnc
    refine hc.mono ?_
    rintro e w' ⟨rfl, q, rfl⟩
    have hgr : w.grownBy (putRow encStr (Sort.ahead w q) g 0 (Lib.compact zs ++ List.replicate (zs.length - (Lib.compact zs).length) []).toArray) (some g) := by
      have := grownBy_sorted (w := w) (g := g) (n := q) (os := #[]) (Lib.compact zs ++ List.replicate (zs.length - (Lib.compact zs).length) []).toArray
      rwa [grow_empty] at this
    have hl := h.2.turn (B := g) hgr hg
    have h1 := ownsRow_sorted (n := q) (os := #[]) (base := w0.heap.size) (g := g) (cap := cap) (ss := zs) (ts := Lib.compact zs ++ List.replicate (zs.length - (Lib.compact zs).length) []) (by simp; omega) hg hh hnc hm hs
    rw [grow_empty] at h1
    refine ⟨_, rfl, ⟨some ⟨g, 0, none⟩, _, cap, rfl, by omega, ?_⟩, hl⟩
    refine ⟨by simp, fun hn0 => ⟨g, 0, rfl, fun j s hj => ?_⟩⟩
    have hjl : j < (Lib.compact zs).length := by have := (List.getElem?_eq_some_iff.1 hj).1; simpa using this
    have hc2 := h1.cells (g := g) rfl j (.string s) (by
      rw [List.map_append, List.getElem?_append_left (by simpa using hjl), enc_texts, List.getElem?_map, hj]
      rfl)
    rw [plain_add] at hc2
    exact hc2

end Go.Proofs.YtomboeiaajggoaaGreatDoor

/-
  What seq's Names and Touches come to, as calls.
-/
namespace Go.Proofs.YtomboeiaajggoaaGreatDoor
open Go.RowKit Go.Maps

set_option maxHeartbeats 400000 in
theorem touchFn_any (pf : ByteArray) (b : Nat) (s : ByteArray) (w : World) (hb : w.cell? ⟨b, 0, none⟩ = some (.string pf)) :
    Calls Tryz.prog 46 #[.string s, .pointer (some ⟨b, 0, none⟩)] w fun e w' => e = .returned (.bool (Lib.hasPrefix s.data.toList pf.data.toList)) ∧ w = w' := by
  have HC := Lib.hid (Any.strings_HasPrefix Tryz.laysPrefix s pf w)
  generalize Lib.hasPrefix s.data.toList pf.data.toList = t at HC ⊢
  go_enter Tryz.func46, Tryz.ntmps46
  go_wp2_with fail
  refine HC.out.mono ?_
  rintro e w' ⟨rfl, rfl⟩
  go_wp2
  go_ret
  exact ⟨rfl, rfl⟩

set_option maxHeartbeats 400000 in
theorem indexTouch_any (A : Option Addr) (n c : Nat) (l : List ByteArray) (pf : ByteArray) (b : Nat) (w : World) (hx : Row w A n l) (hn : n ≤ 65536) (hb : w.cell? ⟨b, 0, none⟩ = some (.string pf)) (Q : Prop) (hQ : Q ↔ ∃ x ∈ l, Lib.hasPrefix x.data.toList pf.data.toList = true) :
    Calls Tryz.prog 75 #[.slice A n c, .func (.func 46) #[] #[.pointer (some ⟨b, 0, none⟩)]] w (FindsAt Q w) := by
  have HX := Lib.hid hx
  have HF := Lib.hid (fun s => touchFn_any pf b s w hb)
  have eg : ∀ (args : Array Value) (w : World), (callFunc 46 args).run Tryz.prog w = .ok (.enter 46 args) w := enters_of Tryz.func46 (by kernel_rfl) rfl
  have HQ := Lib.hid hQ
  clear hx hb hQ
  go_enter Tryz.func75, Tryz.ntmps75
  go_wp2
  go_loop [5, 8] (fun _ i => ∃ k : Nat, k ≤ n ∧ i = .int .i64 k ∧ Hid (∀ j : Nat, j < k → ¬ Lib.hasPrefix (l.getD j ByteArray.empty).data.toList pf.data.toList = true)) (fun _ i => n - (intOf i).toNat)
  case atStart => exact ⟨0, Nat.zero_le _, rfl, fun j hj => absurd hj (Nat.not_lt_zero _)⟩
  case round =>
    obtain ⟨k, hk, rfl, hall⟩ := hrel
    by_cases hlt : k < n
    · obtain ⟨b1, o1, rfl, g1⟩ := HX.out.get hlt
      have hkl : k < l.length := by rw [HX.out.len]; exact hlt
      have HM := Lib.hid (mem_getD hkl)
      generalize hy : l.getD k ByteArray.empty = y at g1 HM
      have HY := Lib.hid hy
      clear hkl hy
      have hf := HF.out y
      cases he : Lib.hasPrefix y.data.toList pf.data.toList
      · rw [he] at hf
        have HFy := Lib.hid hf
        have HA : Hid (∀ j : Nat, j < k + 1 → ¬ Lib.hasPrefix (l.getD j ByteArray.empty).data.toList pf.data.toList = true) := fun j hj => by
          by_cases e : j = k
          · rw [e, HY.out, he]; exact Bool.false_ne_true
          · exact hall.out j (by omega)
        clear hall HY HM he hf
        go_wp2_with (go_at_fn 46; refine HFy.out.mono ?_; rintro e w' ⟨rfl, rfl⟩)
        exact ⟨⟨k + 1, by omega, by go_num, HA⟩, by simp [intOf]; omega⟩
      · rw [he] at hf
        have HFy := Lib.hid hf
        have HE := Lib.hid he
        clear hall HY he hf
        go_wp2_with (go_at_fn 46; refine HFy.out.mono ?_; rintro e w' ⟨rfl, rfl⟩)
        go_ret
        exact ⟨⟨k, rfl, fun _ => HQ.out.2 ⟨y, HM.out, HE.out⟩, fun _ => by omega⟩, rfl⟩
    · have E : Hid (¬ ∃ x ∈ l, Lib.hasPrefix x.data.toList pf.data.toList = true) := not_mem_of (p := fun x => Lib.hasPrefix x.data.toList pf.data.toList = true) fun j hj => hall.out j (by rw [HX.out.len] at hj; omega)
      clear hall
      go_wp2
      go_ret
      exact ⟨⟨-1, rfl, fun h => absurd h (by omega), fun h => absurd (HQ.out.1 h) E.out⟩, rfl⟩

theorem containsTouch_any (A : Option Addr) (n c : Nat) (l : List ByteArray) (pf : ByteArray) (b : Nat) (w : World) (hx : Row w A n l) (hn : n ≤ 65536) (hb : w.cell? ⟨b, 0, none⟩ = some (.string pf)) :
    Calls Tryz.prog 45 #[.slice A n c, .func (.func 46) #[] #[.pointer (some ⟨b, 0, none⟩)]] w fun e w' => e = .returned (.bool (touchesB l pf)) ∧ w = w' := by
  have HI := Lib.hid (indexTouch_any A n c l pf b w hx hn hb ((touchesB l pf) = true) (by unfold touchesB; rw [List.any_eq_true]))
  clear hx hb
  go_enter Tryz.func45, Tryz.ntmps45
  go_wp2_with fail
  refine HI.out.mono ?_
  rintro e w' ⟨⟨k, rfl, hk⟩, rfl⟩
  have e1 : decide (0 ≤ k) = (touchesB l pf) := by
    rw [Bool.eq_iff_iff, decide_eq_true_eq, hk]
  have E1 := Lib.hid e1
  clear e1 hk HI
  go_wp2
  go_ret
  refine ⟨?_, rfl⟩
  first | exact ret_bool E1.out | (rw [← E1.out]; rfl) | (rw [← E1.out]; simp)

set_option maxRecDepth 100000 in
set_option maxHeartbeats 800000 in
theorem seqNames_any (A : Option Addr) (n c : Nat) (xs : List PrC) (w : World) (hx : PsOk w A n xs) (hn : n ≤ 30000) :
    Calls Tryz.prog 14 #[.slice A n c] w (GivesL (namesS (valsP xs)) w) := by
  have HX := Lib.hid hx; clear hx
  obtain ⟨i0, hi, hz0, hz1, hz2⟩ := info_parts Tryz.textInfo
  go_enter Tryz.func14, Tryz.ntmps14
  go_wp2
  go_loopg [3, 8] (n + 1) (fun g s3 s8 wr => ∃ (k : Nat) (v : Value), k ≤ n ∧ n - k ≤ g ∧ s8 = .int .i64 k ∧ s3 = v ∧ Hid (Own 9 w wr v (allNames ((valsP xs).take k))))
  case atStart => exact ⟨0, _, Nat.zero_le _, by omega, rfl, rfl, Own.nil (Later.refl w)⟩
  case round =>
    obtain ⟨k, v, hk, hg, rfl, hv, hown⟩ := hrel
    obtain rfl := hv.symm
    clear hv
    have hlen2 : (allNames ((valsP xs).take k)).length ≤ 2 * n := by
      have h1 := allNames_length ((valsP xs).take k)
      have h2 : ((valsP xs).take k).length ≤ k := List.length_take_le _ _
      omega
    by_cases hlt : k < n
    · obtain ⟨b, o, x, rfl, hz, hok, g0, g1, g2, g3, g4, g5⟩ := (HX.out.later hown.out.later).get hlt
      have HLB : Hid (Later wr (wr.alloc (.cells #[.int .i64 x.v.kind, .string x.v.name, .string x.v.to, .int .i64 x.v.place, .slice x.A x.n x.c, .slice x.B x.m x.d] 48))) := (Later.refl wr).alloc _
      have HC := Lib.hid (primNames_any x (wr.alloc (.cells #[.int .i64 x.v.kind, .string x.v.name, .string x.v.to, .int .i64 x.v.place, .slice x.A x.n x.c, .slice x.B x.m x.d] 48)))
      have HTK := Lib.hid (valsP_take hz); have hle := namesP_le x.v
      clear hok hz
      unfold prV at HC
      go_wp2_with fail
      refine HC.out.mono ?_
      rintro e w2 ⟨A2, c2, rfl, hc2, hr2, hl2⟩
      have HR2 := Lib.hid hr2; have HO2 := Lib.hid ((hown.out.on HLB.out).on hl2)
      clear hr2 hl2 HC g0 g1 g2 g3 g4 g5
      generalize hnl : (namesP x.v).length = m2 at HR2 hc2 hle ⊢
      go_wp2_with (at_builtin; refine wpList_append_row rfl _ _ 32 rfl i0 Tryz.underlying32 hi hz0 hz1 hz2 HO2.out rfl _ _ _ _ rfl HR2.out (by omega) ?_; intro v4 w4 hown4 hg4; have HO4 := Lib.hid hown4; clear hown4 hg4)
      go_roundg (n - (k + 1))
      case measure => omega
      case rel => exact ⟨k + 1, v4, by omega, Nat.le_refl _, by go_num, rfl, by show Own 9 w w4 v4 _; rw [HTK.out, allNames_snoc]; exact HO4.out⟩
    · have HO : Hid (Own 9 w wr v (allNames (valsP xs))) := by
        have := hown.out
        rw [List.take_of_length_le (by rw [valsP_length, HX.out.len]; omega)] at this
        exact this
      have hl3 : (allNames (valsP xs)).length ≤ 2 * n := by
        have := allNames_length (valsP xs)
        rw [valsP_length, HX.out.len] at this
        exact this
      have HS := Lib.hid (sort_own HO.out (by omega))
      clear hown hlen2
      go_wp2_with fail
      refine HS.out.mono ?_
      rintro e w2 ⟨rfl, hos⟩
      have HC := Lib.hid (compact_own hos (by rw [sortB_length]; omega))
      clear hos HS
      go_wp2_with fail
      refine HC.out.mono ?_
      rintro e w3 ⟨u, rfl, hr, hl⟩
      have HR := Lib.hid hr; have HL := Lib.hid hl
      clear hr hl HC
      go_wp2
      go_ret
      exact ⟨u, rfl, HR.out, HL.out⟩

set_option maxRecDepth 100000 in
set_option maxHeartbeats 400000 in
theorem seqTouches_any (A : Option Addr) (n c : Nat) (xs : List PrC) (pf : ByteArray) (w : World) (hx : PsOk w A n xs) (hn : n ≤ 30000) :
    Calls Tryz.prog 16 #[.slice A n c, .string pf] w (Says (touchesB (namesS (valsP xs)) pf) w) := by
  have hl1 : Later w (w.alloc (.cells #[.string pf] 9)) := (Later.refl w).alloc _
  have HN := Lib.hid (seqNames_any A n c xs _ (hx.later hl1) hn)
  have hb : BoxAt (w.alloc (.cells #[.string pf] 9)) w.heap.size #[.string pf] 9 := BoxAt.made w _ _
  have HB := Lib.hid hb; have HL1 := Lib.hid hl1
  have hlen := namesS_length (valsP xs)
  rw [valsP_length, hx.len] at hlen
  clear hx hl1 hb
  go_enter Tryz.func16, Tryz.ntmps16
  go_wp2_with fail
  refine HN.out.mono ?_
  rintro e w1 ⟨v, rfl, ⟨A1, n1, c1, rfl, hc1, hr1⟩, hl⟩
  have HC := Lib.hid (containsTouch_any A1 n1 c1 (namesS (valsP xs)) pf w.heap.size w1 hr1 (by rw [← hr1.len]; omega) ((HB.out.later hl).cell rfl))
  have HL := Lib.hid (HL1.out.trans hl)
  clear hl HN hr1
  go_wp2_with fail
  refine HC.out.mono ?_
  rintro e w2 ⟨rfl, rfl⟩
  clear HC
  go_wp2
  go_ret
  exact ⟨rfl, HL.out⟩

end Go.Proofs.YtomboeiaajggoaaGreatDoor

/-
  Operations of a region that are guarded by one that yields true; functions as values.
-/
namespace Go.Proofs.YtomboeiaajggoaaGreatDoor
open Go.RowKit Go.Maps

/-- Operation i of the region, guarded by operation g, whose slot is d. -/
def OpG (ops : Array Oper) (i : Nat) (op : Op) (dst : Option Tmp) (js : List Nat) (g : Nat) (d : Tmp) : Prop := ∃ o, ops[i]? = some o ∧ o.op = op ∧ o.dst = dst ∧ o.guard = some (g, true) ∧ needs o js = true ∧ (ops[g]?).bind (·.dst) = some d
def unguard (ops : Array Oper) (i : Nat) : Array Oper := ops.modify i fun o => { o with guard := none }
theorem OpG.waits {ops : Array Oper} {i g : Nat} {d : Tmp} {op : Op} {dst : Option Tmp} {js : List Nat} (h : OpG ops i op dst js g d) {o : Oper} (ho : ops[i]? = some o) {l : Nat → Bool} (hl : ∀ e ∈ o.after, Region.binds .any e = true → l e.on = true) : ∀ j ∈ js, l j = true := by
  obtain ⟨o', h1, -, -, -, h5, -⟩ := h
  rw [ho] at h1
  cases h1
  intro j hj
  have := List.all_eq_true.1 h5 j hj
  simp only [Array.any_eq_true, Bool.and_eq_true, decide_eq_true_eq] at this
  obtain ⟨k, hk, e1, e2⟩ := this
  rw [← e1]
  exact hl _ (Array.getElem_mem hk) e2
theorem OpG.un {ops : Array Oper} {i g : Nat} {d : Tmp} {op : Op} {dst : Option Tmp} {js : List Nat} (h : OpG ops i op dst js g d) : OpIs (unguard ops i) i op dst [] := by
  obtain ⟨o, h1, h2, h3, -, -, -⟩ := h
  exact ⟨{ o with guard := none }, by simp [unguard, Array.getElem?_modify, h1], h2, h3, rfl, rfl⟩
theorem OpG.via {P : Program} {ops : Array Oper} {Q : Exit → Act → World → Prop} {K : Act → World → Prop} {i g : Nat} {d : Tmp} {op : Op} {dst : Option Tmp} {js : List Nat} {a : Act} {w : World} (h : OpG ops i op dst js g d) (hv : a.eval (.tmp d) = .bool true) (hd : d < a.tmps.size)
    (hk : wpOp P (unguard ops i) Q i K a w) : wpOp P ops Q i K a w := by
  obtain ⟨o, h1, -, -, h4, -, h6⟩ := h
  unfold wpOp at hk ⊢
  rw [h1]
  have e1 : (unguard ops i)[i]? = some { o with guard := none } := by simp [unguard, Array.getElem?_modify, h1]
  rw [e1] at hk
  have e2 : Region.wanted o (yielded ops a.tmps) = true := by
    have ht : a.tmps[d]? = some (.bool true) := by
      rw [Array.getElem?_eq_getElem hd]
      have := hv
      simp only [Act.eval, Array.getD, hd, dif_pos] at this
      exact congrArg some this
    simp only [Region.wanted, h4, yielded]
    rw [h6]
    simp [ht]
  dsimp only at hk ⊢
  rw [if_pos e2]
  rw [if_pos (by rfl)] at hk
  exact hk

section
variable {ops : Array Oper} {Q : Exit → Act → World → Prop} {K : Act → World → Prop} {i : Nat} {dst : Option Tmp} {js : List Nat} {a : Act} {w w0 : World}
theorem OpIs.loadF {k : Tmp} {g : Nat} {fi : FuncId} {lb : Array Value} {t : TypeId} (h : OpIs ops i (.load 68 (.tmp k)) dst js) (he : a.eval (.tmp k) = .pointer (some ⟨g, 0, none⟩)) (hb : BoxAt w g #[.func (.func fi) #[] lb] t) (hk : K (a.put dst (.func (.func fi) #[] lb)) w) : wpOp Tryz.prog ops Q i K a w :=
  h.go fun o h1 h2 => by
    have hc := hb.cell (i := 0) rfl
    have hr : (execOp a.eval o).run Tryz.prog w = .ok (.value (.func (.func fi) #[] lb)) w := by
      clear hb hk
      unfold execOp
      rw [h1]
      dsimp only
      rw [he]
      go_simp
    unfold Oper.wp
    rw [hr]
    show K _ _
    rw [h2]
    exact hk
theorem run_neq_func_nil (w : World) (fi : FuncId) (lb : Array Value) : (binOp .neq 68 (.func (.func fi) #[] lb) .nilFunc).run Tryz.prog w = .ok (.bool true) w := by
  have key : ∀ d, (Op.equalIn (d + 1) 68 (.func (.func fi) #[] lb) .nilFunc).run Tryz.prog w = .ok false w := fun d => by
    simp [Op.equalIn, run_underlying Tryz.underlying68]
  have h : (Op.equal 68 (.func (.func fi) #[] lb) .nilFunc).run Tryz.prog w = .ok false w := key 9999
  simp [binOp, h]
theorem OpIs.notNil {k : Tmp} {fi : FuncId} {lb : Array Value} (h : OpIs ops i (.binOp .neq 68 (.tmp k) (.const .nilFunc) 68) dst js) (he : a.eval (.tmp k) = .func (.func fi) #[] lb) (hk : K (a.put dst (.bool true)) w) : wpOp Tryz.prog ops Q i K a w :=
  h.go fun o h1 h2 => by
    have hr : (execOp a.eval o).run Tryz.prog w = .ok (.value (.bool true)) w := by
      clear hk
      unfold execOp
      rw [h1]
      dsimp only
      rw [he]
      have hn := run_neq_func_nil w fi lb
      go_simp
    unfold Oper.wp
    rw [hr]
    show K _ _
    rw [h2]
    exact hk
theorem OpIs.pick {j k : Tmp} {v : Value} (h : OpIs ops i (.pick (.tmp j) (.tmp k) (.const (.bool false))) dst js) (hj : a.eval (.tmp j) = .bool true) (hv : a.eval (.tmp k) = v) (hk : K (a.put dst v) w) : wpOp Tryz.prog ops Q i K a w :=
  h.go fun o h1 h2 => by
    have hr : (execOp a.eval o).run Tryz.prog w = .ok (.value v) w := by
      clear hk
      unfold execOp
      rw [h1]
      dsimp only
      rw [hj, hv]
      go_simp
    unfold Oper.wp
    rw [hr]
    show K _ _
    rw [h2]
    exact hk
/-- A prim of a row is read. -/
theorem OpIs.loadP {k : Tmp} {g o m n : Nat} {x : PrC} {xs : List PrC} (h : OpIs ops i (.load 48 (.tmp k)) dst js) (he : a.eval (.tmp k) = .pointer (some ⟨g, o + m * 6, none⟩)) (hr : RowK 6 w (some ⟨g, o, none⟩) n (xs.map prL)) (hx : xs[m]? = some x) (hk : K (a.put dst (prV x)) w) : wpOp Tryz.prog ops Q i K a w :=
  h.go fun op h1 h2 => by
    have hm : m < n := by
      have := hr.len
      simp only [List.length_map] at this
      have := (List.getElem?_eq_some_iff.1 hx).1
      omega
    obtain ⟨b', o', q, hA, hz, g0, g1, g2, g3, g4, g5⟩ := hr.getP hm
    cases hA
    rw [hx] at hz
    cases hz
    have hrun : (execOp a.eval op).run Tryz.prog w = .ok (.value (prV x)) w := by
      clear hr hk hx
      unfold prV execOp
      rw [h1]
      dsimp only
      rw [he]
      go_simp
    unfold Oper.wp
    rw [hrun]
    show K _ _
    rw [h2]
    exact hk
/-- A function value is called. -/
theorem OpIs.callF {f k m : Tmp} {t s : TypeId} {v u : Value} {fi : FuncId} {lb : Array Value} {Post : Ending → World → Prop} (h : OpIs ops i (.call { callee := .value (.tmp f), args := #[.tmp k, .tmp m], argTypes := #[t, s] }) dst js) (hf : ∀ args w, (callFunc fi args).run Tryz.prog w = .ok (.enter fi args) w)
    (he0 : a.eval (.tmp f) = .func (.func fi) #[] lb) (he : a.eval (.tmp k) = v) (he2 : a.eval (.tmp m) = u) (hc : Calls Tryz.prog fi (#[v, u] ++ lb) w Post) (hk : ∀ e w', Post e w' → ∃ r, e = .returned r ∧ K (a.put dst r) w') : wpOp Tryz.prog ops Q i K a w :=
  h.go fun o h1 h2 => by
    have hr : (execOp a.eval o).run Tryz.prog w = .ok (.enter fi (#[v, u] ++ lb)) w := by
      unfold execOp
      rw [h1]
      simp only [resolve, invoke, Sem.run_bind, List.map_toArray, List.map_cons, List.map_nil, he0, he, he2]
      go_simp
    unfold Oper.wp
    rw [hr]
    show Calls _ _ _ _ _
    refine hc.mono ?_
    intro e w' hp
    obtain ⟨r, rfl, hku⟩ := hk e w' hp
    dsimp only
    rw [h2]
    exact hku
end

end Go.Proofs.YtomboeiaajggoaaGreatDoor
