import Derived.Test.YtnhhdjcbifmfgaaDoorPk7
import Derived.Test.YtnhhdjcbifmfgaaDoorPk8
import Derived.Test.YtnhhdjcbifmfgaaDoorPk9
import Derived.Test.YtnhhdjcbifmfgaaDoorPk6
import Derived.OrdersHeld
import Derived.Deep.RegionHeld3
import Derived.Shelf.Abstract

/-
  What the law PrimOwn comes to, as a call, where its guard lets it be.
-/
namespace Go.Proofs.YtnhhdjcbifmfgaaDoor
open Go.RowKit Go.Maps

set_option maxRecDepth 100000 in
set_option maxHeartbeats 8000000 in
theorem primOwn_guard (x : PrC) (w : World) (hx : CameP w x) (htab : Tab w) (hguard : 4000 < 1 + weightP x.v ∨ x.v.kind ≠ 0 ∨ x.n = 0 ∨ x.m = 0 ∨ rightP x.v = false ∨ 100 < x.v.place) : Calls Tryd.prog 3 #[prV x] w (Says true w) := by
  have hw := hx.weigh
  have HM := Lib.hid (manyP_any (some ⟨w.heap.size + 1, 0, none⟩) 1 1 [x] ((w.alloc (.cells #[.int .i64 x.v.kind, .string x.v.name, .string x.v.to, .int .i64 x.v.place, .slice x.A x.n x.c, .slice x.B x.m x.d] 24)).alloc (.cells #[.int .i64 x.v.kind, .string x.v.name, .string x.v.to, .int .i64 x.v.place, .slice x.A x.n x.c, .slice x.B x.m x.d] 24)) (by have := prims_one hx ((Later.refl w).alloc (.cells #[.int .i64 x.v.kind, .string x.v.name, .string x.v.to, .int .i64 x.v.place, .slice x.A x.n x.c, .slice x.B x.m x.d] 24)) 24; simpa using this) (by omega) (by rw [weightPs_one]; omega))
  rw [weightPs_one] at HM
  have hlb : Later w ((w.alloc (.cells #[.int .i64 x.v.kind, .string x.v.name, .string x.v.to, .int .i64 x.v.place, .slice x.A x.n x.c, .slice x.B x.m x.d] 24)).alloc (.cells #[.int .i64 x.v.kind, .string x.v.name, .string x.v.to, .int .i64 x.v.place, .slice x.A x.n x.c, .slice x.B x.m x.d] 24)) := ((Later.refl w).alloc _).alloc _
  have hbx : BoxAt ((w.alloc (.cells #[.int .i64 x.v.kind, .string x.v.name, .string x.v.to, .int .i64 x.v.place, .slice x.A x.n x.c, .slice x.B x.m x.d] 24)).alloc (.cells #[.int .i64 x.v.kind, .string x.v.name, .string x.v.to, .int .i64 x.v.place, .slice x.A x.n x.c, .slice x.B x.m x.d] 24)) w.heap.size (prL x).toArray 24 := (BoxAt.made w (prL x).toArray 24).alloc _
  have hol := hx.old.len
  have hnl := hx.new.len
  have HLB := Lib.hid hlb; have HBX := Lib.hid hbx; have HTB := Lib.hid htab; have HX := Lib.hid hx
  have hlo := hx.lo; have hhi := hx.hi
  clear hlb hbx htab hx
  unfold prV
  by_cases hg : 4000 < 1 + weightP x.v
  · go_enter Tryd.func3, Tryd.ntmps3
    go_wp2_with fail
    refine HM.out.mono ?_
    rintro e w1 ⟨rfl, hl1⟩
    have hb1 := HBX.out.later hl1
    obtain ⟨y0, y1, y2, y3, y4, y5⟩ := hb1.six
    have HB1 := Lib.hid hb1
    have HL1 := Lib.hid (HLB.out.trans hl1)
    clear hl1 hb1
    go_wp2_with fail
    refine (aliveP_any w1 (HTB.out.later HL1.out)).mono ?_
    rintro e w9 ⟨rfl, hl9⟩
    have HL9 := Lib.hid (HL1.out.trans hl9); clear hl9
    go_wp2
    go_ret
    exact ⟨rfl, HL9.out⟩
  have hd0 : decide ((4000 : Int) < 1 + (weightP x.v : Int)) = false := decide_eq_false (by omega)
  have hno : x.n ≤ 4000 ∧ x.m ≤ 4000 := by unfold weightP at hg; omega
  have HOK := Lib.hid (HX.out.ok (by omega))
  by_cases hk' : ¬ x.v.kind = 0
  · go_enter Tryd.func3, Tryd.ntmps3
    go_wp2_with fail
    refine HM.out.mono ?_
    rintro e w1 ⟨rfl, hl1⟩
    have hb1 := HBX.out.later hl1
    obtain ⟨y0, y1, y2, y3, y4, y5⟩ := hb1.six
    have HB1 := Lib.hid hb1
    have HL1 := Lib.hid (HLB.out.trans hl1)
    clear hl1 hb1
    go_wp2_with fail
    refine (aliveP_any w1 (HTB.out.later HL1.out)).mono ?_
    rintro e w9 ⟨rfl, hl9⟩
    have HL9 := Lib.hid (HL1.out.trans hl9); clear hl9
    go_wp2
    go_ret
    exact ⟨rfl, HL9.out⟩
  have hk : x.v.kind = 0 := Decidable.not_not.1 hk'
  have HGD := Lib.hid hguard
  clear hguard
  have hkd : (x.v.kind != 0) = false := by rw [hk]; rfl
  have HK := Lib.hid hk
  clear hk hk'
  by_cases h1 : x.n = 0
  · have hd1 : ((x.n : Int) == 0) = true := by rw [beq_iff_eq]; omega
    clear h1
    go_enter Tryd.func3, Tryd.ntmps3
    go_wp2_with fail
    refine HM.out.mono ?_
    rintro e w1 ⟨rfl, hl1⟩
    have hb1 := HBX.out.later hl1
    obtain ⟨y0, y1, y2, y3, y4, y5⟩ := hb1.six
    have HB1 := Lib.hid hb1
    have HL1 := Lib.hid (HLB.out.trans hl1)
    clear hl1 hb1
    go_wp2_with fail
    refine (aliveP_any w1 (HTB.out.later HL1.out)).mono ?_
    rintro e w9 ⟨rfl, hl9⟩
    have HL9 := Lib.hid (HL1.out.trans hl9); clear hl9
    go_wp2
    go_ret
    exact ⟨rfl, HL9.out⟩
  by_cases h2 : x.m = 0
  · have hd1 : ((x.n : Int) == 0) = false := by rw [beq_eq_false_iff_ne]; omega
    have hd2 : ((x.m : Int) == 0) = true := by rw [beq_iff_eq]; omega
    clear h1 h2
    go_enter Tryd.func3, Tryd.ntmps3
    go_wp2_with fail
    refine HM.out.mono ?_
    rintro e w1 ⟨rfl, hl1⟩
    have hb1 := HBX.out.later hl1
    obtain ⟨y0, y1, y2, y3, y4, y5⟩ := hb1.six
    have HB1 := Lib.hid hb1
    have HL1 := Lib.hid (HLB.out.trans hl1)
    clear hl1 hb1
    go_wp2_with fail
    refine (aliveP_any w1 (HTB.out.later HL1.out)).mono ?_
    rintro e w9 ⟨rfl, hl9⟩
    have HL9 := Lib.hid (HL1.out.trans hl9); clear hl9
    go_wp2
    go_ret
    exact ⟨rfl, HL9.out⟩
  have hd1 : ((x.n : Int) == 0) = false := by rw [beq_eq_false_iff_ne]; omega
  have hd2 : ((x.m : Int) == 0) = false := by rw [beq_eq_false_iff_ne]; omega
  have HR := Lib.hid (fun (w1 : World) (hl : Later w w1) => refRight_v (HOK.out.later hl).at)
  unfold prV at HR
  cases hr : rightP x.v
  · rw [hr] at HR
    go_enter Tryd.func3, Tryd.ntmps3
    go_wp2_with fail
    refine HM.out.mono ?_
    rintro e w1 ⟨rfl, hl1⟩
    have hb1 := HBX.out.later hl1
    obtain ⟨y0, y1, y2, y3, y4, y5⟩ := hb1.six
    have HB1 := Lib.hid hb1
    have HL1 := Lib.hid (HLB.out.trans hl1)
    clear hl1 hb1
    go_wp2_with fail
    refine (HR.out w1 HL1.out).mono ?_
    rintro e w2 ⟨rfl, hl2⟩
    obtain ⟨q0, q1, q2, q3, q4, q5⟩ := (HB1.out.later hl2).six
    have HB2 := Lib.hid (HB1.out.later hl2)
    have HL2 := Lib.hid (HL1.out.trans hl2)
    clear hl2 y0 y1 y2 y3 y4 y5
    go_wp2_with fail
    refine (aliveP_any w2 (HTB.out.later HL2.out)).mono ?_
    rintro e w9 ⟨rfl, hl9⟩
    have HL9 := Lib.hid (HL2.out.trans hl9); clear hl9
    go_wp2
    go_ret
    exact ⟨rfl, HL9.out⟩
  rw [hr] at HR
  by_cases h3 : 100 < x.v.place
  · go_enter Tryd.func3, Tryd.ntmps3
    go_wp2_with fail
    refine HM.out.mono ?_
    rintro e w1 ⟨rfl, hl1⟩
    have hb1 := HBX.out.later hl1
    obtain ⟨y0, y1, y2, y3, y4, y5⟩ := hb1.six
    have HB1 := Lib.hid hb1
    have HL1 := Lib.hid (HLB.out.trans hl1)
    clear hl1 hb1
    go_wp2_with fail
    refine (HR.out w1 HL1.out).mono ?_
    rintro e w2 ⟨rfl, hl2⟩
    obtain ⟨q0, q1, q2, q3, q4, q5⟩ := (HB1.out.later hl2).six
    have HB2 := Lib.hid (HB1.out.later hl2)
    have HL2 := Lib.hid (HL1.out.trans hl2)
    clear hl2 y0 y1 y2 y3 y4 y5
    go_wp2_with fail
    refine (aliveP_any w2 (HTB.out.later HL2.out)).mono ?_
    rintro e w9 ⟨rfl, hl9⟩
    have HL9 := Lib.hid (HL2.out.trans hl9); clear hl9
    go_wp2
    go_ret
    exact ⟨rfl, HL9.out⟩
  rcases HGD.out with h | h | h | h | h | h
  · exact absurd h hg
  · exact absurd HK.out h
  · exact absurd h h1
  · exact absurd h h2
  · rw [hr] at h; cases h
  · exact absurd h h3

end Go.Proofs.YtnhhdjcbifmfgaaDoor

/-
  Two structures out of two calls, assigned by one statement: its operations may come in any order. The operations' own laws.
-/
namespace Go.Proofs.YtnhhdjcbifmfgaaDoor
open Go.RowKit

def zeroC : Array Value := #[.int .i64 0, .string ⟨#[]⟩, .string ⟨#[]⟩, .int .i64 0, .slice none 0 0, .slice none 0 0]

theorem op_alloc {o : Oper} (ho : o.op = .alloc 29) (a : Act) (w : World) : (execOp a.eval o).run Tryd.prog w = .ok (.value (.pointer (some ⟨w.heap.size, 0, none⟩))) (w.alloc (.cells zeroC 29)) := by
  unfold execOp
  rw [ho]
  go_simp
  rfl

theorem op_call {o : Oper} {f : FuncId} {k : Tmp} (ho : o.op = .call { callee := .value (.func f), args := #[.tmp k], argTypes := #[29] }) (he : ∀ args w, (callFunc f args).run Tryd.prog w = .ok (.enter f args) w) (a : Act) (w : World) : (execOp a.eval o).run Tryd.prog w = .ok (.enter f #[a.eval (.tmp k)]) w := by
  unfold execOp
  rw [ho]
  simp only [resolve, invoke, Sem.run_bind, List.map_toArray, List.map_cons, List.map_nil]
  go_simp

theorem op_store {o : Oper} {j k : Tmp} (ho : o.op = .store 29 (.tmp j) (.tmp k)) (a : Act) (w : World) (g : Nat) (k0 : Int) (s1 s2 : ByteArray) (p3 : Int) (A4 : Option Addr) (n4 c4 : Nat) (A5 : Option Addr) (n5 c5 : Nat) (x0 x1 x2 x3 x4 x5 : Value) (h4 : a.eval (.tmp j) = .pointer (some ⟨g, 0, none⟩)) (hv : a.eval (.tmp k) = .agg #[.int .i64 k0, .string s1, .string s2, .int .i64 p3, .slice A4 n4 c4, .slice A5 n5 c5])
    (hb : BoxAt w g #[x0, x1, x2, x3, x4, x5] 29) : (execOp a.eval o).run Tryd.prog w = .ok .skip ((((((w.setCell ⟨g, 0, none⟩ (.int .i64 k0)).setCell ⟨g, 1, none⟩ (.string s1)).setCell ⟨g, 2, none⟩ (.string s2)).setCell ⟨g, 3, none⟩ (.int .i64 p3)).setCell ⟨g, 4, none⟩ (.slice A4 n4 c4)).setCell ⟨g, 5, none⟩ (.slice A5 n5 c5)) := by
  have y0 : w.cell? ⟨g, 0, none⟩ = some x0 := hb.cell rfl
  have y1 : w.cell? ⟨g, 1, none⟩ = some x1 := hb.cell rfl
  have y2 : w.cell? ⟨g, 2, none⟩ = some x2 := hb.cell rfl
  have y3 : w.cell? ⟨g, 3, none⟩ = some x3 := hb.cell rfl
  have y4 : w.cell? ⟨g, 4, none⟩ = some x4 := hb.cell rfl
  have y5 : w.cell? ⟨g, 5, none⟩ = some x5 := hb.cell rfl
  have z0 := hb.frozen 0; have z1 := hb.frozen 1; have z2 := hb.frozen 2; have z3 := hb.frozen 3; have z4 := hb.frozen 4; have z5 := hb.frozen 5
  clear hb
  unfold execOp
  rw [ho]
  dsimp only
  rw [h4, hv]
  go_simp

end Go.Proofs.YtnhhdjcbifmfgaaDoor

/-
  Two structures out of two calls, assigned by one statement, in whatever order its operations come: what stands behind them.
-/
namespace Go.Proofs.YtnhhdjcbifmfgaaDoor
open Go.RowKit

/-- What the statement's operations have made. -/
structure Two where
  u42 : Value
  u43 : Value
  u44 : Value
  u45 : Value
  u4 : Value
  u5 : Value
  A1 : Option Addr
  n1 : Nat
  c1 : Nat
  A2 : Option Addr
  n2 : Nat
  c2 : Nat
  A3 : Option Addr
  n3 : Nat
  c3 : Nat
  A4 : Option Addr
  n4 : Nat
  c4 : Nat
  g4 : Nat
  g5 : Nat
namespace Two
def r1 (d : Two) : Value := .slice d.A1 d.n1 d.c1
def r2 (d : Two) : Value := .slice d.A2 d.n2 d.c2
def r3 (d : Two) : Value := .slice d.A3 d.n3 d.c3
def r4 (d : Two) : Value := .slice d.A4 d.n4 d.c4
end Two

/-- The frame. -/
def twoF (a : Act) (d : Two) : Act := (((((a.put (some 42) d.u42).put (some 43) d.u43).put (some 44) d.u44).put (some 45) d.u45).put (some 4) d.u4).put (some 5) d.u5

theorem put_put (a : Act) (k : Tmp) (u v : Value) : (a.put (some k) u).put (some k) v = a.put (some k) v := by simp [Act.put]
theorem put_sw (a : Act) {j k : Tmp} (u v : Value) (h : j ≠ k) : (a.put (some j) u).put (some k) v = (a.put (some k) v).put (some j) u :=
  Act.put_comm a u v fun d e1 e2 => by cases e1; cases e2; exact h rfl

section
variable (a : Act) (d : Two) (v : Value)
theorem twoF5 : (twoF a d).put (some 5) v = twoF a { d with u5 := v } := by unfold twoF; rw [put_put]
theorem twoF4 : (twoF a d).put (some 4) v = twoF a { d with u4 := v } := by
  unfold twoF
  rw [put_sw _ _ _ (show (5 : Tmp) ≠ 4 by decide), put_put]
theorem twoF45 : (twoF a d).put (some 45) v = twoF a { d with u45 := v } := by
  unfold twoF
  rw [put_sw _ _ _ (show (5 : Tmp) ≠ 45 by decide), put_sw _ _ _ (show (4 : Tmp) ≠ 45 by decide), put_put]
theorem twoF44 : (twoF a d).put (some 44) v = twoF a { d with u44 := v } := by
  unfold twoF
  rw [put_sw _ _ _ (show (5 : Tmp) ≠ 44 by decide), put_sw _ _ _ (show (4 : Tmp) ≠ 44 by decide), put_sw _ _ _ (show (45 : Tmp) ≠ 44 by decide), put_put]
theorem twoF43 : (twoF a d).put (some 43) v = twoF a { d with u43 := v } := by
  unfold twoF
  rw [put_sw _ _ _ (show (5 : Tmp) ≠ 43 by decide), put_sw _ _ _ (show (4 : Tmp) ≠ 43 by decide), put_sw _ _ _ (show (45 : Tmp) ≠ 43 by decide), put_sw _ _ _ (show (44 : Tmp) ≠ 43 by decide), put_put]
theorem twoF42 : (twoF a d).put (some 42) v = twoF a { d with u42 := v } := by
  unfold twoF
  rw [put_sw _ _ _ (show (5 : Tmp) ≠ 42 by decide), put_sw _ _ _ (show (4 : Tmp) ≠ 42 by decide), put_sw _ _ _ (show (45 : Tmp) ≠ 42 by decide), put_sw _ _ _ (show (44 : Tmp) ≠ 42 by decide), put_sw _ _ _ (show (43 : Tmp) ≠ 42 by decide), put_put]
end

theorem eval_put_same (a : Act) (k : Tmp) (v : Value) (h : k < a.tmps.size) : (a.put (some k) v).eval (.tmp k) = v := by
  simp [Act.put, Act.eval, h]
theorem eval_put_other (a : Act) {j k : Tmp} (v : Value) (h : j ≠ k) : (a.put (some j) v).eval (.tmp k) = a.eval (.tmp k) := by
  simp [Act.put, Act.eval, h]
theorem size_put (a : Act) (j : Tmp) (v : Value) : (a.put (some j) v).tmps.size = a.tmps.size := by simp [Act.put]

theorem twoE42 {a : Act} (ha : 46 ≤ a.tmps.size) (d : Two) : (twoF a d).eval (.tmp 42) = d.u42 := by
  unfold twoF
  rw [eval_put_other _ _ (by decide), eval_put_other _ _ (by decide), eval_put_other _ _ (by decide), eval_put_other _ _ (by decide), eval_put_other _ _ (by decide), eval_put_same _ _ _ (show (42 : Nat) < _ by omega)]
theorem twoE43 {a : Act} (ha : 46 ≤ a.tmps.size) (d : Two) : (twoF a d).eval (.tmp 43) = d.u43 := by
  unfold twoF
  rw [eval_put_other _ _ (by decide), eval_put_other _ _ (by decide), eval_put_other _ _ (by decide), eval_put_other _ _ (by decide), eval_put_same _ _ _ (by rw [size_put]; show (43 : Nat) < _; omega)]
theorem twoE44 {a : Act} (ha : 46 ≤ a.tmps.size) (d : Two) : (twoF a d).eval (.tmp 44) = d.u44 := by
  unfold twoF
  rw [eval_put_other _ _ (by decide), eval_put_other _ _ (by decide), eval_put_other _ _ (by decide), eval_put_same _ _ _ (by rw [size_put, size_put]; show (44 : Nat) < _; omega)]
theorem twoE45 {a : Act} (ha : 46 ≤ a.tmps.size) (d : Two) : (twoF a d).eval (.tmp 45) = d.u45 := by
  unfold twoF
  rw [eval_put_other _ _ (by decide), eval_put_other _ _ (by decide), eval_put_same _ _ _ (by rw [size_put, size_put, size_put]; show (45 : Nat) < _; omega)]
theorem twoE4 {a : Act} (ha : 46 ≤ a.tmps.size) (d : Two) : (twoF a d).eval (.tmp 4) = d.u4 := by
  unfold twoF
  rw [eval_put_other _ _ (by decide), eval_put_same _ _ _ (by rw [size_put, size_put, size_put, size_put]; show (4 : Nat) < _; omega)]
theorem twoE5 {a : Act} (ha : 46 ≤ a.tmps.size) (d : Two) : (twoF a d).eval (.tmp 5) = d.u5 := by
  unfold twoF
  rw [eval_put_same _ _ _ (by rw [size_put, size_put, size_put, size_put, size_put]; show (5 : Nat) < _; omega)]
theorem twoE3 (a : Act) (d : Two) : (twoF a d).eval (.tmp 3) = a.eval (.tmp 3) := by
  unfold twoF
  rw [eval_put_other _ _ (by decide), eval_put_other _ _ (by decide), eval_put_other _ _ (by decide), eval_put_other _ _ (by decide), eval_put_other _ _ (by decide), eval_put_other _ _ (by decide)]

/-- The value of a prim with rows of its own. -/
def aggP (p : Pr) (u v : Value) : Value := .agg #[.int .i64 p.kind, .string p.name, .string p.to, .int .i64 p.place, u, v]

/-- What stands, by which operations have come. -/
structure TwoAt (a1 : Act) (wx : World) (z : PrC) (b0 b1 b2 b3 b4 b5 b6 b7 : Bool) (d : Two) (a : Act) (w : World) : Prop where
  act : a = twoF a1 d
  later : Later wx w
  l0 : b0 = true → d.u42 = prV z
  l2 : b2 = true → d.u44 = prV z
  c1 : b1 = true → d.u43 = aggP (invertP z.v) d.r1 d.r2 ∧ Own 9 wx w d.r1 (invertP z.v).old ∧ Own 9 wx w d.r2 (invertP z.v).new
  c3 : b3 = true → d.u45 = aggP z.v d.r3 d.r4 ∧ Own 9 wx w d.r3 z.v.old ∧ Own 9 wx w d.r4 z.v.new
  a4 : b4 = true → d.u4 = .pointer (some ⟨d.g4, 0, none⟩) ∧ wx.heap.size ≤ d.g4 ∧ ∃ x0 x1 x2 x3 x4 x5, BoxAt w d.g4 #[x0, x1, x2, x3, x4, x5] 29 ∧ (b6 = true → x4 = d.r1 ∧ x5 = d.r2)
  a5 : b5 = true → d.u5 = .pointer (some ⟨d.g5, 0, none⟩) ∧ wx.heap.size ≤ d.g5 ∧ ∃ x0 x1 x2 x3 x4 x5, BoxAt w d.g5 #[x0, x1, x2, x3, x4, x5] 29 ∧ (b7 = true → x4 = d.r3 ∧ x5 = d.r4)
  n14 : b1 = true → b4 = true → d.r1.ownBlock ≠ some d.g4 ∧ d.r2.ownBlock ≠ some d.g4
  n15 : b1 = true → b5 = true → d.r1.ownBlock ≠ some d.g5 ∧ d.r2.ownBlock ≠ some d.g5
  n34 : b3 = true → b4 = true → d.r3.ownBlock ≠ some d.g4 ∧ d.r4.ownBlock ≠ some d.g4
  n35 : b3 = true → b5 = true → d.r3.ownBlock ≠ some d.g5 ∧ d.r4.ownBlock ≠ some d.g5
  n45 : b4 = true → b5 = true → d.g4 ≠ d.g5
  s6 : b6 = true → b1 = true ∧ b3 = true ∧ b4 = true ∧ b5 = true
  s7 : b7 = true → b6 = true

section
variable {a1 : Act} {wx : World} {z : PrC} {b0 b1 b2 b3 b4 b5 b6 b7 : Bool} {d : Two} {a : Act} {w w' : World}

theorem TwoAt.on (h : TwoAt a1 wx z b0 b1 b2 b3 b4 b5 b6 b7 d a w) (hl : Later w w') : TwoAt a1 wx z b0 b1 b2 b3 b4 b5 b6 b7 d a w' :=
  { h with
    later := h.later.trans hl
    c1 := fun e => ⟨(h.c1 e).1, (h.c1 e).2.1.on hl, (h.c1 e).2.2.on hl⟩
    c3 := fun e => ⟨(h.c3 e).1, (h.c3 e).2.1.on hl, (h.c3 e).2.2.on hl⟩
    a4 := fun e => by
      obtain ⟨e1, e2, x0, x1, x2, x3, x4, x5, e3, e4⟩ := h.a4 e
      exact ⟨e1, e2, x0, x1, x2, x3, x4, x5, e3.later hl, e4⟩
    a5 := fun e => by
      obtain ⟨e1, e2, x0, x1, x2, x3, x4, x5, e3, e4⟩ := h.a5 e
      exact ⟨e1, e2, x0, x1, x2, x3, x4, x5, e3.later hl, e4⟩ }
theorem TwoAt.lt4 (h : TwoAt a1 wx z b0 b1 b2 b3 b4 b5 b6 b7 d a w) (e : b4 = true) : d.g4 < w.heap.size := by
  obtain ⟨_, _, _, _, _, _, _, _, e3, _⟩ := h.a4 e
  exact e3.lt
theorem TwoAt.lt5 (h : TwoAt a1 wx z b0 b1 b2 b3 b4 b5 b6 b7 d a w) (e : b5 = true) : d.g5 < w.heap.size := by
  obtain ⟨_, _, _, _, _, _, _, _, e3, _⟩ := h.a5 e
  exact e3.lt

theorem TwoAt.s0 (h : TwoAt a1 wx z b0 b1 b2 b3 b4 b5 b6 b7 d a w) : TwoAt a1 wx z true b1 b2 b3 b4 b5 b6 b7 { d with u42 := prV z } (a.put (some 42) (prV z)) w :=
  { act := by rw [h.act, twoF42], later := h.later, l0 := fun _ => rfl, l2 := h.l2, c1 := h.c1, c3 := h.c3, a4 := h.a4, a5 := h.a5, n14 := h.n14, n15 := h.n15, n34 := h.n34, n35 := h.n35, n45 := h.n45, s6 := h.s6, s7 := h.s7 }
theorem TwoAt.s2 (h : TwoAt a1 wx z b0 b1 b2 b3 b4 b5 b6 b7 d a w) : TwoAt a1 wx z b0 b1 true b3 b4 b5 b6 b7 { d with u44 := prV z } (a.put (some 44) (prV z)) w :=
  { act := by rw [h.act, twoF44], later := h.later, l0 := h.l0, l2 := fun _ => rfl, c1 := h.c1, c3 := h.c3, a4 := h.a4, a5 := h.a5, n14 := h.n14, n15 := h.n15, n34 := h.n34, n35 := h.n35, n45 := h.n45, s6 := h.s6, s7 := h.s7 }
theorem TwoAt.s1 (h : TwoAt a1 wx z b0 b1 b2 b3 b4 b5 b6 b7 d a w) (e1 : b1 = false) {u v : Value} (hp : IsPr (invertP z.v) w w' u v) : ∃ d', TwoAt a1 wx z b0 true b2 b3 b4 b5 b6 b7 d' (a.put (some 43) (aggP (invertP z.v) u v)) w' := by
  obtain ⟨A1, c1, rfl, _, _⟩ := hp.old.row
  obtain ⟨A2, c2, rfl, _, _⟩ := hp.new.row
  have k := h.on hp.later
  have no6 : b6 = true → False := fun e => by have := (h.s6 e).1; rw [e1] at this; cases this
  refine ⟨{ d with u43 := aggP (invertP z.v) (.slice A1 (invertP z.v).old.length c1) (.slice A2 (invertP z.v).new.length c2), A1 := A1, n1 := (invertP z.v).old.length, c1 := c1, A2 := A2, n2 := (invertP z.v).new.length, c2 := c2 }, ?_⟩
  exact { act := by rw [h.act, twoF43]; rfl, later := k.later, l0 := k.l0, l2 := k.l2, c1 := fun _ => ⟨rfl, hp.old.base h.later, hp.new.base h.later⟩, c3 := k.c3,
          a4 := fun e => by
            obtain ⟨q1, q2, x0, x1, x2, x3, x4, x5, q3, _⟩ := k.a4 e
            exact ⟨q1, q2, x0, x1, x2, x3, x4, x5, q3, fun e6 => (no6 e6).elim⟩
          a5 := k.a5
          n14 := fun _ e => ⟨fun q => by have := hp.old.block _ q; have := h.lt4 e; dsimp only at *; omega, fun q => by have := hp.new.block _ q; have := h.lt4 e; dsimp only at *; omega⟩
          n15 := fun _ e => ⟨fun q => by have := hp.old.block _ q; have := h.lt5 e; dsimp only at *; omega, fun q => by have := hp.new.block _ q; have := h.lt5 e; dsimp only at *; omega⟩
          n34 := k.n34, n35 := k.n35, n45 := k.n45, s6 := fun e => (no6 e).elim, s7 := k.s7 }
theorem TwoAt.s3 (h : TwoAt a1 wx z b0 b1 b2 b3 b4 b5 b6 b7 d a w) (e3 : b3 = false) {u v : Value} (hp : IsPr z.v w w' u v) : ∃ d', TwoAt a1 wx z b0 b1 b2 true b4 b5 b6 b7 d' (a.put (some 45) (aggP z.v u v)) w' := by
  obtain ⟨A1, c1, rfl, _, _⟩ := hp.old.row
  obtain ⟨A2, c2, rfl, _, _⟩ := hp.new.row
  have k := h.on hp.later
  have no6 : b6 = true → False := fun e => by have := (h.s6 e).2.1; rw [e3] at this; cases this
  refine ⟨{ d with u45 := aggP z.v (.slice A1 z.v.old.length c1) (.slice A2 z.v.new.length c2), A3 := A1, n3 := z.v.old.length, c3 := c1, A4 := A2, n4 := z.v.new.length, c4 := c2 }, ?_⟩
  exact { act := by rw [h.act, twoF45]; rfl, later := k.later, l0 := k.l0, l2 := k.l2, c1 := k.c1, c3 := fun _ => ⟨rfl, hp.old.base h.later, hp.new.base h.later⟩,
          a4 := k.a4
          a5 := fun e => by
            obtain ⟨q1, q2, x0, x1, x2, x3, x4, x5, q3, _⟩ := k.a5 e
            exact ⟨q1, q2, x0, x1, x2, x3, x4, x5, q3, fun e7 => (no6 (h.s7 e7)).elim⟩
          n14 := k.n14, n15 := k.n15
          n34 := fun _ e => ⟨fun q => by have := hp.old.block _ q; have := h.lt4 e; dsimp only at *; omega, fun q => by have := hp.new.block _ q; have := h.lt4 e; dsimp only at *; omega⟩
          n35 := fun _ e => ⟨fun q => by have := hp.old.block _ q; have := h.lt5 e; dsimp only at *; omega, fun q => by have := hp.new.block _ q; have := h.lt5 e; dsimp only at *; omega⟩
          n45 := k.n45, s6 := fun e => (no6 e).elim, s7 := k.s7 }
theorem TwoAt.s4 (h : TwoAt a1 wx z b0 b1 b2 b3 b4 b5 b6 b7 d a w) (e4 : b4 = false) : ∃ d', TwoAt a1 wx z b0 b1 b2 b3 true b5 b6 b7 d' (a.put (some 4) (.pointer (some ⟨w.heap.size, 0, none⟩))) (w.alloc (.cells zeroC 29)) := by
  have k := h.on ((Later.refl w).alloc (.cells zeroC 29))
  have no6 : b6 = true → False := fun e => by have := (h.s6 e).2.2.1; rw [e4] at this; cases this
  refine ⟨{ d with u4 := .pointer (some ⟨w.heap.size, 0, none⟩), g4 := w.heap.size }, ?_⟩
  exact { act := by rw [h.act, twoF4]; rfl, later := k.later, l0 := k.l0, l2 := k.l2, c1 := k.c1, c3 := k.c3,
          a4 := fun _ => ⟨rfl, h.later.le, _, _, _, _, _, _, BoxAt.made w zeroC 29, fun e => (no6 e).elim⟩
          a5 := k.a5
          n14 := fun e _ => ⟨fun q => by have := (h.c1 e).2.1.lt q; dsimp only at *; omega, fun q => by have := (h.c1 e).2.2.lt q; dsimp only at *; omega⟩
          n15 := k.n15
          n34 := fun e _ => ⟨fun q => by have := (h.c3 e).2.1.lt q; dsimp only at *; omega, fun q => by have := (h.c3 e).2.2.lt q; dsimp only at *; omega⟩
          n35 := k.n35, n45 := fun _ e => by have := h.lt5 e; dsimp only; omega
          s6 := fun e => (no6 e).elim, s7 := k.s7 }
theorem TwoAt.s5 (h : TwoAt a1 wx z b0 b1 b2 b3 b4 b5 b6 b7 d a w) (e5 : b5 = false) : ∃ d', TwoAt a1 wx z b0 b1 b2 b3 b4 true b6 b7 d' (a.put (some 5) (.pointer (some ⟨w.heap.size, 0, none⟩))) (w.alloc (.cells zeroC 29)) := by
  have k := h.on ((Later.refl w).alloc (.cells zeroC 29))
  have no6 : b6 = true → False := fun e => by have := (h.s6 e).2.2.2; rw [e5] at this; cases this
  refine ⟨{ d with u5 := .pointer (some ⟨w.heap.size, 0, none⟩), g5 := w.heap.size }, ?_⟩
  exact { act := by rw [h.act, twoF5]; rfl, later := k.later, l0 := k.l0, l2 := k.l2, c1 := k.c1, c3 := k.c3,
          a4 := k.a4
          a5 := fun _ => ⟨rfl, h.later.le, _, _, _, _, _, _, BoxAt.made w zeroC 29, fun e => (no6 (h.s7 e)).elim⟩
          n14 := k.n14
          n15 := fun e _ => ⟨fun q => by have := (h.c1 e).2.1.lt q; dsimp only at *; omega, fun q => by have := (h.c1 e).2.2.lt q; dsimp only at *; omega⟩
          n34 := k.n34
          n35 := fun e _ => ⟨fun q => by have := (h.c3 e).2.1.lt q; dsimp only at *; omega, fun q => by have := (h.c3 e).2.2.lt q; dsimp only at *; omega⟩
          n45 := fun e _ => by have := h.lt4 e; dsimp only; omega
          s6 := fun e => (no6 e).elim, s7 := k.s7 }
/-- Block g has turned: what stands beside it. -/
theorem TwoAt.s6' (h : TwoAt a1 wx z b0 b1 b2 b3 b4 b5 b6 b7 d a w) (e1 : b1 = true) (e3 : b3 = true) (e4 : b4 = true) (e5 : b5 = true) (e7 : b7 = false) (v0 v1 v2 v3 : Value)
    (hw : w' = ((((((w.setCell ⟨d.g4, 0, none⟩ v0).setCell ⟨d.g4, 1, none⟩ v1).setCell ⟨d.g4, 2, none⟩ v2).setCell ⟨d.g4, 3, none⟩ v3).setCell ⟨d.g4, 4, none⟩ d.r1).setCell ⟨d.g4, 5, none⟩ d.r2)) : TwoAt a1 wx z b0 b1 b2 b3 b4 b5 true b7 d a w' := by
  obtain ⟨p1, p2, x0, x1, x2, x3, x4, x5, p3, _⟩ := h.a4 e4
  obtain ⟨q1, q2, y0, y1, y2, y3, y4, y5, q3, q4⟩ := h.a5 e5
  have hset : Turned d.g4 w w' := by rw [hw]; exact turned_set6 w d.g4 v0 v1 v2 v3 d.r1 d.r2
  have hl : Later wx w' := h.later.turn hset p2
  have hb : BoxAt w' d.g4 #[v0, v1, v2, v3, d.r1, d.r2] 29 := by rw [hw]; exact p3.set6 v0 v1 v2 v3 d.r1 d.r2
  exact { h with
    later := hl
    c1 := fun e => ⟨(h.c1 e).1, (h.c1 e).2.1.other hset (h.n14 e e4).1 hl, (h.c1 e).2.2.other hset (h.n14 e e4).2 hl⟩
    c3 := fun e => ⟨(h.c3 e).1, (h.c3 e).2.1.other hset (h.n34 e e4).1 hl, (h.c3 e).2.2.other hset (h.n34 e e4).2 hl⟩
    a4 := fun _ => ⟨p1, p2, _, _, _, _, _, _, hb, fun _ => ⟨rfl, rfl⟩⟩
    a5 := fun _ => ⟨q1, q2, _, _, _, _, _, _, q3.other hset (fun e => h.n45 e4 e5 e.symm), fun e => by rw [e7] at e; cases e⟩
    s6 := fun _ => ⟨e1, e3, e4, e5⟩
    s7 := fun _ => rfl }
theorem TwoAt.s7' (h : TwoAt a1 wx z b0 b1 b2 b3 b4 b5 b6 b7 d a w) (e3 : b3 = true) (e4 : b4 = true) (e5 : b5 = true) (e6 : b6 = true) (v0 v1 v2 v3 : Value)
    (hw : w' = ((((((w.setCell ⟨d.g5, 0, none⟩ v0).setCell ⟨d.g5, 1, none⟩ v1).setCell ⟨d.g5, 2, none⟩ v2).setCell ⟨d.g5, 3, none⟩ v3).setCell ⟨d.g5, 4, none⟩ d.r3).setCell ⟨d.g5, 5, none⟩ d.r4)) : TwoAt a1 wx z b0 b1 b2 b3 b4 b5 b6 true d a w' := by
  obtain ⟨p1, p2, x0, x1, x2, x3, x4, x5, p3, p4⟩ := h.a4 e4
  obtain ⟨q1, q2, y0, y1, y2, y3, y4, y5, q3, _⟩ := h.a5 e5
  have hset : Turned d.g5 w w' := by rw [hw]; exact turned_set6 w d.g5 v0 v1 v2 v3 d.r3 d.r4
  have hl : Later wx w' := h.later.turn hset q2
  have hb : BoxAt w' d.g5 #[v0, v1, v2, v3, d.r3, d.r4] 29 := by rw [hw]; exact q3.set6 v0 v1 v2 v3 d.r3 d.r4
  exact { h with
    later := hl
    c1 := fun e => ⟨(h.c1 e).1, (h.c1 e).2.1.other hset (h.n15 e e5).1 hl, (h.c1 e).2.2.other hset (h.n15 e e5).2 hl⟩
    c3 := fun e => ⟨(h.c3 e).1, (h.c3 e).2.1.other hset (h.n35 e3 e5).1 hl, (h.c3 e).2.2.other hset (h.n35 e3 e5).2 hl⟩
    a4 := fun _ => ⟨p1, p2, _, _, _, _, _, _, p3.other hset (fun e => h.n45 e4 e5 e), p4⟩
    a5 := fun _ => ⟨q1, q2, _, _, _, _, _, _, hb, fun _ => ⟨rfl, rfl⟩⟩
    s7 := fun _ => e6 }
end

end Go.Proofs.YtnhhdjcbifmfgaaDoor

/-
  Two structures out of two calls, assigned by one statement: the region, in whatever order.
-/
namespace Go.Proofs.YtnhhdjcbifmfgaaDoor
open Go.RowKit

def left8 (b0 b1 b2 b3 b4 b5 b6 b7 : Bool) : Nat := (if b0 then 0 else 1) + (if b1 then 0 else 1) + (if b2 then 0 else 1) + (if b3 then 0 else 1) + (if b4 then 0 else 1) + (if b5 then 0 else 1) + (if b6 then 0 else 1) + (if b7 then 0 else 1)

/-- Which may come up. -/
def mayCome (b0 b1 b2 b3 b4 b5 b6 b7 : Bool) (i : Nat) : Prop := (i = 0 ∧ b0 = false) ∨ (i = 1 ∧ b0 = true ∧ b1 = false) ∨ (i = 2 ∧ b2 = false) ∨ (i = 3 ∧ b2 = true ∧ b3 = false) ∨ (i = 4 ∧ b4 = false) ∨ (i = 5 ∧ b5 = false) ∨ (i = 6 ∧ b1 = true ∧ b3 = true ∧ b4 = true ∧ b5 = true ∧ b6 = false) ∨ (i = 7 ∧ b3 = true ∧ b4 = true ∧ b5 = true ∧ b6 = true ∧ b7 = false)
def bothB (p : Bool → Bool) : Bool := p true && p false
theorem both_of {p : Bool → Bool} (h : bothB p = true) (b : Bool) : p b = true := by
  simp only [bothB, Bool.and_eq_true] at h
  cases b
  · exact h.2
  · exact h.1
/-- In every state: what may come up, and that something may till all have come. -/
def twoChk (ops : Array Oper) : Bool := bothB fun b0 => bothB fun b1 => bothB fun b2 => bothB fun b3 => bothB fun b4 => bothB fun b5 => bothB fun b6 => bothB fun b7 => (Region.ready .any ops #[b0, b1, b2, b3, b4, b5, b6, b7]).all (fun i => decide ((i = 0 ∧ b0 = false) ∨ (i = 1 ∧ b0 = true ∧ b1 = false) ∨ (i = 2 ∧ b2 = false) ∨ (i = 3 ∧ b2 = true ∧ b3 = false) ∨ (i = 4 ∧ b4 = false) ∨ (i = 5 ∧ b5 = false) ∨ (i = 6 ∧ b1 = true ∧ b3 = true ∧ b4 = true ∧ b5 = true ∧ b6 = false) ∨ (i = 7 ∧ b3 = true ∧ b4 = true ∧ b5 = true ∧ b6 = true ∧ b7 = false))) && (decide (Region.ready .any ops #[b0, b1, b2, b3, b4, b5, b6, b7] = []) == decide (left8 b0 b1 b2 b3 b4 b5 b6 b7 = 0))

/-- The statement's eight operations. -/
structure TwoOps (ops : Array Oper) : Prop where
  size : ops.size = 8
  o0 : ∃ o, ops[0]? = some o ∧ o.op = .load 29 (.tmp 3) ∧ o.dst = some 42 ∧ o.guard = none
  o1 : ∃ o, ops[1]? = some o ∧ o.op = .call { callee := .value (.func 8), args := #[.tmp 42], argTypes := #[29] } ∧ o.dst = some 43 ∧ o.guard = none
  o2 : ∃ o, ops[2]? = some o ∧ o.op = .load 29 (.tmp 3) ∧ o.dst = some 44 ∧ o.guard = none
  o3 : ∃ o, ops[3]? = some o ∧ o.op = .call { callee := .value (.func 7), args := #[.tmp 44], argTypes := #[29] } ∧ o.dst = some 45 ∧ o.guard = none
  o4 : ∃ o, ops[4]? = some o ∧ o.op = .alloc 29 ∧ o.dst = some 4 ∧ o.guard = none
  o5 : ∃ o, ops[5]? = some o ∧ o.op = .alloc 29 ∧ o.dst = some 5 ∧ o.guard = none
  o6 : ∃ o, ops[6]? = some o ∧ o.op = .store 29 (.tmp 4) (.tmp 43) ∧ o.dst = none ∧ o.guard = none
  o7 : ∃ o, ops[7]? = some o ∧ o.op = .store 29 (.tmp 5) (.tmp 45) ∧ o.dst = none ∧ o.guard = none
  chk : twoChk ops = true
theorem TwoOps.at {ops : Array Oper} (h : TwoOps ops) (b0 b1 b2 b3 b4 b5 b6 b7 : Bool) : (∀ i ∈ Region.ready .any ops #[b0, b1, b2, b3, b4, b5, b6, b7], mayCome b0 b1 b2 b3 b4 b5 b6 b7 i) ∧ (Region.ready .any ops #[b0, b1, b2, b3, b4, b5, b6, b7] = [] ↔ left8 b0 b1 b2 b3 b4 b5 b6 b7 = 0) := by
  have h1 := both_of (both_of (both_of (both_of (both_of (both_of (both_of (both_of h.chk b0) b1) b2) b3) b4) b5) b6) b7
  simp only [Bool.and_eq_true, List.all_eq_true, decide_eq_true_eq, beq_iff_eq, decide_eq_decide] at h1
  exact h1

theorem ite_zero {b : Bool} (h : (if b = true then 0 else 1) = 0) : b = true := by
  cases b
  · simp at h
  · rfl
theorem left8_zero (b0 b1 b2 b3 b4 b5 b6 b7 : Bool) (h : left8 b0 b1 b2 b3 b4 b5 b6 b7 = 0) : b0 = true ∧ b1 = true ∧ b2 = true ∧ b3 = true ∧ b4 = true ∧ b5 = true ∧ b6 = true ∧ b7 = true := by
  unfold left8 at h
  simp only [Nat.add_eq_zero_iff] at h
  obtain ⟨⟨⟨⟨⟨⟨⟨h0, h1⟩, h2⟩, h3⟩, h4⟩, h5⟩, h6⟩, h7⟩ := h
  exact ⟨ite_zero h0, ite_zero h1, ite_zero h2, ite_zero h3, ite_zero h4, ite_zero h5, ite_zero h6, ite_zero h7⟩

theorem wanted_of {o : Oper} {ys : _} (h : o.guard = none) : Region.wanted o ys = true := by simp [Region.wanted, h]

theorem two_any {ops : Array Oper} (H : TwoOps ops) {a1 : Act} (ha : 46 ≤ a1.tmps.size) {wx : World} {z : PrC} {gz : Nat} (h3 : a1.eval (.tmp 3) = .pointer (some ⟨gz, 0, none⟩)) (hbz : BoxAt wx gz (prL z).toArray 29) (hzo : PrOk wx z)
  {Q : Exit → Act → World → Prop} (hQ : ∀ d a w, TwoAt a1 wx z true true true true true true true true d a w → Q .normal a w) : ∀ (fuel : Nat) (b0 b1 b2 b3 b4 b5 b6 b7 : Bool) (d : Two) (a : Act) (w : World), left8 b0 b1 b2 b3 b4 b5 b6 b7 ≤ fuel → TwoAt a1 wx z b0 b1 b2 b3 b4 b5 b6 b7 d a w → wpAnyH Tryd.prog .any ops Q (fun _ => True) fuel #[b0, b1, b2, b3, b4, b5, b6, b7] a w
  | 0, b0, b1, b2, b3, b4, b5, b6, b7, d, a, w, hf, h => by
    have h0 : left8 b0 b1 b2 b3 b4 b5 b6 b7 = 0 := Nat.le_zero.1 hf
    refine ⟨(H.at b0 b1 b2 b3 b4 b5 b6 b7).2.2 h0, ?_⟩
    obtain ⟨rfl, rfl, rfl, rfl, rfl, rfl, rfl, rfl⟩ := left8_zero _ _ _ _ _ _ _ _ h0
    exact hQ d a w h
  | fuel + 1, b0, b1, b2, b3, b4, b5, b6, b7, d, a, w, hf, h => by
    refine ⟨fun hr => ?_, fun i hi => ?_⟩
    · have h0 := (H.at b0 b1 b2 b3 b4 b5 b6 b7).2.1 hr
      obtain ⟨rfl, rfl, rfl, rfl, rfl, rfl, rfl, rfl⟩ := left8_zero _ _ _ _ _ _ _ _ h0
      exact hQ d a w h
    rcases (H.at b0 b1 b2 b3 b4 b5 b6 b7).1 i hi with ⟨rfl, e0⟩ | ⟨rfl, e0, e1⟩ | ⟨rfl, e2⟩ | ⟨rfl, e2, e3⟩ | ⟨rfl, e4⟩ | ⟨rfl, e5⟩ | ⟨rfl, e1, e3, e4, e5, e6⟩ | ⟨rfl, e3, e4, e5, e6, e7⟩
    · obtain ⟨o, ho, hop, hd, hg⟩ := H.o0
      unfold wpOp
      rw [ho]
      dsimp only
      rw [if_pos (wanted_of hg)]
      left
      refine wp_load_row 29 (.tmp 3) hop gz (by rw [h.act, twoE3]; exact h3) 29 (prL z).toArray (0, 0) _ (hbz.later h.later) Tryd.underlying29 rfl Tryd.primSize ?_
      rw [hd]
      refine ⟨trivial, two_any H ha h3 hbz hzo hQ fuel true b1 b2 b3 b4 b5 b6 b7 _ _ w ?_ h.s0⟩
      subst e0
      simp only [left8] at hf ⊢
      simp at hf ⊢
      omega
    · obtain ⟨o, ho, hop, hd, hg⟩ := H.o1
      unfold wpOp
      rw [ho]
      dsimp only
      rw [if_pos (wanted_of hg)]
      left
      unfold Oper.wp
      rw [op_call hop (enters_of Tryd.func8 (by kernel_rfl) rfl) a w, h.act, twoE42 ha d, h.l0 e0]
      show Calls _ _ _ _ _
      refine (primInvert_any z w (hzo.later h.later)).mono ?_
      rintro e w' ⟨u, v, rfl, hp⟩
      dsimp only
      rw [hd, ← h.act]
      obtain ⟨d', h'⟩ := h.s1 e1 hp
      refine ⟨trivial, two_any H ha h3 hbz hzo hQ fuel b0 true b2 b3 b4 b5 b6 b7 d' _ w' ?_ h'⟩
      subst e1
      simp only [left8] at hf ⊢
      simp at hf ⊢
      omega
    · obtain ⟨o, ho, hop, hd, hg⟩ := H.o2
      unfold wpOp
      rw [ho]
      dsimp only
      rw [if_pos (wanted_of hg)]
      left
      refine wp_load_row 29 (.tmp 3) hop gz (by rw [h.act, twoE3]; exact h3) 29 (prL z).toArray (0, 0) _ (hbz.later h.later) Tryd.underlying29 rfl Tryd.primSize ?_
      rw [hd]
      refine ⟨trivial, two_any H ha h3 hbz hzo hQ fuel b0 b1 true b3 b4 b5 b6 b7 _ _ w ?_ h.s2⟩
      subst e2
      simp only [left8] at hf ⊢
      simp at hf ⊢
      omega
    · obtain ⟨o, ho, hop, hd, hg⟩ := H.o3
      unfold wpOp
      rw [ho]
      dsimp only
      rw [if_pos (wanted_of hg)]
      left
      unfold Oper.wp
      rw [op_call hop (enters_of Tryd.func7 (by kernel_rfl) rfl) a w, h.act, twoE44 ha d, h.l2 e2]
      show Calls _ _ _ _ _
      refine (primClone_any z w (hzo.later h.later)).mono ?_
      rintro e w' ⟨u, v, rfl, hp⟩
      dsimp only
      rw [hd, ← h.act]
      obtain ⟨d', h'⟩ := h.s3 e3 hp
      refine ⟨trivial, two_any H ha h3 hbz hzo hQ fuel b0 b1 b2 true b4 b5 b6 b7 d' _ w' ?_ h'⟩
      subst e3
      simp only [left8] at hf ⊢
      simp at hf ⊢
      omega
    · obtain ⟨o, ho, hop, hd, hg⟩ := H.o4
      unfold wpOp
      rw [ho]
      dsimp only
      rw [if_pos (wanted_of hg)]
      left
      unfold Oper.wp
      rw [op_alloc hop a w]
      show _ ∧ _
      rw [hd]
      obtain ⟨d', h'⟩ := h.s4 e4
      refine ⟨trivial, two_any H ha h3 hbz hzo hQ fuel b0 b1 b2 b3 true b5 b6 b7 d' _ _ ?_ h'⟩
      subst e4
      simp only [left8] at hf ⊢
      simp at hf ⊢
      omega
    · obtain ⟨o, ho, hop, hd, hg⟩ := H.o5
      unfold wpOp
      rw [ho]
      dsimp only
      rw [if_pos (wanted_of hg)]
      left
      unfold Oper.wp
      rw [op_alloc hop a w]
      show _ ∧ _
      rw [hd]
      obtain ⟨d', h'⟩ := h.s5 e5
      refine ⟨trivial, two_any H ha h3 hbz hzo hQ fuel b0 b1 b2 b3 b4 true b6 b7 d' _ _ ?_ h'⟩
      subst e5
      simp only [left8] at hf ⊢
      simp at hf ⊢
      omega
    · obtain ⟨o, ho, hop, hd, hg⟩ := H.o6
      unfold wpOp
      rw [ho]
      dsimp only
      rw [if_pos (wanted_of hg)]
      left
      unfold Oper.wp
      have e7 : b7 = false := by
        cases h7 : b7
        · rfl
        · have := h.s7 h7; rw [e6] at this; cases this
      obtain ⟨p1, _, x0, x1, x2, x3, x4, x5, p3, _⟩ := h.a4 e4
      rw [op_store hop a w d.g4 (invertP z.v).kind (invertP z.v).name (invertP z.v).to (invertP z.v).place d.A1 d.n1 d.c1 d.A2 d.n2 d.c2 x0 x1 x2 x3 x4 x5 (by rw [h.act, twoE4 ha d]; exact p1) (by rw [h.act, twoE43 ha d]; exact (h.c1 e1).1) p3]
      show _ ∧ _
      rw [hd]
      refine ⟨trivial, two_any H ha h3 hbz hzo hQ fuel b0 b1 b2 b3 b4 b5 true b7 d _ _ ?_ (h.s6' e1 e3 e4 e5 e7 _ _ _ _ rfl)⟩
      subst e6
      simp only [left8] at hf ⊢
      simp at hf ⊢
      omega
    · obtain ⟨o, ho, hop, hd, hg⟩ := H.o7
      unfold wpOp
      rw [ho]
      dsimp only
      rw [if_pos (wanted_of hg)]
      left
      unfold Oper.wp
      obtain ⟨p1, _, x0, x1, x2, x3, x4, x5, p3, _⟩ := h.a5 e5
      rw [op_store hop a w d.g5 z.v.kind z.v.name z.v.to z.v.place d.A3 d.n3 d.c3 d.A4 d.n4 d.c4 x0 x1 x2 x3 x4 x5 (by rw [h.act, twoE5 ha d]; exact p1) (by rw [h.act, twoE45 ha d]; exact (h.c3 e3).1) p3]
      show _ ∧ _
      rw [hd]
      refine ⟨trivial, two_any H ha h3 hbz hzo hQ fuel b0 b1 b2 b3 b4 b5 b6 true d _ _ ?_ (h.s7' e3 e4 e5 e6 _ _ _ _ rfl)⟩
      subst e7
      simp only [left8] at hf ⊢
      simp at hf ⊢
      omega

/-- Nothing has come yet. -/
def two0 : Two := ⟨undef, undef, undef, undef, undef, undef, none, 0, 0, none, 0, 0, none, 0, 0, none, 0, 0, 0, 0⟩
theorem two_start {ops : Array Oper} (H : TwoOps ops) {id : Nat} {a : Act} {wx : World} {z : PrC} {gz : Nat} {Q : Exit → Act → World → Prop} (ha : 46 ≤ a.tmps.size) (h3 : a.eval (.tmp 3) = .pointer (some ⟨gz, 0, none⟩)) (hu : twoF a two0 = a) (hbz : BoxAt wx gz (prL z).toArray 29) (hzo : PrOk wx z)
    (hQ : ∀ d a' w', TwoAt a wx z true true true true true true true true d a' w' → Q .normal a' w') : (Code.region id ops true).wp Tryd.prog Q a wx := by
  refine wp_region_held (S := fun _ => True) (by kernel_rfl) ?_
  rw [H.size]
  exact two_any H ha h3 hbz hzo hQ 8 false false false false false false false false two0 a _ (by decide)
    { act := hu.symm, later := (Later.refl wx).drew, l0 := fun e => (by cases e), l2 := fun e => (by cases e), c1 := fun e => (by cases e), c3 := fun e => (by cases e), a4 := fun e => (by cases e), a5 := fun e => (by cases e), n14 := fun e => (by cases e), n15 := fun e => (by cases e), n34 := fun e => (by cases e), n35 := fun e => (by cases e), n45 := fun e => (by cases e), s6 := fun e => (by cases e), s7 := fun e => (by cases e) }

end Go.Proofs.YtnhhdjcbifmfgaaDoor
