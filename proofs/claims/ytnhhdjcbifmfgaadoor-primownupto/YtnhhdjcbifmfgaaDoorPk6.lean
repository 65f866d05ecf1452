import Derived.Test.YtnhhdjcbifmfgaaDoorPk5
import Derived.Deep.LoopGhost
import Derived.Deep.QuietTactic
import Derived.BigQuiet
import Derived.Lib.Hide
import Derived.Test.YtnhhdjcbifmfgaaDoorChecked
import Derived.Test.YtnhhdjcbifmfgaaDoorPk1
import Derived.Test.YtnhhdjcbifmfgaaDoorPk3
import Derived.Shelf.Strings.Search3
import Derived.Test.YtnhhdjcbifmfgaaDoorPk2

/-
  What prim's Clone comes to, as a call.
-/
namespace Go.Proofs.YtnhhdjcbifmfgaaDoor
open Go.RowKit

/-- Block g is made of these cells. -/
def BoxAt (w : World) (g : Nat) (cs : Array Value) (t : TypeId) : Prop := w.heap[g]? = some (.cells cs t (0, 0))
section
variable {w w' : World} {g : Nat} {cs : Array Value} {t : TypeId}
theorem BoxAt.lt (h : BoxAt w g cs t) : g < w.heap.size := (Array.getElem?_eq_some_iff.1 h).1
theorem BoxAt.later (h : BoxAt w g cs t) (hl : Later w w') : BoxAt w' g cs t := (hl.block g h.lt).trans h
theorem BoxAt.other {b : Nat} (h : BoxAt w g cs t) (hg : Turned b w w') (hne : g ≠ b) : BoxAt w' g cs t := (hg.block g h.lt (by simpa using hne)).trans h
theorem BoxAt.cell (h : BoxAt w g cs t) {i : Nat} {v : Value} (hv : cs[i]? = some v) : w.cell? ⟨g, i, none⟩ = some v := by
  unfold BoxAt at h
  simp only [World.cell?, h]
  exact hv
theorem BoxAt.frozen (h : BoxAt w g cs t) (i : Nat) : w.frozen? ⟨g, i, none⟩ = false := frozen_no h i
theorem BoxAt.made (w : World) (cs : Array Value) (t : TypeId) : BoxAt (w.alloc (.cells cs t)) w.heap.size cs t := heap_alloc_new w _
theorem BoxAt.set (h : BoxAt w g cs t) (i : Nat) (v : Value) : BoxAt (w.setCell ⟨g, i, none⟩ v) g (cs.setIfInBounds i v) t := heap_setCell_same w g i cs t v h
theorem BoxAt.alloc (h : BoxAt w g cs t) (o : Obj) : BoxAt (w.alloc o) g cs t := h.later ((Later.refl w).alloc o)
/-- Six cells, written one behind the other. -/
theorem BoxAt.set6 {x0 x1 x2 x3 x4 x5 : Value} (h : BoxAt w g #[x0, x1, x2, x3, x4, x5] t) (v0 v1 v2 v3 v4 v5 : Value) : BoxAt ((((((w.setCell ⟨g, 0, none⟩ v0).setCell ⟨g, 1, none⟩ v1).setCell ⟨g, 2, none⟩ v2).setCell ⟨g, 3, none⟩ v3).setCell ⟨g, 4, none⟩ v4).setCell ⟨g, 5, none⟩ v5) g #[v0, v1, v2, v3, v4, v5] t :=
  (((((h.set 0 v0).set 1 v1).set 2 v2).set 3 v3).set 4 v4).set 5 v5
theorem turned_set6 (w : World) (g : Nat) (v0 v1 v2 v3 v4 v5 : Value) : Turned g w ((((((w.setCell ⟨g, 0, none⟩ v0).setCell ⟨g, 1, none⟩ v1).setCell ⟨g, 2, none⟩ v2).setCell ⟨g, 3, none⟩ v3).setCell ⟨g, 4, none⟩ v4).setCell ⟨g, 5, none⟩ v5) :=
  (((((turned_set w g 0 v0).trans (turned_set _ g 1 v1)).trans (turned_set _ g 2 v2)).trans (turned_set _ g 3 v3)).trans (turned_set _ g 4 v4)).trans (turned_set _ g 5 v5)
end
theorem Tryd.primSize : (Tryd.prog.info? 29).map (·.size) = some 6 := by kernel_rfl

set_option maxRecDepth 100000 in
set_option maxHeartbeats 800000 in
theorem primClone_any (x : PrC) (w : World) (hx : PrOk w x) :
    Calls Tryd.prog 7 #[prV x] w (GivesPr x.v w) := by
  obtain ⟨⟨kd, nm, to, pl, old, new⟩, A, n, c, B, m, d⟩ := x
  unfold prV
  dsimp only
  have HX := Lib.hid hx
  clear hx
  go_enter Tryd.func7, Tryd.ntmps7
  go_wp2_with fail
  have hb0 : BoxAt ((w.alloc (.cells #[.int .i64 kd, .string nm, .string to, .int .i64 pl, .slice A n c, .slice B m d] 29)).alloc (.cells #[.int .i64 0, .string ⟨#[]⟩, .string ⟨#[]⟩, .int .i64 0, .slice none 0 0, .slice none 0 0] 29)) w.heap.size #[.int .i64 kd, .string nm, .string to, .int .i64 pl, .slice A n c, .slice B m d] 29 := (BoxAt.made w _ _).alloc _
  have hb1 : BoxAt ((w.alloc (.cells #[.int .i64 kd, .string nm, .string to, .int .i64 pl, .slice A n c, .slice B m d] 29)).alloc (.cells #[.int .i64 0, .string ⟨#[]⟩, .string ⟨#[]⟩, .int .i64 0, .slice none 0 0, .slice none 0 0] 29)) (w.heap.size + 1) #[.int .i64 0, .string ⟨#[]⟩, .string ⟨#[]⟩, .int .i64 0, .slice none 0 0, .slice none 0 0] 29 := by
    have := BoxAt.made (w.alloc (.cells #[.int .i64 kd, .string nm, .string to, .int .i64 pl, .slice A n c, .slice B m d] 29)) #[.int .i64 0, .string ⟨#[]⟩, .string ⟨#[]⟩, .int .i64 0, .slice none 0 0, .slice none 0 0] 29
    simpa using this
  have hlb : Later w ((w.alloc (.cells #[.int .i64 kd, .string nm, .string to, .int .i64 pl, .slice A n c, .slice B m d] 29)).alloc (.cells #[.int .i64 0, .string ⟨#[]⟩, .string ⟨#[]⟩, .int .i64 0, .slice none 0 0, .slice none 0 0] 29)) := ((Later.refl w).alloc _).alloc _
  generalize (w.alloc (.cells #[.int .i64 kd, .string nm, .string to, .int .i64 pl, .slice A n c, .slice B m d] 29)).alloc (.cells #[.int .i64 0, .string ⟨#[]⟩, .string ⟨#[]⟩, .int .i64 0, .slice none 0 0, .slice none 0 0] 29) = wb at hb0 hb1 hlb ⊢
  have hlt := hb1.lt
  refine (clone_any A n c old wb (HX.out.old.later hlb) HX.out.omost).mono ?_
  rintro e w1 ⟨u, rfl, hu⟩
  obtain ⟨A1, c1, hv1, hcc1, hr1⟩ := hu.row
  subst hv1
  have b0 := hb0.later hu.later
  have c4 := b0.cell (i := 4) rfl
  have f4 := b0.frozen 4
  have b0' := b0.set 4 (.slice A1 old.length c1)
  have c5 := b0'.cell (i := 5) rfl
  have f5 := b0'.frozen 5
  have HB0 := Lib.hid b0'
  have HB1 := Lib.hid ((hb1.later hu.later).other (turned_set w1 w.heap.size 4 (.slice A1 old.length c1)) (by omega))
  have hle := hu.later.le
  have HL1 := Lib.hid ((hlb.trans hu.later).turn (turned_set w1 w.heap.size 4 (.slice A1 old.length c1)) (Nat.le_refl _))
  have HU := Lib.hid (hu.base hlb)
  have HU1 : Hid (Own 9 w (w1.setCell ⟨w.heap.size, 4, none⟩ (.slice A1 old.length c1)) (.slice A1 old.length c1) old) := (HU.out).other (turned_set w1 w.heap.size 4 (.slice A1 old.length c1)) (fun e => by have := hu.block _ e; omega) HL1.out
  have HUB : Hid (∀ b, (Value.slice A1 old.length c1).ownBlock = some b → wb.heap.size ≤ b) := hu.block
  clear hb0 hb1 hu b0 b0' hr1 hcc1
  go_wp2_with fail
  generalize w1.setCell ⟨w.heap.size, 4, none⟩ (.slice A1 old.length c1) = w2 at HB0 HB1 HL1 HU1 c5 f5 ⊢
  clear c4 f4 HU
  refine (clone_any B m d new w2 (HX.out.new.later HL1.out) HX.out.nmost).mono ?_
  rintro e w3 ⟨u2, rfl, hu2⟩
  obtain ⟨A3, c3, hv3, hcc3, hr3⟩ := hu2.row
  subst hv3
  have b0 := HB0.out.later hu2.later
  have b1 := HB1.out.later hu2.later
  have e5 := b0.cell (i := 5) rfl
  have g5 := b0.frozen 5
  have hlt2 := HB1.out.lt
  have d0 := b0.set 5 (.slice A3 new.length c3)
  have d1 := b1.other (turned_set w3 w.heap.size 5 (.slice A3 new.length c3)) (by omega)
  have HL4 := Lib.hid ((HL1.out.trans hu2.later).turn (turned_set w3 w.heap.size 5 (.slice A3 new.length c3)) (Nat.le_refl _))
  have HU4 : Hid (Own 9 w (w3.setCell ⟨w.heap.size, 5, none⟩ (.slice A3 new.length c3)) (.slice A1 old.length c1) old) := (HU1.out.on hu2.later).other (turned_set w3 w.heap.size 5 (.slice A3 new.length c3)) (fun e => by have := HUB.out _ e; omega) HL4.out
  have HV4 : Hid (Own 9 w (w3.setCell ⟨w.heap.size, 5, none⟩ (.slice A3 new.length c3)) (.slice A3 new.length c3) new) := (hu2.base HL1.out).other (turned_set w3 w.heap.size 5 (.slice A3 new.length c3)) (fun e => by have := hu2.block _ e; omega) HL4.out
  have HVB : Hid (∀ b, (Value.slice A3 new.length c3).ownBlock = some b → w2.heap.size ≤ b) := hu2.block
  have HUL : Hid (∀ b, (Value.slice A1 old.length c1).ownBlock = some b → b < w2.heap.size) := fun b hb => HU1.out.lt hb
  clear hu2 b0 b1 c5 f5
  have x0 := d0.cell (i := 0) rfl; have x1 := d0.cell (i := 1) rfl; have x2 := d0.cell (i := 2) rfl; have x3 := d0.cell (i := 3) rfl; have x4 := d0.cell (i := 4) rfl; have x5 := d0.cell (i := 5) rfl
  have y0 := d1.cell (i := 0) rfl; have y1 := d1.cell (i := 1) rfl; have y2 := d1.cell (i := 2) rfl; have y3 := d1.cell (i := 3) rfl; have y4 := d1.cell (i := 4) rfl; have y5 := d1.cell (i := 5) rfl
  have z0 := d1.frozen 0; have z1 := d1.frozen 1; have z2 := d1.frozen 2; have z3 := d1.frozen 3; have z4 := d1.frozen 4; have z5 := d1.frozen 5
  have HD1 := Lib.hid d1
  clear d0 d1
  go_wp2
  have hset := turned_set6 (w3.setCell ⟨w.heap.size, 5, none⟩ (.slice A3 new.length c3)) (w.heap.size + 1) (.int .i64 kd) (.string nm) (.string to) (.int .i64 pl) (.slice A1 old.length c1) (.slice A3 new.length c3)
  have hlw := HL4.out.turn hset (by omega)
  refine bodyPost_ret (results_cell_row rfl _ _ (w.heap.size + 1) 29 _ (0, 0) _ rfl (HD1.out.set6 (.int .i64 kd) (.string nm) (.string to) (.int .i64 pl) (.slice A1 old.length c1) (.slice A3 new.length c3)) Tryd.underlying29 rfl Tryd.primSize) rfl ?_
  refine ⟨(.slice A1 old.length c1), (.slice A3 new.length c3), rfl, HU4.out.other hset (fun e => ?_) hlw, HV4.out.other hset (fun e => ?_) hlw, fun b h1 h2 => ?_⟩
  · have := HUB.out _ e; omega
  · have := HVB.out _ e; omega
  · have := HUL.out _ h1
    have := HVB.out _ h2
    omega

end Go.Proofs.YtnhhdjcbifmfgaaDoor

/-
  What prim's Invert comes to, as a call.
-/
namespace Go.Proofs.YtnhhdjcbifmfgaaDoor
open Go.RowKit

set_option maxRecDepth 100000 in
set_option maxHeartbeats 800000 in
theorem primInvert_any (x : PrC) (w : World) (hx : PrOk w x) :
    Calls Tryd.prog 8 #[prV x] w (GivesPr (invertP x.v) w) := by
  have hlb : Later w ((w.alloc (.cells #[.int .i64 x.v.kind, .string x.v.name, .string x.v.to, .int .i64 x.v.place, .slice x.A x.n x.c, .slice x.B x.m x.d] 29)).alloc (.cells #[.int .i64 0, .string ⟨#[]⟩, .string ⟨#[]⟩, .int .i64 0, .slice none 0 0, .slice none 0 0] 29)) := ((Later.refl w).alloc _).alloc _
  have HC := Lib.hid (primClone_any x _ (hx.later hlb))
  clear hx
  obtain ⟨⟨kd, nm, to, pl, old, new⟩, A, n, c, B, m, d⟩ := x
  unfold prV at HC ⊢
  dsimp only at HC hlb ⊢
  go_enter Tryd.func8, Tryd.ntmps8
  go_wp2_with fail
  have hb0 : BoxAt ((w.alloc (.cells #[.int .i64 kd, .string nm, .string to, .int .i64 pl, .slice A n c, .slice B m d] 29)).alloc (.cells #[.int .i64 0, .string ⟨#[]⟩, .string ⟨#[]⟩, .int .i64 0, .slice none 0 0, .slice none 0 0] 29)) w.heap.size #[.int .i64 kd, .string nm, .string to, .int .i64 pl, .slice A n c, .slice B m d] 29 := (BoxAt.made w _ _).alloc _
  have hb1 : BoxAt ((w.alloc (.cells #[.int .i64 kd, .string nm, .string to, .int .i64 pl, .slice A n c, .slice B m d] 29)).alloc (.cells #[.int .i64 0, .string ⟨#[]⟩, .string ⟨#[]⟩, .int .i64 0, .slice none 0 0, .slice none 0 0] 29)) (w.heap.size + 1) #[.int .i64 0, .string ⟨#[]⟩, .string ⟨#[]⟩, .int .i64 0, .slice none 0 0, .slice none 0 0] 29 := by
    have := BoxAt.made (w.alloc (.cells #[.int .i64 kd, .string nm, .string to, .int .i64 pl, .slice A n c, .slice B m d] 29)) #[.int .i64 0, .string ⟨#[]⟩, .string ⟨#[]⟩, .int .i64 0, .slice none 0 0, .slice none 0 0] 29
    simpa using this
  refine HC.out.mono ?_
  clear HC
  generalize (w.alloc (.cells #[.int .i64 kd, .string nm, .string to, .int .i64 pl, .slice A n c, .slice B m d] 29)).alloc (.cells #[.int .i64 0, .string ⟨#[]⟩, .string ⟨#[]⟩, .int .i64 0, .slice none 0 0, .slice none 0 0] 29) = wb at hb0 hb1 hlb ⊢
  rintro e w1 ⟨u, v, rfl, hpr⟩
  obtain ⟨A1, c1, hv1, hcc1, hr1⟩ := hpr.old.row
  obtain ⟨A2, c2, hv2, hcc2, hr2⟩ := hpr.new.row
  subst hv1 hv2
  dsimp only at *
  have hlt := hb1.lt
  have hle := hpr.later.le
  have hb0' := (hb0.later hpr.later).alloc (.cells #[.int .i64 kd, .string nm, .string to, .int .i64 pl, .slice A1 old.length c1, .slice A2 new.length c2] 29)
  have k0 := hb0'.cell (i := 0) rfl
  have HB1 := Lib.hid (hb1.later hpr.later)
  have HP := Lib.hid (hpr.base hlb)
  have HUB : Hid (∀ b, (Value.slice A1 old.length c1).ownBlock = some b → wb.heap.size ≤ b) := hpr.old.block
  have HVB : Hid (∀ b, (Value.slice A2 new.length c2).ownBlock = some b → wb.heap.size ≤ b) := hpr.new.block
  clear hr1 hr2 hpr hb0 hb0' hb1 hlb hcc1 hcc2
  by_cases h0 : kd = 0
  · subst h0
    have E : Hid (invertP ⟨0, nm, to, pl, old, new⟩ = ⟨0, nm, to, pl, new, old⟩) := by simp [Hid, invertP]
    have d1 := HB1.out.alloc (.cells #[.int .i64 0, .string nm, .string to, .int .i64 pl, .slice A2 new.length c2, .slice A1 old.length c1] 29)
    have y0 := d1.cell (i := 0) rfl; have y1 := d1.cell (i := 1) rfl; have y2 := d1.cell (i := 2) rfl; have y3 := d1.cell (i := 3) rfl; have y4 := d1.cell (i := 4) rfl; have y5 := d1.cell (i := 5) rfl
    have z0 := d1.frozen 0; have z1 := d1.frozen 1; have z2 := d1.frozen 2; have z3 := d1.frozen 3; have z4 := d1.frozen 4; have z5 := d1.frozen 5
    have HD1 := Lib.hid d1
    clear d1
    go_wp2
    have hset := turned_set6 (w1.alloc (.cells #[.int .i64 0, .string nm, .string to, .int .i64 pl, .slice A2 new.length c2, .slice A1 old.length c1] 29)) (w.heap.size + 1) (.int .i64 0) (.string nm) (.string to) (.int .i64 pl) (.slice A2 new.length c2) (.slice A1 old.length c1)
    have hlw := (HP.out.later.alloc (.cells #[.int .i64 0, .string nm, .string to, .int .i64 pl, .slice A2 new.length c2, .slice A1 old.length c1] 29)).turn hset (by omega)
    refine bodyPost_ret (results_cell_row rfl _ _ (w.heap.size + 1) 29 _ (0, 0) _ rfl (HD1.out.set6 (.int .i64 0) (.string nm) (.string to) (.int .i64 pl) (.slice A2 new.length c2) (.slice A1 old.length c1)) Tryd.underlying29 rfl Tryd.primSize) rfl ?_
    rw [E.out]
    exact ⟨(.slice A2 new.length c2), (.slice A1 old.length c1), rfl, ((HP.out.new.alloc _).other hset (fun e => by have := HVB.out _ e; omega) hlw), ((HP.out.old.alloc _).other hset (fun e => by have := HUB.out _ e; omega) hlw), fun b h1 h2 => HP.out.apart b h2 h1⟩
  by_cases h1 : kd = 1
  · subst h1
    have E : Hid (invertP ⟨1, nm, to, pl, old, new⟩ = ⟨2, nm, to, pl, old, new⟩) := by simp [Hid, invertP]
    have d1 := HB1.out.alloc (.cells #[.int .i64 2, .string nm, .string to, .int .i64 pl, .slice A1 old.length c1, .slice A2 new.length c2] 29)
    have y0 := d1.cell (i := 0) rfl; have y1 := d1.cell (i := 1) rfl; have y2 := d1.cell (i := 2) rfl; have y3 := d1.cell (i := 3) rfl; have y4 := d1.cell (i := 4) rfl; have y5 := d1.cell (i := 5) rfl
    have z0 := d1.frozen 0; have z1 := d1.frozen 1; have z2 := d1.frozen 2; have z3 := d1.frozen 3; have z4 := d1.frozen 4; have z5 := d1.frozen 5
    have HD1 := Lib.hid d1
    clear d1
    go_wp2
    have hset := turned_set6 (w1.alloc (.cells #[.int .i64 2, .string nm, .string to, .int .i64 pl, .slice A1 old.length c1, .slice A2 new.length c2] 29)) (w.heap.size + 1) (.int .i64 2) (.string nm) (.string to) (.int .i64 pl) (.slice A1 old.length c1) (.slice A2 new.length c2)
    have hlw := (HP.out.later.alloc (.cells #[.int .i64 2, .string nm, .string to, .int .i64 pl, .slice A1 old.length c1, .slice A2 new.length c2] 29)).turn hset (by omega)
    refine bodyPost_ret (results_cell_row rfl _ _ (w.heap.size + 1) 29 _ (0, 0) _ rfl (HD1.out.set6 (.int .i64 2) (.string nm) (.string to) (.int .i64 pl) (.slice A1 old.length c1) (.slice A2 new.length c2)) Tryd.underlying29 rfl Tryd.primSize) rfl ?_
    rw [E.out]
    exact ⟨(.slice A1 old.length c1), (.slice A2 new.length c2), rfl, ((HP.out.old.alloc _).other hset (fun e => by have := HUB.out _ e; omega) hlw), ((HP.out.new.alloc _).other hset (fun e => by have := HVB.out _ e; omega) hlw), HP.out.apart⟩
  by_cases h2 : kd = 2
  · subst h2
    have E : Hid (invertP ⟨2, nm, to, pl, old, new⟩ = ⟨1, nm, to, pl, old, new⟩) := by simp [Hid, invertP]
    have d1 := HB1.out.alloc (.cells #[.int .i64 1, .string nm, .string to, .int .i64 pl, .slice A1 old.length c1, .slice A2 new.length c2] 29)
    have y0 := d1.cell (i := 0) rfl; have y1 := d1.cell (i := 1) rfl; have y2 := d1.cell (i := 2) rfl; have y3 := d1.cell (i := 3) rfl; have y4 := d1.cell (i := 4) rfl; have y5 := d1.cell (i := 5) rfl
    have z0 := d1.frozen 0; have z1 := d1.frozen 1; have z2 := d1.frozen 2; have z3 := d1.frozen 3; have z4 := d1.frozen 4; have z5 := d1.frozen 5
    have HD1 := Lib.hid d1
    clear d1
    go_wp2
    have hset := turned_set6 (w1.alloc (.cells #[.int .i64 1, .string nm, .string to, .int .i64 pl, .slice A1 old.length c1, .slice A2 new.length c2] 29)) (w.heap.size + 1) (.int .i64 1) (.string nm) (.string to) (.int .i64 pl) (.slice A1 old.length c1) (.slice A2 new.length c2)
    have hlw := (HP.out.later.alloc (.cells #[.int .i64 1, .string nm, .string to, .int .i64 pl, .slice A1 old.length c1, .slice A2 new.length c2] 29)).turn hset (by omega)
    refine bodyPost_ret (results_cell_row rfl _ _ (w.heap.size + 1) 29 _ (0, 0) _ rfl (HD1.out.set6 (.int .i64 1) (.string nm) (.string to) (.int .i64 pl) (.slice A1 old.length c1) (.slice A2 new.length c2)) Tryd.underlying29 rfl Tryd.primSize) rfl ?_
    rw [E.out]
    exact ⟨(.slice A1 old.length c1), (.slice A2 new.length c2), rfl, ((HP.out.old.alloc _).other hset (fun e => by have := HUB.out _ e; omega) hlw), ((HP.out.new.alloc _).other hset (fun e => by have := HVB.out _ e; omega) hlw), HP.out.apart⟩
  by_cases h3 : kd = 3
  · subst h3
    have E : Hid (invertP ⟨3, nm, to, pl, old, new⟩ = ⟨3, to, nm, pl, old, new⟩) := by simp [Hid, invertP]
    have d1 := HB1.out.alloc (.cells #[.int .i64 3, .string to, .string nm, .int .i64 pl, .slice A1 old.length c1, .slice A2 new.length c2] 29)
    have y0 := d1.cell (i := 0) rfl; have y1 := d1.cell (i := 1) rfl; have y2 := d1.cell (i := 2) rfl; have y3 := d1.cell (i := 3) rfl; have y4 := d1.cell (i := 4) rfl; have y5 := d1.cell (i := 5) rfl
    have z0 := d1.frozen 0; have z1 := d1.frozen 1; have z2 := d1.frozen 2; have z3 := d1.frozen 3; have z4 := d1.frozen 4; have z5 := d1.frozen 5
    have HD1 := Lib.hid d1
    clear d1
    go_wp2
    have hset := turned_set6 (w1.alloc (.cells #[.int .i64 3, .string to, .string nm, .int .i64 pl, .slice A1 old.length c1, .slice A2 new.length c2] 29)) (w.heap.size + 1) (.int .i64 3) (.string to) (.string nm) (.int .i64 pl) (.slice A1 old.length c1) (.slice A2 new.length c2)
    have hlw := (HP.out.later.alloc (.cells #[.int .i64 3, .string to, .string nm, .int .i64 pl, .slice A1 old.length c1, .slice A2 new.length c2] 29)).turn hset (by omega)
    refine bodyPost_ret (results_cell_row rfl _ _ (w.heap.size + 1) 29 _ (0, 0) _ rfl (HD1.out.set6 (.int .i64 3) (.string to) (.string nm) (.int .i64 pl) (.slice A1 old.length c1) (.slice A2 new.length c2)) Tryd.underlying29 rfl Tryd.primSize) rfl ?_
    rw [E.out]
    exact ⟨(.slice A1 old.length c1), (.slice A2 new.length c2), rfl, ((HP.out.old.alloc _).other hset (fun e => by have := HUB.out _ e; omega) hlw), ((HP.out.new.alloc _).other hset (fun e => by have := HVB.out _ e; omega) hlw), HP.out.apart⟩
  have E : Hid (invertP ⟨kd, nm, to, pl, old, new⟩ = ⟨kd, nm, to, pl, old, new⟩) := by simp [Hid, invertP, h0, h1, h2, h3]
  have d1 := HB1.out.alloc (.cells #[.int .i64 kd, .string nm, .string to, .int .i64 pl, .slice A1 old.length c1, .slice A2 new.length c2] 29)
  have y0 := d1.cell (i := 0) rfl; have y1 := d1.cell (i := 1) rfl; have y2 := d1.cell (i := 2) rfl; have y3 := d1.cell (i := 3) rfl; have y4 := d1.cell (i := 4) rfl; have y5 := d1.cell (i := 5) rfl
  have z0 := d1.frozen 0; have z1 := d1.frozen 1; have z2 := d1.frozen 2; have z3 := d1.frozen 3; have z4 := d1.frozen 4; have z5 := d1.frozen 5
  have HD1 := Lib.hid d1
  clear d1
  go_wp2
  have hset := turned_set6 (w1.alloc (.cells #[.int .i64 kd, .string nm, .string to, .int .i64 pl, .slice A1 old.length c1, .slice A2 new.length c2] 29)) (w.heap.size + 1) (.int .i64 kd) (.string nm) (.string to) (.int .i64 pl) (.slice A1 old.length c1) (.slice A2 new.length c2)
  have hlw := (HP.out.later.alloc (.cells #[.int .i64 kd, .string nm, .string to, .int .i64 pl, .slice A1 old.length c1, .slice A2 new.length c2] 29)).turn hset (by omega)
  refine bodyPost_ret (results_cell_row rfl _ _ (w.heap.size + 1) 29 _ (0, 0) _ rfl (HD1.out.set6 (.int .i64 kd) (.string nm) (.string to) (.int .i64 pl) (.slice A1 old.length c1) (.slice A2 new.length c2)) Tryd.underlying29 rfl Tryd.primSize) rfl ?_
  rw [E.out]
  exact ⟨(.slice A1 old.length c1), (.slice A2 new.length c2), rfl, ((HP.out.old.alloc _).other hset (fun e => by have := HUB.out _ e; omega) hlw), ((HP.out.new.alloc _).other hset (fun e => by have := HVB.out _ e; omega) hlw), HP.out.apart⟩

end Go.Proofs.YtnhhdjcbifmfgaaDoor

/-
  What slices.Equal at rows of texts comes to, as a call.
-/
namespace Go.Proofs.YtnhhdjcbifmfgaaDoor
open Go.RowKit

set_option maxHeartbeats 400000 in
theorem equal_any (A B : Option Addr) (n c m d : Nat) (xs ys : List ByteArray) (w : World) (hx : Row w A n xs) (hy : Row w B m ys) (hn : n ≤ 65536) (hm : m ≤ 65536) :
    Calls Tryd.prog 48 #[.slice A n c, .slice B m d] w fun e w' => e = .returned (.bool (sameB xs ys)) ∧ ∃ q, w' = w.drewN q := by
  by_cases hnm : n = m
  · subst hnm
    have HX := Lib.hid hx; clear hx
    have HY := Lib.hid hy; clear hy
    go_enter Tryd.func48, Tryd.ntmps48
    go_wp2
    go_loopg [13] n (fun g s13 wr => ∃ k q : Nat, k ≤ n ∧ n - k ≤ g ∧ s13 = .int .i64 k ∧ wr = w.drewN q ∧ Hid (xs.take k = ys.take k))
    case atStart => exact ⟨0, 0, Nat.zero_le _, by omega, rfl, rfl, by simp [Hid]⟩
    case round =>
      obtain ⟨k, q, hk, hg, rfl, rfl, heq⟩ := hrel
      by_cases hlt : k < n
      · obtain ⟨b1, o1, rfl, g1⟩ := HX.out.get hlt
        obtain ⟨b2, o2, rfl, g2⟩ := HY.out.get hlt
        generalize hxk : xs.getD k ByteArray.empty = x at g1
        generalize hyk : ys.getD k ByteArray.empty = y at g2
        have X := Lib.hid hxk; clear hxk
        have Y := Lib.hid hyk; clear hyk
        by_cases hxy : x = y
        · subst hxy
          go_wp2_with fail
          go_quiet (fail)
          go_wp2
          go_roundg (n - (k + 1))
          case measure => omega
          case rel => exact ⟨k + 1, _, by omega, by omega, by go_num, rfl, take_same (by rw [HX.out.len]; exact hlt) (by rw [HY.out.len]; exact hlt) heq.out (X.out.trans Y.out.symm)⟩
        · have hb := text_ne hxy
          go_wp2_with fail
          go_quiet (fail)
          go_wp2
          go_ret
          refine ⟨?_, _, World.drewN_drewN _ _ _⟩
          rw [beq_of_other (by rw [X.out, Y.out]; exact hxy)]
          rfl
      · have hkn : k = n := by omega
        have e : sameB xs ys = true := by
          rw [hkn, List.take_of_length_le (by rw [HX.out.len]; omega), List.take_of_length_le (by rw [HY.out.len]; omega)] at heq
          exact sameB_yes heq.out
        have E := Lib.hid e; clear e heq
        go_wp2
        go_ret
        exact ⟨by rw [E.out]; rfl, _, rfl⟩
  · have e : sameB xs ys = false := by
      refine sameB_no fun h => ?_; rw [h] at hx; exact hnm (hx.len.symm.trans hy.len)
    have E := Lib.hid e; clear e hx hy
    have hnm' : ¬ (n : Int) = (m : Int) := by omega
    go_enter Tryd.func48, Tryd.ntmps48
    go_wp2
    go_ret
    exact ⟨by rw [E.out]; rfl, 0, rfl⟩

end Go.Proofs.YtnhhdjcbifmfgaaDoor

/-
  What line.Same comes to, as a call.
-/
namespace Go.Proofs.YtnhhdjcbifmfgaaDoor
open Go.RowKit

set_option maxHeartbeats 400000 in
theorem same_any (A B : Option Addr) (n c m d : Nat) (xs ys : List ByteArray) (w : World) (hx : Row w A n xs) (hy : Row w B m ys) (hn : n ≤ 65536) (hm : m ≤ 65536) :
    Calls Tryd.prog 33 #[.slice A n c, .slice B m d] w fun e w' => e = .returned (.bool (sameB xs ys)) ∧ ∃ q, w' = w.drewN q := by
  have H := Lib.hid (equal_any A B n c m d xs ys w hx hy hn hm)
  clear hx hy
  go_enter Tryd.func33, Tryd.ntmps33
  go_wp2_with (go_at_call 48; refine H.out.mono ?_; rintro e w' ⟨rfl, q, rfl⟩)
  go_ret
  exact ⟨rfl, q, rfl⟩

end Go.Proofs.YtnhhdjcbifmfgaaDoor

/-
  What prim's Same comes to, as a call.
-/
namespace Go.Proofs.YtnhhdjcbifmfgaaDoor
open Go.RowKit

set_option maxRecDepth 100000 in
set_option maxHeartbeats 800000 in
theorem primSame_any (x y : PrC) (w : World) (hx : PrOk w x) (hy : PrOk w y) :
    Calls Tryd.prog 19 #[prV x, prV y] w (Says (sameP x.v y.v) w) := by
  obtain ⟨⟨kd, nm, to, pl, old, new⟩, A, n, c, B, m, d⟩ := x
  obtain ⟨⟨kd', nm', to', pl', old', new'⟩, A', n', c', B', m', d'⟩ := y
  have hlb : Later w ((w.alloc (.cells #[.int .i64 kd, .string nm, .string to, .int .i64 pl, .slice A n c, .slice B m d] 29)).alloc (.cells #[.int .i64 kd', .string nm', .string to', .int .i64 pl', .slice A' n' c', .slice B' m' d'] 29)) := ((Later.refl w).alloc _).alloc _
  have H1 := Lib.hid (same_any A A' n c n' c' old old' _ (hx.old.later hlb) (hy.old.later hlb) hx.omost hy.omost)
  have H2 := Lib.hid (fun (w1 : World) (h : Later w w1) => same_any B B' m d m' d' new new' w1 (hx.new.later h) (hy.new.later h) hx.nmost hy.nmost)
  have HLB := Lib.hid hlb
  have HX := Lib.hid hx; have HY := Lib.hid hy
  unfold prV
  dsimp only
  clear hx hy hlb
  by_cases h1 : kd = kd'
  · subst h1
    by_cases h2 : nm = nm'
    · subst h2
      by_cases h3 : to = to'
      · subst h3
        by_cases h4 : pl = pl'
        · subst h4
          have E : Hid (sameP ⟨kd, nm, to, pl, old, new⟩ ⟨kd, nm, to, pl, old', new'⟩ = (sameB old old' && sameB new new')) := by simp [Hid, sameP]
          rw [E.out]
          clear E
          cases h5 : sameB old old'
          · rw [h5] at H1
            rw [Bool.false_and]
            go_enter Tryd.func19, Tryd.ntmps19
            go_wp2_with fail
            refine H1.out.mono ?_
            rintro e w1 ⟨rfl, q, rfl⟩
            go_wp2
            go_ret
            exact ⟨rfl, HLB.out.drewN q⟩
          · rw [h5] at H1
            rw [Bool.true_and]
            generalize sameB new new' = b at H2 ⊢
            go_enter Tryd.func19, Tryd.ntmps19
            go_wp2_with fail
            refine H1.out.mono ?_
            rintro e w1 ⟨rfl, q, rfl⟩
            go_wp2_with fail
            refine (H2.out _ (HLB.out.drewN q)).mono ?_
            rintro e w1 ⟨rfl, q2, rfl⟩
            go_wp2
            go_ret
            exact ⟨rfl, HLB.out.drewN _⟩
        · have E : Hid (sameP ⟨kd, nm, to, pl, old, new⟩ ⟨kd, nm, to, pl', old', new'⟩ = false) := by simp [Hid, sameP, h4]
          rw [E.out]
          clear E
          go_enter Tryd.func19, Tryd.ntmps19
          go_wp2
          go_ret
          exact ⟨rfl, HLB.out⟩
      · have E : Hid (sameP ⟨kd, nm, to, pl, old, new⟩ ⟨kd, nm, to', pl', old', new'⟩ = false) := by simp [Hid, sameP, h3]
        rw [E.out]
        have hb := text_ne h3
        clear E
        go_enter Tryd.func19, Tryd.ntmps19
        go_wp2
        go_ret
        exact ⟨rfl, HLB.out⟩
    · have E : Hid (sameP ⟨kd, nm, to, pl, old, new⟩ ⟨kd, nm', to', pl', old', new'⟩ = false) := by simp [Hid, sameP, h2]
      rw [E.out]
      have hb := text_ne h2
      clear E
      go_enter Tryd.func19, Tryd.ntmps19
      go_wp2
      go_ret
      exact ⟨rfl, HLB.out⟩
  · have E : Hid (sameP ⟨kd, nm, to, pl, old, new⟩ ⟨kd', nm', to', pl', old', new'⟩ = false) := by simp [Hid, sameP, h1]
    rw [E.out]
    clear E
    go_enter Tryd.func19, Tryd.ntmps19
    go_wp2
    go_ret
    exact ⟨rfl, HLB.out⟩

end Go.Proofs.YtnhhdjcbifmfgaaDoor

/-
  What calls of the library come to, laid at this program: whether a text has a byte.
-/
namespace Go.Proofs
open Go.Shelf
def Tryd.lays144_ren : Go.Shelf.Ren := ⟨fun | 144 => 49 | 143 => 69 | 219 => 83 | 217 => 89 | 225 => 90 | 224 => 91 | 267 => 92 | 266 => 95 | 314 => 96 | n => n, fun | 9 => 9 | 4 => 4 | 3 => 3 | 5 => 5 | 46 => 74 | 146 => 117 | 51 => 91 | n => n, fun | 1 => 1 | n => n⟩
theorem Tryd.lays144 : Go.Proofs.Lays.n144 Tryd.prog Tryd.lays144_ren := {
  mixed := by kernel_rfl
  f143 := Tryd.func69.trans (congrArg some (by kernel_rfl))
  f144 := Tryd.func49.trans (congrArg some (by kernel_rfl))
  f217 := Tryd.func89.trans (congrArg some (by kernel_rfl))
  f219 := Tryd.func83.trans (congrArg some (by kernel_rfl))
  f224 := Tryd.func91.trans (congrArg some (by kernel_rfl))
  f225 := Tryd.func90.trans (congrArg some (by kernel_rfl))
  f266 := Tryd.func95.trans (congrArg some (by kernel_rfl))
  f267 := Tryd.func92.trans (congrArg some (by kernel_rfl))
  f314 := Tryd.func96.trans (congrArg some (by kernel_rfl))
  t3 := Tryd.underlying3
  a3 := Tryd.isAgg3
  z3 := Tryd.sizeOf3
  v3 := Tryd.zeroValue3
  t4 := Tryd.underlying4
  a4 := Tryd.isAgg4
  z4 := Tryd.sizeOf4
  v4 := Tryd.zeroValue4
  t5 := Tryd.underlying5
  a5 := Tryd.isAgg5
  z5 := Tryd.sizeOf5
  v5 := Tryd.zeroValue5
  t9 := Tryd.underlying9
  a9 := Tryd.isAgg9
  z9 := Tryd.sizeOf9
  v9 := Tryd.zeroValue9
  t46 := Tryd.underlying74
  a46 := Tryd.isAgg74
  z46 := Tryd.sizeOf74
  v46 := Tryd.zeroValue74
  t51 := Tryd.underlying91
  a51 := Tryd.isAgg91
  z51 := Tryd.sizeOf91
  v51 := Tryd.zeroValue91
  t146 := Tryd.underlying117
  a146 := Tryd.isAgg117
  z146 := Tryd.sizeOf117
  v146 := Tryd.zeroValue117
  g1 := by kernel_rfl }
open Go.RowKit Go.Lib in
theorem Tryd.strings_Contains_one (s : ByteArray) (c : UInt8) (w : World) :
    Calls Tryd.prog 49 #[.string s, .string ⟨#[c]⟩] w fun e w' => e = .returned (.bool (decide (0 ≤ Lib.indexByte s.data.toList c))) ∧ w' = w := Any.strings_Contains_one Tryd.lays144 s c w
end Go.Proofs

/-
  What line.Right comes to, as a call.
-/
namespace Go.Proofs.YtnhhdjcbifmfgaaDoor
open Go.RowKit

set_option maxHeartbeats 400000 in
theorem right_any (s : ByteArray) (w : World) (hs : s.size ≤ maxLen) :
    Calls Tryd.prog 37 #[.string s] w fun e w' => e = .returned (.bool (rightB s)) ∧ w = w' := by
  unfold maxLen at hs
  have hr : rightB s = (decide (s.size ≤ 60) && !hasEnd s) := rfl
  by_cases h : s.size ≤ 60
  · rw [decide_eq_true h, Bool.true_and] at hr
    have HR := Lib.hid hr; clear hr
    have hd : decide ((s.size : Int) ≤ 60) = true := by simp; omega
    have H := Lib.hid (Tryd.strings_Contains_one s 10 w)
    go_enter Tryd.func37, Tryd.ntmps37
    go_wp2_with (go_at_call 49; refine H.out.mono ?_; rintro e w' ⟨rfl, rfl⟩)
    go_ret
    exact ⟨by rw [HR.out]; rfl, rfl⟩
  · rw [decide_eq_false h, Bool.false_and] at hr
    have HR := Lib.hid hr; clear hr
    have hd : decide ((s.size : Int) ≤ 60) = false := by simp; omega
    go_enter Tryd.func37, Tryd.ntmps37
    go_wp2
    go_ret
    exact ⟨by rw [HR.out]; rfl, rfl⟩

end Go.Proofs.YtnhhdjcbifmfgaaDoor

/-
  What line.All comes to, as a call.
-/
namespace Go.Proofs.YtnhhdjcbifmfgaaDoor
open Go.RowKit

set_option maxHeartbeats 400000 in
theorem all_any (A : Option Addr) (n c : Nat) (l : List ByteArray) (w : World) (hx : Row w A n l) (hn : n ≤ 65536) (hs : ∀ x ∈ l, x.size ≤ maxLen) :
    Calls Tryd.prog 24 #[.slice A n c] w fun e w' => e = .returned (.bool (allB l)) ∧ w = w' := by
  have HX := Lib.hid hx; clear hx
  have HS := Lib.hid hs; clear hs
  go_enter Tryd.func24, Tryd.ntmps24
  go_wp2
  go_loop [7] (fun i => ∃ k : Nat, k ≤ n ∧ i = .int .i64 k ∧ Hid (∀ j : Nat, j < k → rightB (l.getD j ByteArray.empty) = true)) (fun i => n - (intOf i).toNat)
  case atStart => exact ⟨0, Nat.zero_le _, rfl, fun j hj => absurd hj (Nat.not_lt_zero _)⟩
  case round =>
    obtain ⟨k, hk, rfl, hall⟩ := hrel
    by_cases hlt : k < n
    · obtain ⟨b1, o1, rfl, g1⟩ := HX.out.get hlt
      have hkl : k < l.length := by rw [HX.out.len]; exact hlt
      have hsz : (l.getD k ByteArray.empty).size ≤ maxLen := by
        simp only [List.getD, List.getElem?_eq_getElem hkl, Option.getD_some]
        exact HS.out _ (List.getElem_mem hkl)
      have hr := right_any (l.getD k ByteArray.empty) w hsz
      cases hb : rightB (l.getD k ByteArray.empty)
      · rw [hb] at hr
        have e := allB_get hkl hb
        have E := Lib.hid e
        have HR := Lib.hid hr; clear hr hb hsz e hkl hall
        generalize l.getD k ByteArray.empty = x at g1 HR
        go_wp2_with (go_at_call 37; refine HR.out.mono ?_; rintro e w' ⟨rfl, rfl⟩)
        go_ret
        exact ⟨ret_bool E.out.symm, rfl⟩
      · rw [hb] at hr
        have HA : Hid (∀ j : Nat, j < k + 1 → rightB (l.getD j ByteArray.empty) = true) := fun j hj => by
          by_cases e : j = k
          · rw [e]; exact hb
          · exact hall.out j (by omega)
        have HR := Lib.hid hr; clear hr hb hsz hkl hall
        generalize l.getD k ByteArray.empty = x at g1 HR
        go_wp2_with (go_at_call 37; refine HR.out.mono ?_; rintro e w' ⟨rfl, rfl⟩)
        exact ⟨⟨k + 1, by omega, by go_num, HA⟩, by simp [intOf]; omega⟩
    · have e : allB l = true := allB_all fun j hj => hall.out j (by rw [HX.out.len] at hj; omega)
      have E := Lib.hid e; clear e hall
      go_wp2
      go_ret
      exact ⟨ret_bool E.out.symm, rfl⟩

end Go.Proofs.YtnhhdjcbifmfgaaDoor

/-
  What prim's changesLines and hasNoLines come to, as calls.
-/
namespace Go.Proofs.YtnhhdjcbifmfgaaDoor
open Go.RowKit

set_option maxHeartbeats 400000 in
theorem changes_any (x : PrC) (w : World) (hx : PrOk w x) :
    Calls Tryd.prog 34 #[prV x] w (Says (allB x.v.old && allB x.v.new && !sameB x.v.old x.v.new) w) := by
  obtain ⟨⟨kd, nm, to, pl, old, new⟩, A, n, c, B, m, d⟩ := x
  unfold prV
  dsimp only
  have hlb : Later w (w.alloc (.cells #[.int .i64 kd, .string nm, .string to, .int .i64 pl, .slice A n c, .slice B m d] 29)) := (Later.refl w).alloc _
  have H1 := Lib.hid (all_any A n c old _ (hx.old.later hlb) hx.omost hx.olds)
  have H2 := Lib.hid (all_any B m d new _ (hx.new.later hlb) hx.nmost hx.news)
  have H3 := Lib.hid (same_any A B n c m d old new _ (hx.old.later hlb) (hx.new.later hlb) hx.omost hx.nmost)
  have HLB := Lib.hid hlb
  clear hx hlb
  cases h1 : allB old
  · rw [h1] at H1
    go_enter Tryd.func34, Tryd.ntmps34
    go_wp2_with fail
    refine H1.out.mono ?_
    rintro e w1 ⟨rfl, rfl⟩
    go_wp2
    go_ret
    exact ⟨rfl, HLB.out⟩
  · rw [h1] at H1
    cases h2 : allB new
    · rw [h2] at H2
      go_enter Tryd.func34, Tryd.ntmps34
      go_wp2_with fail
      refine H1.out.mono ?_
      rintro e w1 ⟨rfl, rfl⟩
      go_wp2_with fail
      refine H2.out.mono ?_
      rintro e w1 ⟨rfl, rfl⟩
      go_wp2
      go_ret
      exact ⟨rfl, HLB.out⟩
    · rw [h2] at H2
      generalize sameB old new = b at H3 ⊢
      go_enter Tryd.func34, Tryd.ntmps34
      go_wp2_with fail
      refine H1.out.mono ?_
      rintro e w1 ⟨rfl, rfl⟩
      go_wp2_with fail
      refine H2.out.mono ?_
      rintro e w1 ⟨rfl, rfl⟩
      go_wp2_with fail
      refine H3.out.mono ?_
      rintro e w1 ⟨rfl, q, rfl⟩
      go_wp2
      go_ret
      exact ⟨rfl, HLB.out.drewN q⟩

/-- No place, no lines. -/
def bareP (p : Pr) : Bool := decide (p.place = 0) && decide (p.old = []) && decide (p.new = [])

set_option maxHeartbeats 400000 in
theorem bare_any (x : PrC) (w : World) (hx : PrOk w x) :
    Calls Tryd.prog 35 #[prV x] w (Says (bareP x.v) w) := by
  obtain ⟨⟨kd, nm, to, pl, old, new⟩, A, n, c, B, m, d⟩ := x
  unfold prV
  dsimp only
  have hlb : Later w (w.alloc (.cells #[.int .i64 kd, .string nm, .string to, .int .i64 pl, .slice A n c, .slice B m d] 29)) := (Later.refl w).alloc _
  have HLB := Lib.hid hlb
  have hn := hx.old.len
  have hm := hx.new.len
  have hn1 := hx.omost
  have hm1 := hx.nmost
  dsimp only at hn hm hn1 hm1
  clear hx hlb
  by_cases h0 : pl = 0
  · subst h0
    by_cases h1 : n = 0
    · have e1 : old = [] := List.eq_nil_of_length_eq_zero (hn.trans h1)
      by_cases h2 : m = 0
      · have e2 : new = [] := List.eq_nil_of_length_eq_zero (hm.trans h2)
        have E : Hid (bareP ⟨kd, nm, to, 0, old, new⟩ = true) := by simp [Hid, bareP, e1, e2]
        subst h1 h2
        clear e1 e2
        go_enter Tryd.func35, Tryd.ntmps35
        go_wp2
        go_ret
        exact ⟨ret_bool E.out.symm, HLB.out⟩
      · have e2 : new ≠ [] := by rintro rfl; exact h2 hm.symm
        have E : Hid (bareP ⟨kd, nm, to, 0, old, new⟩ = false) := by simp [Hid, bareP, e2]
        subst h1
        have h2' : ¬ (m : Int) = 0 := by omega
        clear e1 e2
        go_enter Tryd.func35, Tryd.ntmps35
        go_wp2
        go_ret
        exact ⟨by rw [E.out]; simp [h2], HLB.out⟩
    · have e1 : old ≠ [] := by rintro rfl; exact h1 hn.symm
      have E : Hid (bareP ⟨kd, nm, to, 0, old, new⟩ = false) := by simp [Hid, bareP, e1]
      have h1' : ¬ (n : Int) = 0 := by omega
      clear e1
      go_enter Tryd.func35, Tryd.ntmps35
      go_wp2
      go_ret
      exact ⟨ret_bool E.out.symm, HLB.out⟩
  · have E : Hid (bareP ⟨kd, nm, to, pl, old, new⟩ = false) := by simp [Hid, bareP, h0]
    go_enter Tryd.func35, Tryd.ntmps35
    go_wp2
    go_ret
    exact ⟨ret_bool E.out.symm, HLB.out⟩

end Go.Proofs.YtnhhdjcbifmfgaaDoor
