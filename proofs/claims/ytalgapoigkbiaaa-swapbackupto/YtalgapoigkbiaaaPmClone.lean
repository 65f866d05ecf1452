/-
  What prim's Clone comes to, as a call.
-/
import Derived.Test.YtalgapoigkbiaaaPrMem
import Derived.Test.YtalgapoigkbiaaaTrSet
import Derived.Deep.LoopGhost
import Derived.Deep.QuietTactic
import Derived.BigQuiet
import Derived.Lib.Hide
namespace Go.Proofs.Ytalgapoigkbiaaa
open Go.RowKit

/-- Block g is made of these cells. -/
def BoxAt (w : World) (g : Nat) (cs : Array Value) (t : TypeId) : Prop := w.heap[g]? = some (.cells cs t (0, 0))
section
variable {w w' : World} {g : Nat} {cs : Array Value} {t : TypeId}
theorem BoxAt.lt (h : BoxAt w g cs t) : g < w.heap.size := (Array.getElem?_eq_some_iff.1 h).1
theorem BoxAt.later (h : BoxAt w g cs t) (hl : Later w w') : BoxAt w' g cs t := (hl.block g h.lt).trans h
theorem BoxAt.other {b : Nat} (h : BoxAt w g cs t) (hg : Turned b w w') (hne : g ≠ b) : BoxAt w' g cs t := (hg.block g h.lt (by simpa using hne)).trans h
theorem BoxAt.cell (h : BoxAt w g cs t) {i : Nat} {v : Value} (hv : cs[i]? = some v) : w.cell? ⟨g, i, none⟩ = some v := by
  unfold BoxAt at h
  simp only [World.cell?, h]
  exact hv
theorem BoxAt.frozen (h : BoxAt w g cs t) (i : Nat) : w.frozen? ⟨g, i, none⟩ = false := frozen_no h i
theorem BoxAt.made (w : World) (cs : Array Value) (t : TypeId) : BoxAt (w.alloc (.cells cs t)) w.heap.size cs t := heap_alloc_new w _
theorem BoxAt.set (h : BoxAt w g cs t) (i : Nat) (v : Value) : BoxAt (w.setCell ⟨g, i, none⟩ v) g (cs.setIfInBounds i v) t := heap_setCell_same w g i cs t v h
theorem BoxAt.alloc (h : BoxAt w g cs t) (o : Obj) : BoxAt (w.alloc o) g cs t := h.later ((Later.refl w).alloc o)
/-- Six cells, written one behind the other. -/
theorem BoxAt.set6 {x0 x1 x2 x3 x4 x5 : Value} (h : BoxAt w g #[x0, x1, x2, x3, x4, x5] t) (v0 v1 v2 v3 v4 v5 : Value) : BoxAt ((((((w.setCell ⟨g, 0, none⟩ v0).setCell ⟨g, 1, none⟩ v1).setCell ⟨g, 2, none⟩ v2).setCell ⟨g, 3, none⟩ v3).setCell ⟨g, 4, none⟩ v4).setCell ⟨g, 5, none⟩ v5) g #[v0, v1, v2, v3, v4, v5] t :=
  (((((h.set 0 v0).set 1 v1).set 2 v2).set 3 v3).set 4 v4).set 5 v5
theorem turned_set6 (w : World) (g : Nat) (v0 v1 v2 v3 v4 v5 : Value) : Turned g w ((((((w.setCell ⟨g, 0, none⟩ v0).setCell ⟨g, 1, none⟩ v1).setCell ⟨g, 2, none⟩ v2).setCell ⟨g, 3, none⟩ v3).setCell ⟨g, 4, none⟩ v4).setCell ⟨g, 5, none⟩ v5) :=
  (((((turned_set w g 0 v0).trans (turned_set _ g 1 v1)).trans (turned_set _ g 2 v2)).trans (turned_set _ g 3 v3)).trans (turned_set _ g 4 v4)).trans (turned_set _ g 5 v5)
end
theorem Try.primSize : (Try.prog.info? 27).map (·.size) = some 6 := by kernel_rfl

set_option maxRecDepth 100000 in
set_option maxHeartbeats 800000 in
theorem primClone_any (x : PrC) (w : World) (hx : PrOk w x) :
    Calls Try.prog 29 #[prV x] w (GivesPr x.v w) := by
  obtain ⟨⟨kd, nm, to, pl, old, new⟩, A, n, c, B, m, d⟩ := x
  unfold prV
  dsimp only
  have HX := Lib.hid hx
  clear hx
  go_enter Try.func29, Try.ntmps29
  go_wp2_with fail
  have hb0 : BoxAt ((w.alloc (.cells #[.int .i64 kd, .string nm, .string to, .int .i64 pl, .slice A n c, .slice B m d] 27)).alloc (.cells #[.int .i64 0, .string ⟨#[]⟩, .string ⟨#[]⟩, .int .i64 0, .slice none 0 0, .slice none 0 0] 27)) w.heap.size #[.int .i64 kd, .string nm, .string to, .int .i64 pl, .slice A n c, .slice B m d] 27 := (BoxAt.made w _ _).alloc _
  have hb1 : BoxAt ((w.alloc (.cells #[.int .i64 kd, .string nm, .string to, .int .i64 pl, .slice A n c, .slice B m d] 27)).alloc (.cells #[.int .i64 0, .string ⟨#[]⟩, .string ⟨#[]⟩, .int .i64 0, .slice none 0 0, .slice none 0 0] 27)) (w.heap.size + 1) #[.int .i64 0, .string ⟨#[]⟩, .string ⟨#[]⟩, .int .i64 0, .slice none 0 0, .slice none 0 0] 27 := by
    have := BoxAt.made (w.alloc (.cells #[.int .i64 kd, .string nm, .string to, .int .i64 pl, .slice A n c, .slice B m d] 27)) #[.int .i64 0, .string ⟨#[]⟩, .string ⟨#[]⟩, .int .i64 0, .slice none 0 0, .slice none 0 0] 27
    simpa using this
  have hlb : Later w ((w.alloc (.cells #[.int .i64 kd, .string nm, .string to, .int .i64 pl, .slice A n c, .slice B m d] 27)).alloc (.cells #[.int .i64 0, .string ⟨#[]⟩, .string ⟨#[]⟩, .int .i64 0, .slice none 0 0, .slice none 0 0] 27)) := ((Later.refl w).alloc _).alloc _
  generalize (w.alloc (.cells #[.int .i64 kd, .string nm, .string to, .int .i64 pl, .slice A n c, .slice B m d] 27)).alloc (.cells #[.int .i64 0, .string ⟨#[]⟩, .string ⟨#[]⟩, .int .i64 0, .slice none 0 0, .slice none 0 0] 27) = wb at hb0 hb1 hlb ⊢
  have hlt := hb1.lt
  refine (clone_any A n c old wb (HX.out.old.later hlb) HX.out.omost).mono ?_
  rintro e w1 ⟨u, rfl, hu⟩
  obtain ⟨A1, c1, hv1, hcc1, hr1⟩ := hu.row
  subst hv1
  have b0 := hb0.later hu.later
  have c4 := b0.cell (i := 4) rfl
  have f4 := b0.frozen 4
  have b0' := b0.set 4 (.slice A1 old.length c1)
  have c5 := b0'.cell (i := 5) rfl
  have f5 := b0'.frozen 5
  have HB0 := Lib.hid b0'
  have HB1 := Lib.hid ((hb1.later hu.later).other (turned_set w1 w.heap.size 4 (.slice A1 old.length c1)) (by omega))
  have hle := hu.later.le
  have HL1 := Lib.hid ((hlb.trans hu.later).turn (turned_set w1 w.heap.size 4 (.slice A1 old.length c1)) (Nat.le_refl _))
  have HU := Lib.hid (hu.base hlb)
  have HU1 : Hid (Own 9 w (w1.setCell ⟨w.heap.size, 4, none⟩ (.slice A1 old.length c1)) (.slice A1 old.length c1) old) := (HU.out).other (turned_set w1 w.heap.size 4 (.slice A1 old.length c1)) (fun e => by have := hu.block _ e; omega) HL1.out
  have HUB : Hid (∀ b, (Value.slice A1 old.length c1).ownBlock = some b → wb.heap.size ≤ b) := hu.block
  clear hb0 hb1 hu b0 b0' hr1 hcc1
  go_wp2_with fail
  generalize w1.setCell ⟨w.heap.size, 4, none⟩ (.slice A1 old.length c1) = w2 at HB0 HB1 HL1 HU1 c5 f5 ⊢
  clear c4 f4 HU
  refine (clone_any B m d new w2 (HX.out.new.later HL1.out) HX.out.nmost).mono ?_
  rintro e w3 ⟨u2, rfl, hu2⟩
  obtain ⟨A3, c3, hv3, hcc3, hr3⟩ := hu2.row
  subst hv3
  have b0 := HB0.out.later hu2.later
  have b1 := HB1.out.later hu2.later
  have e5 := b0.cell (i := 5) rfl
  have g5 := b0.frozen 5
  have hlt2 := HB1.out.lt
  have d0 := b0.set 5 (.slice A3 new.length c3)
  have d1 := b1.other (turned_set w3 w.heap.size 5 (.slice A3 new.length c3)) (by omega)
  have HL4 := Lib.hid ((HL1.out.trans hu2.later).turn (turned_set w3 w.heap.size 5 (.slice A3 new.length c3)) (Nat.le_refl _))
  have HU4 : Hid (Own 9 w (w3.setCell ⟨w.heap.size, 5, none⟩ (.slice A3 new.length c3)) (.slice A1 old.length c1) old) := (HU1.out.on hu2.later).other (turned_set w3 w.heap.size 5 (.slice A3 new.length c3)) (fun e => by have := HUB.out _ e; omega) HL4.out
  have HV4 : Hid (Own 9 w (w3.setCell ⟨w.heap.size, 5, none⟩ (.slice A3 new.length c3)) (.slice A3 new.length c3) new) := (hu2.base HL1.out).other (turned_set w3 w.heap.size 5 (.slice A3 new.length c3)) (fun e => by have := hu2.block _ e; omega) HL4.out
  have HVB : Hid (∀ b, (Value.slice A3 new.length c3).ownBlock = some b → w2.heap.size ≤ b) := hu2.block
  have HUL : Hid (∀ b, (Value.slice A1 old.length c1).ownBlock = some b → b < w2.heap.size) := fun b hb => HU1.out.lt hb
  clear hu2 b0 b1 c5 f5
  have x0 := d0.cell (i := 0) rfl; have x1 := d0.cell (i := 1) rfl; have x2 := d0.cell (i := 2) rfl; have x3 := d0.cell (i := 3) rfl; have x4 := d0.cell (i := 4) rfl; have x5 := d0.cell (i := 5) rfl
  have y0 := d1.cell (i := 0) rfl; have y1 := d1.cell (i := 1) rfl; have y2 := d1.cell (i := 2) rfl; have y3 := d1.cell (i := 3) rfl; have y4 := d1.cell (i := 4) rfl; have y5 := d1.cell (i := 5) rfl
  have z0 := d1.frozen 0; have z1 := d1.frozen 1; have z2 := d1.frozen 2; have z3 := d1.frozen 3; have z4 := d1.frozen 4; have z5 := d1.frozen 5
  have HD1 := Lib.hid d1
  clear d0 d1
  go_wp2
  have hset := turned_set6 (w3.setCell ⟨w.heap.size, 5, none⟩ (.slice A3 new.length c3)) (w.heap.size + 1) (.int .i64 kd) (.string nm) (.string to) (.int .i64 pl) (.slice A1 old.length c1) (.slice A3 new.length c3)
  have hlw := HL4.out.turn hset (by omega)
  refine bodyPost_ret (results_cell_row rfl _ _ (w.heap.size + 1) 27 _ (0, 0) _ rfl (HD1.out.set6 (.int .i64 kd) (.string nm) (.string to) (.int .i64 pl) (.slice A1 old.length c1) (.slice A3 new.length c3)) Try.underlying27 rfl Try.primSize) rfl ?_
  refine ⟨(.slice A1 old.length c1), (.slice A3 new.length c3), rfl, HU4.out.other hset (fun e => ?_) hlw, HV4.out.other hset (fun e => ?_) hlw, fun b h1 h2 => ?_⟩
  · have := HUB.out _ e; omega
  · have := HVB.out _ e; omega
  · have := HUL.out _ h1
    have := HVB.out _ h2
    omega

end Go.Proofs.Ytalgapoigkbiaaa
