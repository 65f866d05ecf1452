/-
  What swap's meet comes to, as a call.
-/
import Derived.Test.YtalgapoigkbiaaaSwFind
import Derived.Test.YtalgapoigkbiaaaSwTurn
namespace Go.Proofs.Ytalgapoigkbiaaa
open Go.RowKit Go.Maps

theorem two_boxes (w : World) (a b : Array Value) (t : TypeId) : BoxAt ((w.alloc (.cells a t)).alloc (.cells b t)) w.heap.size a t ∧ BoxAt ((w.alloc (.cells a t)).alloc (.cells b t)) (w.heap.size + 1) b t ∧ Later w ((w.alloc (.cells a t)).alloc (.cells b t)) := by
  refine ⟨(BoxAt.made w a t).alloc _, ?_, ((Later.refl w).alloc _).alloc _⟩
  have := BoxAt.made (w.alloc (.cells a t)) b t
  simpa using this
theorem BoxAt.all {w : World} {g : Nat} {x : PrC} {t : TypeId} (h : BoxAt w g (prL x).toArray t) : w.cell? ⟨g, 0, none⟩ = some (.int .i64 x.v.kind) ∧ w.cell? ⟨g, 1, none⟩ = some (.string x.v.name) ∧ w.cell? ⟨g, 2, none⟩ = some (.string x.v.to) ∧ w.cell? ⟨g, 3, none⟩ = some (.int .i64 x.v.place) ∧ w.cell? ⟨g, 4, none⟩ = some (.slice x.A x.n x.c) ∧ w.cell? ⟨g, 5, none⟩ = some (.slice x.B x.m x.d) :=
  ⟨h.cell rfl, h.cell rfl, h.cell rfl, h.cell rfl, h.cell rfl, h.cell rfl⟩

set_option maxRecDepth 100000 in
set_option maxHeartbeats 800000 in
theorem meet_any (x y : PrC) (w : World) : Calls Try.prog 46 #[prV x, prV y] w (Says (commonP x.v y.v) w) := by
  obtain ⟨b0, b1, hl⟩ := two_boxes w (prL x).toArray (prL y).toArray 27
  have HN := Lib.hid (fun w' => primNames_any y w')
  have HM := Lib.hid (fun w' => primNames_any x w')
  have hn1 := namesP_length x.v
  have hn2 := namesP_length y.v
  have HE : Hid (commonP x.v y.v = (namesP x.v).any fun a => (namesP y.v).any fun b => decide (a = b)) := rfl
  generalize commonP x.v y.v = cm at HE ⊢
  generalize namesP x.v = l at HM hn1 HE
  generalize namesP y.v = r at HN hn2 HE
  have HB0 := Lib.hid b0; have HL := Lib.hid hl
  clear b0 b1 hl
  unfold prV at HN HM ⊢
  go_enter Try.func46, Try.ntmps46
  go_wp2_with fail
  refine (HN.out _).mono ?_
  rintro e w1 ⟨A1, c1, rfl, hc1, hr1, hl1⟩
  have b2 := (HB0.out.later hl1).alloc (.cells #[.slice A1 r.length c1] 22)
  obtain ⟨q0, q1, q2, q3, q4, q5⟩ := b2.all
  have hb : Hid ((w1.alloc (.cells #[.slice A1 r.length c1] 22)).cell? ⟨w1.heap.size, 0, none⟩ = some (.slice A1 r.length c1)) := by simp [Hid]
  have HR1 := Lib.hid (hr1.later ((Later.refl w1).alloc (.cells #[.slice A1 r.length c1] 22)))
  have HL1 := Lib.hid ((HL.out.trans hl1).alloc (.cells #[.slice A1 r.length c1] 22))
  clear hr1 hl1 b2
  go_wp2_with fail
  refine (HM.out _).mono ?_
  rintro e w2 ⟨A2, c2, rfl, hc2, hr2, hl2⟩
  have HCF := Lib.hid (containsFunc_any A2 l.length c2 l A1 r.length c1 r w1.heap.size w2 hr2 hn1 (hl2.cell hb.out) (HR1.out.later hl2) hn2)
  rw [← HE.out] at HCF
  have HL2 := Lib.hid (HL1.out.trans hl2)
  clear hr2 hl2 q0 q1 q2 q3 q4 q5
  go_wp2_with fail
  refine HCF.out.mono ?_
  rintro e w3 ⟨rfl, rfl⟩
  go_wp2
  go_ret
  exact ⟨rfl, HL2.out⟩

end Go.Proofs.Ytalgapoigkbiaaa
