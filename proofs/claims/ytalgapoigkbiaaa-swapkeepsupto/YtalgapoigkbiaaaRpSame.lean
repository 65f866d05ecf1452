/-
  What the document's Same on prims comes to, as a call.
-/
import Derived.Test.YtalgapoigkbiaaaPrMem
import Derived.Test.YtalgapoigkbiaaaRSame
import Derived.Deep.LoopGhost
import Derived.Deep.QuietTactic
import Derived.BigQuiet
import Derived.Lib.Hide
namespace Go.Proofs.Ytalgapoigkbiaaa
open Go.RowKit

set_option maxRecDepth 100000 in
set_option maxHeartbeats 800000 in
theorem refSameP_any (x y : PrC) (w : World) (hx : PrOk w x) (hy : PrOk w y) :
    Calls Try.prog 14 #[prV x, prV y] w (Says (sameP x.v y.v) w) := by
  obtain ⟨⟨kd, nm, to, pl, old, new⟩, A, n, c, B, m, d⟩ := x
  obtain ⟨⟨kd', nm', to', pl', old', new'⟩, A', n', c', B', m', d'⟩ := y
  have hlb : Later w ((w.alloc (.cells #[.int .i64 kd, .string nm, .string to, .int .i64 pl, .slice A n c, .slice B m d] 24)).alloc (.cells #[.int .i64 kd', .string nm', .string to', .int .i64 pl', .slice A' n' c', .slice B' m' d'] 24)) := ((Later.refl w).alloc _).alloc _
  have H1 := Lib.hid (refSame_any A A' n c n' c' old old' _ (hx.old.later hlb) (hy.old.later hlb) hx.omost hy.omost)
  have H2 := Lib.hid (fun (w1 : World) (h : Later w w1) => refSame_any B B' m d m' d' new new' w1 (hx.new.later h) (hy.new.later h) hx.nmost hy.nmost)
  have HLB := Lib.hid hlb
  have HX := Lib.hid hx; have HY := Lib.hid hy
  unfold prV
  dsimp only
  clear hx hy hlb
  by_cases h1 : kd = kd'
  · subst h1
    by_cases h2 : nm = nm'
    · subst h2
      by_cases h3 : to = to'
      · subst h3
        by_cases h4 : pl = pl'
        · subst h4
          have E : Hid (sameP ⟨kd, nm, to, pl, old, new⟩ ⟨kd, nm, to, pl, old', new'⟩ = (sameB old old' && sameB new new')) := by simp [Hid, sameP]
          rw [E.out]
          clear E
          cases h5 : sameB old old'
          · rw [h5] at H1
            rw [Bool.false_and]
            go_enter Try.func14, Try.ntmps14
            go_wp2_with fail
            refine H1.out.mono ?_
            rintro e w1 ⟨rfl, q, rfl⟩
            go_wp2
            go_ret
            exact ⟨rfl, HLB.out.drewN q⟩
          · rw [h5] at H1
            rw [Bool.true_and]
            generalize sameB new new' = b at H2 ⊢
            go_enter Try.func14, Try.ntmps14
            go_wp2_with fail
            refine H1.out.mono ?_
            rintro e w1 ⟨rfl, q, rfl⟩
            go_wp2_with fail
            refine (H2.out _ (HLB.out.drewN q)).mono ?_
            rintro e w1 ⟨rfl, q2, rfl⟩
            go_wp2
            go_ret
            exact ⟨rfl, HLB.out.drewN _⟩
        · have E : Hid (sameP ⟨kd, nm, to, pl, old, new⟩ ⟨kd, nm, to, pl', old', new'⟩ = false) := by simp [Hid, sameP, h4]
          rw [E.out]
          clear E
          go_enter Try.func14, Try.ntmps14
          go_wp2
          go_ret
          exact ⟨rfl, HLB.out⟩
      · have E : Hid (sameP ⟨kd, nm, to, pl, old, new⟩ ⟨kd, nm, to', pl', old', new'⟩ = false) := by simp [Hid, sameP, h3]
        rw [E.out]
        have hb := text_ne h3
        clear E
        go_enter Try.func14, Try.ntmps14
        go_wp2
        go_ret
        exact ⟨rfl, HLB.out⟩
    · have E : Hid (sameP ⟨kd, nm, to, pl, old, new⟩ ⟨kd, nm', to', pl', old', new'⟩ = false) := by simp [Hid, sameP, h2]
      rw [E.out]
      have hb := text_ne h2
      clear E
      go_enter Try.func14, Try.ntmps14
      go_wp2
      go_ret
      exact ⟨rfl, HLB.out⟩
  · have E : Hid (sameP ⟨kd, nm, to, pl, old, new⟩ ⟨kd', nm', to', pl', old', new'⟩ = false) := by simp [Hid, sameP, h1]
    rw [E.out]
    clear E
    go_enter Try.func14, Try.ntmps14
    go_wp2
    go_ret
    exact ⟨rfl, HLB.out⟩

end Go.Proofs.Ytalgapoigkbiaaa
