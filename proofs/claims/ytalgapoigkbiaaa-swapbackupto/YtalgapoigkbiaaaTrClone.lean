/-
  What slices.Clone at rows of texts comes to, as a call.
-/
import Derived.Test.YtalgapoigkbiaaaChecked
import Derived.Test.YtalgapoigkbiaaaOwn
import Derived.Test.YtalgapoigkbiaaaWords
import Derived.Test.YtalgapoigkbiaaaInfo
import Derived.Lib.SliceRun
import Derived.Lib.Hide
namespace Go.Proofs.Ytalgapoigkbiaaa
open Go.RowKit

theorem Own.on {e : TypeId} {w0 w w' : World} {v : Value} {ss : List ByteArray} (h : Own e w0 w v ss) (hl : Later w w') : Own e w0 w' v ss :=
  ⟨h.1.kept (row := none) ⟨hl.os, hl.tape, hl.output, hl.size, fun i hi _ => hl.block i hi⟩ (by cases v.ownBlock <;> simp), h.2.trans hl⟩
theorem Own.base {e : TypeId} {w0 w1 w : World} {v : Value} {ss : List ByteArray} (h : Own e w1 w v ss) (hl : Later w0 w1) : Own e w0 w v ss :=
  ⟨by
    obtain ⟨hx, h1 | ⟨g, cap, cur, hv, hg, h2⟩⟩ := h.1
    · exact ⟨hx, .inl h1⟩
    · exact ⟨hx, .inr ⟨g, cap, cur, hv, Nat.le_trans hl.le hg, h2⟩⟩, hl.trans h.2⟩

/-- A row of new memory, the call's own. -/
def GivesOwn (ss : List ByteArray) (w : World) (e : Ending) (w' : World) : Prop := ∃ v, e = .returned v ∧ Own 9 w w' v ss

set_option maxHeartbeats 400000 in
theorem clone_any (A : Option Addr) (n c : Nat) (l : List ByteArray) (w : World) (hx : Row w A n l) (hn : n ≤ 65536) :
    Calls Try.prog 36 #[.slice A n c] w (GivesOwn l w) := by
  have q29 : ∀ (w : World) (a : Option Addr) (n c n' c' : Nat), (binOp .eql 22 (.slice a n c) (.slice none n' c')).run Try.prog w = .ok (.bool a.isNone) w := fun w a n c n' c' => Lib.run_eql_slice_nil w _ _ a n c n' c' Try.underlying22
  cases A with
  | none =>
    have e : l = [] := by
      rcases Nat.eq_zero_or_pos n with h | h
      · exact List.eq_nil_of_length_eq_zero (hx.len.trans h)
      · obtain ⟨_, _, e, _⟩ := hx.2 h; cases e
    subst e
    clear hx
    go_enter Try.func36, Try.ntmps36
    go_wp2
    go_ret
    exact ⟨_, rfl, Own.nil (Later.refl w)⟩
  | some a =>
    have HX := Lib.hid hx; clear hx
    obtain ⟨i0, hi, hz0, hz1, hz2⟩ := info_parts Try.textInfo
    go_enter Try.func36, Try.ntmps36
    go_wp2_with (at_builtin; refine wpList_append_row (w0 := w) rfl _ _ 22 rfl i0 Try.underlying22 hi hz0 hz1 hz2 (Own.empty (Later.refl w)) rfl _ _ _ _ rfl (HX.out.later ((Later.refl w).alloc _)) (by simp; omega) ?_; intro v2 w2 hown2 hg2; have HO2 := Lib.hid hown2; clear hown2 hg2)
    go_ret
    exact ⟨_, rfl, by simpa using HO2.out⟩

end Go.Proofs.Ytalgapoigkbiaaa
