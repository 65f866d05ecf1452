/-
  slices.Clone at []byte, as a call; a row of bytes of the call's own.
-/
import Derived.Test.YtknjkkdoeanhbaaBtMem
import Derived.Deep.LoopGhost
import Derived.Deep.QuietTactic
import Derived.BigQuiet
import Derived.Lib.Hide
import Derived.Lib.SliceRun
import Derived.Laws.AppendOwnNone
namespace Go.Proofs.Ytknjkkdoeanhbaa
open Go.RowKit

section
variable {w w' : World} {B n : Nat} {v : Value} {bs : Bs}
theorem own_bs (h : w.ownsRow B 5 1 v n (Lib.byteCells bs)) : ∃ A c, v = .slice A n c ∧ n ≤ c ∧ (A = none → c = 0) ∧ BsAt w A n bs := by
  have hl : bs.length = n := by have := h.1; simpa [Lib.byteCells] using this
  rcases h.2 with ⟨hv, h0⟩ | ⟨b, cap, cur, hv, hb, hh, hnc, hm, hs, ht⟩
  · subst h0
    have e : bs = [] := List.eq_nil_of_length_eq_zero hl
    subst e
    exact ⟨none, 0, hv, Nat.le_refl _, fun _ => rfl, BsAt.none _ _⟩
  · refine ⟨some ⟨b, 0, none⟩, cap, hv, hnc, (fun e => by cases e), ⟨hl, fun _ => ⟨b, 0, rfl, fun j x hj => ?_⟩⟩⟩
    have hc := h.cells (g := b) (by rw [hv]; rfl) j (.int .u8 (x.toNat : Int)) (by unfold Lib.byteCells; rw [List.getElem?_map, hj]; rfl)
    rw [plain_add] at hc
    exact hc
end

set_option maxRecDepth 100000 in
set_option maxHeartbeats 800000 in
theorem clone9_any (A : Option Addr) (n c : Nat) (bs : Bs) (w : World) (hx : BsAt w A n bs) (hA : A = none → c = 0) (hnc : n ≤ c) (hn : n ≤ 1000000000) :
    Calls Try.prog 42 #[.slice A n c] w fun e w' => ∃ v, e = .returned v ∧ w'.ownsRow w.heap.size 5 1 v bs.length (Lib.byteCells bs) ∧ Later w w' := by
  have q29 : ∀ (w : World) (a : Option Addr) (n c n' c' : Nat), (binOp .eql 33 (.slice a n c) (.slice none n' c')).run Try.prog w = .ok (.bool a.isNone) w := fun w a n c n' c' => Lib.run_eql_slice_nil w _ _ a n c n' c' Try.underlying33
  have hl := hx.len
  cases A with
  | none =>
    obtain rfl := hA rfl
    obtain rfl : n = 0 := by omega
    obtain rfl : bs = [] := List.eq_nil_of_length_eq_zero hl
    clear hx
    go_enter Try.func42, Try.ntmps42
    go_wp2
    go_ret
    exact ⟨_, rfl, World.ownsRow_nil _ _ _ _, Later.refl _⟩
  | some a =>
    obtain ⟨i, hi, hz, hs, hby⟩ := info_parts Try.byteInfo
    have HC : Hid (∀ (j : Nat) u, (Lib.byteCells bs)[j]? = some u → (w.alloc (.cells #[] 5)).cell? (a.add j) = some u) := fun j u hj => by
      have hjl : j < (Lib.byteCells bs).length := (List.getElem?_eq_some_iff.1 hj).1
      simp only [Lib.byteCells, List.length_map] at hjl
      unfold Lib.byteCells at hj
      rw [List.getElem?_map] at hj
      obtain ⟨x, hx1, rfl⟩ := Option.map_eq_some_iff.1 hj
      obtain ⟨b, o, e, hc⟩ := hx.2 (by omega)
      cases e
      rw [plain_add]
      exact ((Later.refl w).alloc _).cell (hc j x hx1)
    have HLN : Hid ((Lib.byteCells bs).length = n * 1) := by show _ = _; simp [Lib.byteCells, hl]
    have HO : Hid (∀ u ∈ Lib.byteCells bs, u.oneCell' = true) := fun u hu => by
      obtain ⟨x, _, rfl⟩ := List.mem_map.1 hu
      rfl
    have HL := Lib.hid hl
    have hown0 : (w.alloc (.cells #[] 5)).ownsRow w.heap.size 5 1 (.slice (some ⟨w.heap.size, 0, none⟩) 0 0) 0 [] := World.ownsRow_made w #[] 0 (Nat.le_refl _) (Nat.zero_le _) rfl
    have HM : Hid ((0 + n) * 1 ≤ 140737488355328) := by show _ ≤ _; omega
    have HM2 : Hid (0 + n ≤ maxLen) := by show _ ≤ maxLen; simp only [maxLen]; omega
    clear hx hl
    go_enter Try.func42, Try.ntmps42
    go_wp2_with (at_builtin; refine wpList_append_own _ rfl _ _ 33 rfl w.heap.size 5 i (.int .u8 0) 1 1 Try.underlying33 hi hz hs hby rfl (by decide) _ 0 [] rfl hown0 a n c (Lib.byteCells bs) rfl HLN.out HC.out HO.out HM2.out HM.out (by simp) ?_)
    intro v2 w2 hown2 hgrow _
    have hl2 : Later w w2 := Below.grown ((Later.refl w).alloc _) hgrow (by simp) (by intro k hk; simp [Value.ownBlock] at hk; omega)
    have HO2 : Hid (w2.ownsRow w.heap.size 5 1 v2 bs.length (Lib.byteCells bs)) := by
      show w2.ownsRow _ _ _ _ _ _
      rw [HL.out]
      exact hown2
    clear hown2 hgrow
    go_wp2
    go_ret
    exact ⟨v2, rfl, HO2.out, hl2⟩

section
variable {w : World} {B m n c : Nat} {v : Value} {xs : List Value} {bs : Bs} {A : Option Addr}
/-- append onto a row of bytes of the call's own, from bytes that came in. -/
theorem wpList_append_bs {ops : Array Oper} {rest : List Oper} {o : Oper} {a : Act} {Q : Exit → Act → World → Prop} (hgd : o.guard = none) (s x : Operand)
    (ho : o.op = .call { callee := .builtin .append, args := #[s, x], argTypes := #[33, 33] })
    (hown : w.ownsRow B 5 1 v m xs) (hs : a.eval s = v) (hx : a.eval x = .slice A n c) (hbs : BsAt w A n bs) (hA : A = none → c = 0) (hnc : n ≤ c) (hb : m + n ≤ 1000000000) (hB : B ≤ w.heap.size)
    (h : ∀ v' w', w'.ownsRow B 5 1 v' (m + n) (xs ++ Lib.byteCells bs) → w.grownBy w' v.ownBlock → wpList Try.prog ops Q rest (a.put o.dst v') w') : wpList Try.prog ops Q (o :: rest) a w := by
  obtain ⟨i, hi, hz, hsz, hby⟩ := info_parts Try.byteInfo
  cases A with
  | none =>
    obtain rfl := hA rfl
    obtain rfl : n = 0 := by omega
    obtain rfl : bs = [] := List.eq_nil_of_length_eq_zero hbs.len
    exact wpList_append_own_none hgd s x 33 ho B 5 i 1 Try.underlying33 hi v m xs hs hown hx (h v w (by simpa [Lib.byteCells] using hown) ⟨rfl, rfl, rfl, Nat.le_refl _, fun _ _ _ => rfl⟩)
  | some ad =>
    refine wpList_append_own w hgd s x 33 ho B 5 i (.int .u8 0) 1 1 Try.underlying33 hi hz hsz hby rfl (by decide) v m xs hs hown ad n c (Lib.byteCells bs) hx (by simp [Lib.byteCells, hbs.len]) (fun j u hj => ?_) (fun u hu => ?_) (by simp only [maxLen]; omega) (by omega) hB (fun v' w' h1 h2 _ => h v' w' h1 h2)
    · unfold Lib.byteCells at hj
      rw [List.getElem?_map] at hj
      obtain ⟨y, hy, rfl⟩ := Option.map_eq_some_iff.1 hj
      have hjl := (List.getElem?_eq_some_iff.1 hy).1
      obtain ⟨b, o', e, hc⟩ := hbs.2 (by have := hbs.len; omega)
      cases e
      rw [plain_add]
      exact hc j y hy
    · obtain ⟨y, _, rfl⟩ := List.mem_map.1 hu
      rfl
end

end Go.Proofs.Ytknjkkdoeanhbaa
