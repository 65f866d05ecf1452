import Derived.Test.YtaonfedjilfgjaaPk2
import Derived.Deep.LoopGhost
import Derived.Deep.QuietTactic
import Derived.BigQuiet
import Derived.Test.YtaonfedjilfgjaaPk1
import Derived.Lib.Hide
import Derived.Lib.SliceRun
import Derived.Laws.AppendOwnNone

/-
  The device's small calls: op, has, Arm, Down, Ops, Pending, Count.
-/
namespace Go.Proofs.Ytaonfedjilfgjaa
open Go.RowKit

section
variable {W w : World} {S : Nat → Prop} {g : Nat} {d : DvP}
set_option maxRecDepth 100000 in
set_option maxHeartbeats 400000 in
theorem op_any (h : DevAt W w S g d) (ho : d.ops ≤ 1000000000) :
    Calls Try.prog 84 #[.pointer (some ⟨g, 0, none⟩)] w fun e w' => e = .returned (.int .i64 (opE d)) ∧ DevAt W w' S g (opP d) ∧ Chg (fun k => k = g) w w' := by
  obtain ⟨b, c, B, m, c2, hb, h1, hc, h2, hm, hc2, hr2, sb, bg, s2⟩ := h.parts
  have hok := h.ok
  have hlo := hok.lo; have hhi := hok.hi; have harm := hok.arm
  have q2 := hb.cell (i := 2) rfl; have q3 := hb.cell (i := 3) rfl; have q4 := hb.cell (i := 4) rfl; have q5 := hb.cell (i := 5) rfl
  simp only [List.getElem_toArray, List.getElem_cons_zero, List.getElem_cons_succ] at q2 q3 q4 q5
  have z2 := hb.frozen 2; have z4 := hb.frozen 4; have z5 := hb.frozen 5
  have HH := Lib.hid h
  have HB := Lib.hid hb
  have H1 := Lib.hid h1; have H2 := Lib.hid h2; have HS := Lib.hid s2
  have HOK := Lib.hid hok
  clear h hb h1 h2 s2 hr2 hm hc2 hok
  by_cases ha : d.armed = true
  · by_cases hl : d.left = 0
    · have e1 : opE d = 100 := by unfold opE; rw [if_pos ⟨ha, hl⟩]
      have e2 : opP d = { d with ops := d.ops + 1, down := true } := by unfold opP; rw [if_pos ha, if_pos hl]
      have E1 := Lib.hid e1; have E2 := Lib.hid e2
      clear e1 e2
      go_enter Try.func84, Try.ntmps84
      go_wp2
      go_ret
      rw [E1.out]
      have HC : Chg (fun k => k = g) w ((w.setCell ⟨g, 2, none⟩ (.int .i64 ((d.ops : Nat) + 1 : Int))).setCell ⟨g, 5, none⟩ (.bool true)) := (Chg.trans (chg_set w g 2 (.int .i64 ((d.ops : Nat) + 1 : Int))) (chg_set (w.setCell ⟨g, 2, none⟩ (.int .i64 ((d.ops : Nat) + 1 : Int))) g 5 (.bool true)) (fun _ e => .inl e))
      have hok2 := opP_ok HOK.out
      rw [E2.out] at hok2 ⊢
      refine ⟨rfl, ?_, HC⟩
      exact HH.out.box HC ((HB.out.set1 2 (.int .i64 ((d.ops : Nat) + 1 : Int))).set1 5 (.bool true)) H1.out H2.out (fun q hq => by cases hq; exact ⟨sb, bg⟩) (fun q hq => ⟨(HS.out q hq).1, (HS.out q hq).2.1⟩) hok2
    · have h0 : (d.left == 0) = false := by simpa using hl
      have e1 : opE d = 0 := by unfold opE; rw [if_neg (fun e => hl e.2)]
      have e2 : opP d = { d with ops := d.ops + 1, left := d.left - 1 } := by unfold opP; rw [if_pos ha, if_neg hl]
      have hge := harm ha
      have E1 := Lib.hid e1; have E2 := Lib.hid e2
      clear e1 e2
      go_enter Try.func84, Try.ntmps84
      go_wp2
      go_ret
      rw [E1.out]
      have HC : Chg (fun k => k = g) w ((w.setCell ⟨g, 2, none⟩ (.int .i64 ((d.ops : Nat) + 1 : Int))).setCell ⟨g, 4, none⟩ (.int .i64 (d.left - 1))) := (Chg.trans (chg_set w g 2 (.int .i64 ((d.ops : Nat) + 1 : Int))) (chg_set (w.setCell ⟨g, 2, none⟩ (.int .i64 ((d.ops : Nat) + 1 : Int))) g 4 (.int .i64 (d.left - 1))) (fun _ e => .inl e))
      have hok2 := opP_ok HOK.out
      rw [E2.out] at hok2 ⊢
      refine ⟨rfl, ?_, HC⟩
      exact HH.out.box HC ((HB.out.set1 2 (.int .i64 ((d.ops : Nat) + 1 : Int))).set1 4 (.int .i64 (d.left - 1))) H1.out H2.out (fun q hq => by cases hq; exact ⟨sb, bg⟩) (fun q hq => ⟨(HS.out q hq).1, (HS.out q hq).2.1⟩) hok2
  · have ha0 : d.armed = false := by simpa using ha
    have e1 : opE d = 0 := by unfold opE; rw [if_neg (fun e => ha e.1)]
    have e2 : opP d = { d with ops := d.ops + 1 } := by unfold opP; rw [if_neg ha]
    have E1 := Lib.hid e1; have E2 := Lib.hid e2
    clear e1 e2
    go_enter Try.func84, Try.ntmps84
    go_wp2
    go_ret
    rw [E1.out]
    have HC : Chg (fun k => k = g) w (w.setCell ⟨g, 2, none⟩ (.int .i64 ((d.ops : Nat) + 1 : Int))) := (chg_set w g 2 (.int .i64 ((d.ops : Nat) + 1 : Int)))
    have hok2 := opP_ok HOK.out
    rw [E2.out] at hok2 ⊢
    refine ⟨rfl, ?_, HC⟩
    exact HH.out.box HC (HB.out.set1 2 (.int .i64 ((d.ops : Nat) + 1 : Int))) H1.out H2.out (fun q hq => by cases hq; exact ⟨sb, bg⟩) (fun q hq => ⟨(HS.out q hq).1, (HS.out q hq).2.1⟩) hok2

set_option maxRecDepth 100000 in
set_option maxHeartbeats 400000 in
theorem has_any (h : DevAt W w S g d) (k : Int) :
    Calls Try.prog 83 #[.pointer (some ⟨g, 0, none⟩), .int .i64 k] w fun e w' => e = .returned (.bool (decide (0 ≤ k ∧ k < (d.bl.length : Int)))) ∧ w' = w := by
  obtain ⟨b, c, B, m, c2, hb, h1, hc, h2, hm, hc2, hr2, sb, bg, s2⟩ := h.parts
  have q0 := hb.cell (i := 0) rfl
  simp only [List.getElem_toArray, List.getElem_cons_zero] at q0
  have hmost := h.ok.most
  clear h hb h1 h2 s2 hr2 hm hc2
  by_cases hk : 0 ≤ k
  · have hd : decide (0 ≤ k) = true := by simpa using hk
    go_enter Try.func83, Try.ntmps83
    go_wp2
    go_ret
    refine ⟨?_, rfl⟩
    congr 2
    simp [hk]
  · have hd : decide (0 ≤ k) = false := by simpa using hk
    go_enter Try.func83, Try.ntmps83
    go_wp2
    go_ret
    refine ⟨?_, rfl⟩
    simp

set_option maxRecDepth 100000 in
set_option maxHeartbeats 400000 in
theorem countDev_any (h : DevAt W w S g d) :
    Calls Try.prog 49 #[.pointer (some ⟨g, 0, none⟩)] w fun e w' => e = .returned (.int .i64 (d.bl.length : Nat)) ∧ w' = w := by
  obtain ⟨b, c, B, m, c2, hb, h1, hc, h2, hm, hc2, hr2, sb, bg, s2⟩ := h.parts
  have q0 := hb.cell (i := 0) rfl
  simp only [List.getElem_toArray, List.getElem_cons_zero] at q0
  clear h hb h1 h2 s2 hr2 hc2
  go_enter Try.func49, Try.ntmps49
  go_wp2
  go_ret
  exact ⟨rfl, rfl⟩

set_option maxRecDepth 100000 in
set_option maxHeartbeats 400000 in
theorem pendingDev_any (h : DevAt W w S g d) :
    Calls Try.prog 48 #[.pointer (some ⟨g, 0, none⟩)] w fun e w' => e = .returned (.int .i64 (d.row.length : Nat)) ∧ w' = w := by
  obtain ⟨b, c, B, m, c2, hb, h1, hc, h2, hm, hc2, hr2, sb, bg, s2⟩ := h.parts
  have q1 := hb.cell (i := 1) rfl
  simp only [List.getElem_toArray, List.getElem_cons_zero, List.getElem_cons_succ] at q1
  subst hm
  clear h hb h1 h2 s2 hr2 hc2
  go_enter Try.func48, Try.ntmps48
  go_wp2
  go_ret
  exact ⟨rfl, rfl⟩

set_option maxRecDepth 100000 in
set_option maxHeartbeats 400000 in
theorem opsDev_any (h : DevAt W w S g d) :
    Calls Try.prog 31 #[.pointer (some ⟨g, 0, none⟩)] w fun e w' => e = .returned (.int .i64 (d.ops : Nat)) ∧ w' = w := by
  obtain ⟨b, c, B, m, c2, hb, h1, hc, h2, hm, hc2, hr2, sb, bg, s2⟩ := h.parts
  have q2 := hb.cell (i := 2) rfl
  simp only [List.getElem_toArray, List.getElem_cons_zero, List.getElem_cons_succ] at q2
  clear h hb h1 h2 s2 hr2 hc2
  go_enter Try.func31, Try.ntmps31
  go_wp2
  go_ret
  exact ⟨rfl, rfl⟩

set_option maxRecDepth 100000 in
set_option maxHeartbeats 400000 in
theorem downDev_any (h : DevAt W w S g d) :
    Calls Try.prog 24 #[.pointer (some ⟨g, 0, none⟩)] w fun e w' => e = .returned (.bool d.down) ∧ w' = w := by
  obtain ⟨b, c, B, m, c2, hb, h1, hc, h2, hm, hc2, hr2, sb, bg, s2⟩ := h.parts
  have q5 := hb.cell (i := 5) rfl
  simp only [List.getElem_toArray, List.getElem_cons_zero, List.getElem_cons_succ] at q5
  clear h hb h1 h2 s2 hr2 hc2
  go_enter Try.func24, Try.ntmps24
  go_wp2
  go_ret
  exact ⟨rfl, rfl⟩

set_option maxRecDepth 100000 in
set_option maxHeartbeats 400000 in
theorem armDev_any (h : DevAt W w S g d) (n : Int) (h0 : -9223372036854775808 ≤ n) (h1' : n ≤ 9223372036854775807) :
    Calls Try.prog 38 #[.pointer (some ⟨g, 0, none⟩), .int .i64 n] w fun e w' => e = .returned (.tuple #[]) ∧ DevAt W w' S g (armP d n) ∧ Chg (fun k => k = g) w w' := by
  obtain ⟨b, c, B, m, c2, hb, h1, hc, h2, hm, hc2, hr2, sb, bg, s2⟩ := h.parts
  have hok := armP_ok h.ok h0 h1'
  have z3 := hb.frozen 3; have z4 := hb.frozen 4
  have q3 := hb.cell (i := 3) rfl; have q4 := hb.cell (i := 4) rfl
  simp only [List.getElem_toArray, List.getElem_cons_zero, List.getElem_cons_succ] at q3 q4
  have HH := Lib.hid h
  have HB := Lib.hid hb
  have H1 := Lib.hid h1; have H2 := Lib.hid h2; have HS := Lib.hid s2
  have HOK := Lib.hid hok
  clear h hb h1 h2 s2 hr2 hm hc2 hok
  go_enter Try.func38, Try.ntmps38
  go_wp2
  go_end0
  have HC : Chg (fun k => k = g) w ((w.setCell ⟨g, 3, none⟩ (.bool (decide (0 ≤ n)))).setCell ⟨g, 4, none⟩ (.int .i64 n)) := Chg.trans (chg_set w g 3 _) (chg_set _ g 4 _) (fun _ e => .inl e)
  exact ⟨rfl, HH.out.box HC ((HB.out.set1 3 (.bool (decide (0 ≤ n)))).set1 4 (.int .i64 n)) H1.out H2.out (fun q hq => by cases hq; exact ⟨sb, bg⟩) (fun q hq => ⟨(HS.out q hq).1, (HS.out q hq).2.1⟩) HOK.out, HC⟩
end

end Go.Proofs.Ytaonfedjilfgjaa

/-
  slices.Clone at []byte, as a call; a row of bytes of the call's own.
-/
namespace Go.Proofs.Ytaonfedjilfgjaa
open Go.RowKit

section
variable {w w' : World} {B n : Nat} {v : Value} {bs : Bs}
theorem own_bs (h : w.ownsRow B 5 1 v n (Lib.byteCells bs)) : ∃ A c, v = .slice A n c ∧ n ≤ c ∧ (A = none → c = 0) ∧ BsAt w A n bs := by
  have hl : bs.length = n := by have := h.1; simpa [Lib.byteCells] using this
  rcases h.2 with ⟨hv, h0⟩ | ⟨b, cap, cur, hv, hb, hh, hnc, hm, hs, ht⟩
  · subst h0
    have e : bs = [] := List.eq_nil_of_length_eq_zero hl
    subst e
    exact ⟨none, 0, hv, Nat.le_refl _, fun _ => rfl, BsAt.none _ _⟩
  · refine ⟨some ⟨b, 0, none⟩, cap, hv, hnc, (fun e => by cases e), ⟨hl, fun _ => ⟨b, 0, rfl, fun j x hj => ?_⟩⟩⟩
    have hc := h.cells (g := b) (by rw [hv]; rfl) j (.int .u8 (x.toNat : Int)) (by unfold Lib.byteCells; rw [List.getElem?_map, hj]; rfl)
    rw [plain_add] at hc
    exact hc
end

set_option maxRecDepth 100000 in
set_option maxHeartbeats 800000 in
theorem clone9_any (A : Option Addr) (n c : Nat) (bs : Bs) (w : World) (hx : BsAt w A n bs) (hA : A = none → c = 0) (hnc : n ≤ c) (hn : n ≤ 1000000000) :
    Calls Try.prog 85 #[.slice A n c] w fun e w' => ∃ v, e = .returned v ∧ w'.ownsRow w.heap.size 5 1 v bs.length (Lib.byteCells bs) ∧ Later w w' := by
  have q29 : ∀ (w : World) (a : Option Addr) (n c n' c' : Nat), (binOp .eql 33 (.slice a n c) (.slice none n' c')).run Try.prog w = .ok (.bool a.isNone) w := fun w a n c n' c' => Lib.run_eql_slice_nil w _ _ a n c n' c' Try.underlying33
  have hl := hx.len
  cases A with
  | none =>
    obtain rfl := hA rfl
    obtain rfl : n = 0 := by omega
    obtain rfl : bs = [] := List.eq_nil_of_length_eq_zero hl
    clear hx
    go_enter Try.func85, Try.ntmps85
    go_wp2
    go_ret
    exact ⟨_, rfl, World.ownsRow_nil _ _ _ _, Later.refl _⟩
  | some a =>
    obtain ⟨i, hi, hz, hs, hby⟩ := info_parts Try.byteInfo
    have HC : Hid (∀ (j : Nat) u, (Lib.byteCells bs)[j]? = some u → (w.alloc (.cells #[] 5)).cell? (a.add j) = some u) := fun j u hj => by
      have hjl : j < (Lib.byteCells bs).length := (List.getElem?_eq_some_iff.1 hj).1
      simp only [Lib.byteCells, List.length_map] at hjl
      unfold Lib.byteCells at hj
      rw [List.getElem?_map] at hj
      obtain ⟨x, hx1, rfl⟩ := Option.map_eq_some_iff.1 hj
      obtain ⟨b, o, e, hc⟩ := hx.2 (by omega)
      cases e
      rw [plain_add]
      exact ((Later.refl w).alloc _).cell (hc j x hx1)
    have HLN : Hid ((Lib.byteCells bs).length = n * 1) := by show _ = _; simp [Lib.byteCells, hl]
    have HO : Hid (∀ u ∈ Lib.byteCells bs, u.oneCell' = true) := fun u hu => by
      obtain ⟨x, _, rfl⟩ := List.mem_map.1 hu
      rfl
    have HL := Lib.hid hl
    have hown0 : (w.alloc (.cells #[] 5)).ownsRow w.heap.size 5 1 (.slice (some ⟨w.heap.size, 0, none⟩) 0 0) 0 [] := World.ownsRow_made w #[] 0 (Nat.le_refl _) (Nat.zero_le _) rfl
    have HM : Hid ((0 + n) * 1 ≤ 140737488355328) := by show _ ≤ _; omega
    have HM2 : Hid (0 + n ≤ maxLen) := by show _ ≤ maxLen; simp only [maxLen]; omega
    clear hx hl
    go_enter Try.func85, Try.ntmps85
    go_wp2_with (at_builtin; refine wpList_append_own _ rfl _ _ 33 rfl w.heap.size 5 i (.int .u8 0) 1 1 Try.underlying33 hi hz hs hby rfl (by decide) _ 0 [] rfl hown0 a n c (Lib.byteCells bs) rfl HLN.out HC.out HO.out HM2.out HM.out (by simp) ?_)
    intro v2 w2 hown2 hgrow _
    have hl2 : Later w w2 := Below.grown ((Later.refl w).alloc _) hgrow (by simp) (by intro k hk; simp [Value.ownBlock] at hk; omega)
    have HO2 : Hid (w2.ownsRow w.heap.size 5 1 v2 bs.length (Lib.byteCells bs)) := by
      show w2.ownsRow _ _ _ _ _ _
      rw [HL.out]
      exact hown2
    clear hown2 hgrow
    go_wp2
    go_ret
    exact ⟨v2, rfl, HO2.out, hl2⟩

section
variable {w : World} {B m n c : Nat} {v : Value} {xs : List Value} {bs : Bs} {A : Option Addr}
/-- append onto a row of bytes of the call's own, from bytes that came in. -/
theorem wpList_append_bs {ops : Array Oper} {rest : List Oper} {o : Oper} {a : Act} {Q : Exit → Act → World → Prop} (hgd : o.guard = none) (s x : Operand)
    (ho : o.op = .call { callee := .builtin .append, args := #[s, x], argTypes := #[33, 33] })
    (hown : w.ownsRow B 5 1 v m xs) (hs : a.eval s = v) (hx : a.eval x = .slice A n c) (hbs : BsAt w A n bs) (hA : A = none → c = 0) (hnc : n ≤ c) (hb : m + n ≤ 1000000000) (hB : B ≤ w.heap.size)
    (h : ∀ v' w', w'.ownsRow B 5 1 v' (m + n) (xs ++ Lib.byteCells bs) → w.grownBy w' v.ownBlock → wpList Try.prog ops Q rest (a.put o.dst v') w') : wpList Try.prog ops Q (o :: rest) a w := by
  obtain ⟨i, hi, hz, hsz, hby⟩ := info_parts Try.byteInfo
  cases A with
  | none =>
    obtain rfl := hA rfl
    obtain rfl : n = 0 := by omega
    obtain rfl : bs = [] := List.eq_nil_of_length_eq_zero hbs.len
    exact wpList_append_own_none hgd s x 33 ho B 5 i 1 Try.underlying33 hi v m xs hs hown hx (h v w (by simpa [Lib.byteCells] using hown) ⟨rfl, rfl, rfl, Nat.le_refl _, fun _ _ _ => rfl⟩)
  | some ad =>
    refine wpList_append_own w hgd s x 33 ho B 5 i (.int .u8 0) 1 1 Try.underlying33 hi hz hsz hby rfl (by decide) v m xs hs hown ad n c (Lib.byteCells bs) hx (by simp [Lib.byteCells, hbs.len]) (fun j u hj => ?_) (fun u hu => ?_) (by simp only [maxLen]; omega) (by omega) hB (fun v' w' h1 h2 _ => h v' w' h1 h2)
    · unfold Lib.byteCells at hj
      rw [List.getElem?_map] at hj
      obtain ⟨y, hy, rfl⟩ := Option.map_eq_some_iff.1 hj
      have hjl := (List.getElem?_eq_some_iff.1 hy).1
      obtain ⟨b, o', e, hc⟩ := hbs.2 (by have := hbs.len; omega)
      cases e
      rw [plain_add]
      exact hc j y hy
    · obtain ⟨y, _, rfl⟩ := List.mem_map.1 hu
      rfl
end

end Go.Proofs.Ytaonfedjilfgjaa

/-
  The device's Read and Flush, and formOf, as calls.
-/
namespace Go.Proofs.Ytaonfedjilfgjaa
open Go.RowKit

def readE (d : DvP) (k : Int) : Int := if d.down = true then 100 else if 0 ≤ k ∧ k < (d.bl.length : Int) then 0 else 101
def readB (d : DvP) (k : Int) : Bs := if d.down = true then [] else if 0 ≤ k ∧ k < (d.bl.length : Int) then d.bl.getD k.toNat [] else []
section
variable {W w : World} {S : Nat → Prop} {g : Nat} {d : DvP}
/-- A block, as a slice of it reads. -/
theorem bs_block {e : TypeId} {b o n c : Nat} {d : DvP} (h : OwnK e 64 W w (.slice (some ⟨b, o, none⟩) n c) (blL d)) (hok : DvOk d) {j : Nat} (hj : j < d.bl.length) : BsAt w (some ⟨b, j * 64, none⟩) 64 (d.bl.getD j []) := by
  have hz : d.bl.getD j [] = d.bl[j] := by simp [List.getD, hj]
  rw [hz]
  refine ⟨hok.size _ (List.getElem_mem hj), fun _ => ⟨b, j * 64, rfl, fun i x hx => ?_⟩⟩
  have hr := h.range (j := j) (cs := Lib.byteCells d.bl[j]) (by simp [blL, hj])
  exact hr i _ (by unfold Lib.byteCells; rw [List.getElem?_map, hx]; rfl)
set_option maxRecDepth 100000 in
set_option maxHeartbeats 400000 in
theorem readDev_any (h : DevAt W w S g d) (k : Int) :
    Calls Try.prog 46 #[.pointer (some ⟨g, 0, none⟩), .int .i64 k] w fun e w' => ∃ v, e = .returned (.tuple #[v, .int .i64 (readE d k)]) ∧ w'.ownsRow w.heap.size 5 1 v (readB d k).length (Lib.byteCells (readB d k)) ∧ Later w w' := by
  obtain ⟨b, c, B, m, c2, hb, h1, hc, h2, hm, hc2, hr2, sb, bg, s2⟩ := h.parts
  have HHA := Lib.hid (has_any h k)
  have q0 := hb.cell (i := 0) rfl; have q5 := hb.cell (i := 5) rfl
  simp only [List.getElem_toArray, List.getElem_cons_zero, List.getElem_cons_succ] at q0 q5
  have hmost := h.ok.most
  have hok := Lib.hid h.ok
  have H1 := Lib.hid h1
  clear h hb h1 h2 s2 hr2 hm hc2
  by_cases hd : d.down = true
  · have e1 : readE d k = 100 := by unfold readE; rw [if_pos hd]
    have e2 : readB d k = [] := by unfold readB; rw [if_pos hd]
    rw [e1, e2]
    clear e1 e2
    go_enter Try.func46, Try.ntmps46
    go_wp2
    go_ret2
    exact ⟨_, rfl, World.ownsRow_nil _ _ _ _, Later.refl w⟩
  · have hd0 : d.down = false := by simpa using hd
    by_cases hk : 0 ≤ k ∧ k < (d.bl.length : Int)
    · obtain ⟨j, rfl⟩ := Int.eq_ofNat_of_zero_le hk.1
      have hj : j < d.bl.length := by omega
      have e1 : readE d j = 0 := by unfold readE; rw [if_neg hd, if_pos hk]
      have e2 : readB d j = d.bl.getD j [] := by unfold readB; rw [if_neg hd, if_pos hk]; rfl
      have e3 : decide (0 ≤ (j : Int) ∧ (j : Int) < (d.bl.length : Int)) = true := by simpa using hk
      rw [e1, e2]
      rw [e3] at HHA
      have HC := Lib.hid (clone9_any (some ⟨b, j * 64, none⟩) 64 64 _ w (bs_block H1.out hok.out hj) (fun e => by cases e) (Nat.le_refl _) (by decide))
      clear e1 e2 e3 hk
      go_enter Try.func46, Try.ntmps46
      go_wp2_with fail
      refine HHA.out.mono ?_
      rintro e w1 ⟨rfl, rfl⟩
      go_wp2_with fail
      refine HC.out.mono ?_
      rintro e w2 ⟨v, rfl, ho, hl⟩
      have HO := Lib.hid ho
      clear ho
      go_wp2
      go_ret2
      exact ⟨v, rfl, HO.out, hl⟩
    · have e1 : readE d k = 101 := by unfold readE; rw [if_neg hd, if_neg hk]
      have e2 : readB d k = [] := by unfold readB; rw [if_neg hd, if_neg hk]
      have e3 : decide (0 ≤ k ∧ k < (d.bl.length : Int)) = false := by simpa using hk
      rw [e1, e2]
      rw [e3] at HHA
      clear e1 e2 e3 hk
      go_enter Try.func46, Try.ntmps46
      go_wp2_with fail
      refine HHA.out.mono ?_
      rintro e w1 ⟨rfl, rfl⟩
      go_wp2
      go_ret2
      exact ⟨_, rfl, World.ownsRow_nil _ _ _ _, Later.refl _⟩

set_option maxRecDepth 100000 in
set_option maxHeartbeats 400000 in
theorem flushDev_any (h : DevAt W w S g d) (ho : d.ops ≤ 1000000000) :
    Calls Try.prog 47 #[.pointer (some ⟨g, 0, none⟩)] w fun e w' => e = .returned (.int .i64 (flushP d).2) ∧ DevAt W w' S g (flushP d).1 ∧ Chg (fun k => k = g) w w' := by
  have HOP := Lib.hid (op_any h ho)
  have hok := Lib.hid (flushP_ok h.ok)
  have q5 : w.cell? ⟨g, 5, none⟩ = some (.bool d.down) := by
    obtain ⟨b, c, B, m, c2, hb, _⟩ := h.parts
    exact hb.cell rfl
  by_cases hd : d.down = true
  · have e1 : flushP d = (d, 100) := by unfold flushP; rw [if_pos hd]
    rw [e1]
    have HH := Lib.hid h
    clear e1 h
    go_enter Try.func47, Try.ntmps47
    go_wp2
    go_ret
    exact ⟨rfl, HH.out, Chg.refl _ w⟩
  · have hd0 : d.down = false := by simpa using hd
    clear h
    by_cases ha : d.armed = true ∧ d.left = 0
    · have e1 : flushP d = (opP d, 100) := by unfold flushP; rw [if_neg hd, if_pos ha]
      have e2 : opE d = 100 := by unfold opE; rw [if_pos ha]
      rw [e1]
      rw [e2] at HOP
      clear e1 e2 ha
      go_enter Try.func47, Try.ntmps47
      go_wp2_with fail
      refine HOP.out.mono ?_
      rintro e w1 ⟨rfl, h1, hc⟩
      have H1 := Lib.hid h1
      clear h1
      go_wp2
      go_ret
      exact ⟨rfl, H1.out, hc⟩
    · have e1 : flushP d = ({ opP d with row := [] }, 0) := by unfold flushP; rw [if_neg hd, if_neg ha]
      have e2 : opE d = 0 := by unfold opE; rw [if_neg ha]
      rw [e1] at hok ⊢
      rw [e2] at HOP
      clear e1 e2 ha
      go_enter Try.func47, Try.ntmps47
      go_wp2_with fail
      refine HOP.out.mono ?_
      rintro e w1 ⟨rfl, h1, hc⟩
      obtain ⟨b, c, B, m, c2, hb, g1, _, g2, _, _, _, sb, bg, s2⟩ := h1.parts
      have q1 := hb.cell (i := 1) rfl; have z1 := hb.frozen 1
      have H1 := Lib.hid h1; have HB := Lib.hid hb; have G1 := Lib.hid g1
      clear h1 hb g1 g2 s2 q5
      go_wp2
      go_ret
      have HC := chg_set w1 g 1 (.slice none 0 0)
      refine ⟨rfl, ?_, hc.trans HC fun _ e => .inl e⟩
      exact H1.out.box HC (HB.out.set1 1 (.slice none 0 0)) G1.out (OwnK.nil H1.out.base) (fun q hq => by cases hq; exact ⟨sb, bg⟩) (fun q hq => by cases hq) hok.out

/-- A row of numbers that came in. -/
def IntsAt (w : World) (A : Option Addr) (n : Nat) (xs : List Int) : Prop := xs.length = n ∧ (0 < n → ∃ b o, A = some ⟨b, o, .none⟩ ∧ ∀ (j : Nat) x, xs[j]? = some x → w.cell? ⟨b, o + j, .none⟩ = some (.int .i64 x))
set_option maxRecDepth 100000 in
set_option maxHeartbeats 400000 in
theorem formOf_any (A : Option Addr) (n c : Nat) (xs : List Int) (k : Nat) (w : World) (hx : IntsAt w A n xs) (hn : n ≤ 1000000000) (hr : ∀ x ∈ xs, -9223372036854775808 ≤ x ∧ x ≤ 9223372036854775807) :
    Calls Try.prog 57 #[.slice A n c, .int .i64 (k : Nat)] w fun e w' => e = .returned (.int .i64 (formB xs k : Nat)) ∧ w' = w := by
  by_cases h0 : n = 0
  · subst h0
    have e1 : formB xs k = 0 := by unfold formB; rw [if_pos (List.eq_nil_of_length_eq_zero hx.1)]
    rw [e1]
    clear e1 hx hr
    go_enter Try.func57, Try.ntmps57
    go_wp2
    go_ret
    exact ⟨rfl, rfl⟩
  · obtain ⟨b, o, rfl, hc⟩ := hx.2 (by omega)
    have hlt : k % n < n := Nat.mod_lt _ (by omega)
    have hl := hx.1
    have hz : xs[k % n]? = some (xs[k % n]'(by omega)) := List.getElem?_eq_getElem _
    have hcell := hc _ _ hz
    have hb := hr _ (List.mem_of_getElem? hz)
    have e1 : formB xs k = (max 0 (xs[k % n]'(by omega))).toNat % 4 := by
      unfold formB
      rw [if_neg (by rintro rfl; exact h0 hl.symm)]
      subst hl
      simp only [List.getD, hz, Option.getD_some]
    rw [e1]
    obtain ⟨x, hxe⟩ : ∃ x, x = xs[k % n]'(by omega) := ⟨_, rfl⟩
    rw [← hxe] at hcell hb ⊢
    clear hxe e1 hz hx hr hc hl
    obtain ⟨q, hq⟩ : ∃ q, q = k % n := ⟨_, rfl⟩
    rw [← hq] at hcell hlt
    have hrem : ((k : Nat) : Int).tmod ((n : Nat) : Int) = (q : Nat) := by rw [hq]; rfl
    clear hq
    go_enter Try.func57, Try.ntmps57
    go_wp2
    all_goals go_ret
    all_goals exact ⟨ret_int (by omega), rfl⟩
end

end Go.Proofs.Ytaonfedjilfgjaa

/-
  What follows of a device, plain: what a row of calls leaves; what a crash leaves.
-/
namespace Go.Proofs.Ytaonfedjilfgjaa

section
variable {d : DvP} {bl f : List Bs} {row : List WrP} {x : WrP}
theorem backP_snoc (x : WrP) : ∀ (row : List WrP) (bl : List Bs), backP bl (row ++ [x]) = backP (bl.set x.pl x.was) row
  | [], bl => rfl
  | y :: row, bl => by
    rw [List.cons_append, backP, backP_snoc x row bl, backP]
theorem formsP_snoc (fs : List Int) (x : WrP) : ∀ (row : List WrP) (k : Nat) (bl : List Bs), formsP fs k (row ++ [x]) bl = takeB (formsP fs k row bl) x (formB fs (k + row.length))
  | [], k, bl => rfl
  | y :: row, k, bl => by
    rw [List.cons_append, formsP, formsP_snoc fs x row (k + 1), formsP, List.length_cons]
    congr 2
    omega
theorem form_lost (k : Nat) : formB [0] k = 0 := by
  unfold formB
  rw [if_neg (by decide)]
  simp [Nat.mod_one]
theorem form_kept (k : Nat) : formB [1] k = 1 := by
  unfold formB
  rw [if_neg (by decide)]
  show (max 0 (([1] : List Int).getD (k % 1) 0)).toNat % 4 = 1
  rw [Nat.mod_one]
  rfl
theorem formsP_lost : ∀ (row : List WrP) (k : Nat) (bl : List Bs), formsP [0] k row bl = bl
  | [], _, _ => rfl
  | x :: row, k, bl => by
    rw [formsP, form_lost, formsP_lost row]
    unfold takeB mixB
    rw [if_neg (by decide), if_neg (by decide), if_neg (by decide)]
    by_cases h : x.pl < bl.length
    · simp [List.getD, h]
    · rw [List.set_eq_of_length_le (by omega)]
/-- What stands between the calls of a row: what was flushed, and that all that was written since is there. -/
structure LostI (d : DvP) (f : List Bs) : Prop where
  back : backP d.bl d.row = f
  again : formsP [1] 0 d.row f = d.bl
theorem LostI.first (n : Nat) : LostI (newP n) (newP n).bl := ⟨rfl, rfl⟩
theorem LostI.same {d' : DvP} (h : LostI d f) (h1 : d'.bl = d.bl) (h2 : d'.row = d.row) : LostI d' f := ⟨by rw [h1, h2]; exact h.back, by rw [h1, h2]; exact h.again⟩
theorem opP_bl (d : DvP) : (opP d).bl = d.bl ∧ (opP d).row = d.row := by
  unfold opP
  split
  · split <;> exact ⟨rfl, rfl⟩
  · exact ⟨rfl, rfl⟩
theorem opP_ops (d : DvP) : (opP d).ops = d.ops + 1 := by
  unfold opP
  split
  · split <;> rfl
  · rfl
theorem LostI.put (h : LostI d f) {k : Nat} (hk : k < d.bl.length) (b : Bs) : LostI (putP d k b) f := by
  refine ⟨?_, ?_⟩
  · show backP (d.bl.set k (fillB b)) (d.row ++ [⟨k, d.bl.getD k [], fillB b⟩]) = f
    rw [backP_snoc]
    have e : (d.bl.set k (fillB b)).set k (d.bl.getD k []) = d.bl := by
      rw [List.set_set]
      simp [List.getD, hk]
    show backP ((d.bl.set k (fillB b)).set k (d.bl.getD k [])) d.row = f
    rw [e]
    exact h.back
  · show formsP [1] 0 (d.row ++ [⟨k, d.bl.getD k [], fillB b⟩]) f = d.bl.set k (fillB b)
    rw [formsP_snoc, form_kept, h.again]
    rfl
theorem LostI.write (h : LostI d f) (k : Int) (b : Bs) : LostI (writeP d k b).1 f := by
  unfold writeP
  split
  · exact h
  · split
    · exact h
    · rename_i h1 h2
      exact (h.put (k := k.toNat) (by omega) b).same (opP_bl _).1 (opP_bl _).2
theorem LostI.flush (h : LostI d f) : (flushP d).2 ≠ 0 ∧ LostI (flushP d).1 f ∨ (flushP d).2 = 0 ∧ LostI (flushP d).1 (flushP d).1.bl := by
  unfold flushP
  split
  · exact .inl ⟨by show (100 : Int) ≠ 0; decide, h⟩
  · split
    · exact .inl ⟨by show (100 : Int) ≠ 0; decide, h.same (opP_bl _).1 (opP_bl _).2⟩
    · exact .inr ⟨rfl, rfl, rfl⟩
theorem crash_lost (h : LostI d f) : (crashP d [0]).bl = f := by
  show formsP [0] 0 d.row (backP d.bl d.row) = f
  rw [formsP_lost, h.back]
theorem crash_kept (h : LostI d f) : (crashP d [1]).bl = d.bl := by
  show formsP [1] 0 d.row (backP d.bl d.row) = d.bl
  rw [h.back, h.again]
/-- What is armed, and what is down, behind that many ops. -/
structure DownI (n : Int) (d : DvP) : Prop where
  down : d.down = decide (0 ≤ n ∧ n < (d.ops : Int))
  armed : d.armed = decide (0 ≤ n)
  left : 0 ≤ n → d.down = false → d.left = n - (d.ops : Int)
theorem DownI.first (m : Nat) (n : Int) : DownI n (armP (newP m) n) := by
  refine ⟨?_, rfl, fun _ _ => ?_⟩
  · show false = decide (0 ≤ n ∧ n < ((0 : Nat) : Int))
    symm
    rw [decide_eq_false_iff_not]
    omega
  · show n = n - ((0 : Nat) : Int)
    omega
theorem DownI.op {n : Int} (h : DownI n d) (hd : d.down = false) : DownI n (opP d) ∧ ((opP d).down = true ↔ opE d = 100) ∧ (opE d = 100 ∨ opE d = 0) := by
  have h1 := h.down
  rw [hd] at h1
  have h1' : ¬ (0 ≤ n ∧ n < (d.ops : Int)) := of_decide_eq_false h1.symm
  unfold opP opE
  by_cases ha : d.armed = true
  · have hn : 0 ≤ n := by have := h.armed; rw [ha] at this; exact of_decide_eq_true this.symm
    have hl := h.left hn hd
    rw [if_pos ha]
    by_cases h0 : d.left = 0
    · rw [if_pos h0, if_pos ⟨ha, h0⟩]
      refine ⟨⟨?_, h.armed, fun _ e => by cases e⟩, ⟨fun _ => rfl, fun _ => rfl⟩, .inl rfl⟩
      show true = decide (0 ≤ n ∧ n < ((d.ops + 1 : Nat) : Int))
      symm
      rw [decide_eq_true_eq]
      omega
    · rw [if_neg h0, if_neg (fun e => h0 e.2)]
      refine ⟨⟨?_, h.armed, fun _ _ => ?_⟩, ⟨fun e => ?_, fun e => by cases e⟩, .inr rfl⟩
      · show d.down = decide (0 ≤ n ∧ n < ((d.ops + 1 : Nat) : Int))
        rw [hd]
        symm
        rw [decide_eq_false_iff_not]
        omega
      · show d.left - 1 = n - ((d.ops + 1 : Nat) : Int)
        omega
      · have e' : d.down = true := e
        rw [hd] at e'
        cases e'
  · have hn : ¬ 0 ≤ n := by
      intro hn
      have := h.armed
      rw [decide_eq_true hn] at this
      exact ha this
    rw [if_neg ha, if_neg (fun e => ha e.1)]
    refine ⟨⟨?_, h.armed, fun h0 => absurd h0 hn⟩, ⟨fun e => ?_, fun e => by cases e⟩, .inr rfl⟩
    · show d.down = decide (0 ≤ n ∧ n < ((d.ops + 1 : Nat) : Int))
      rw [hd]
      symm
      rw [decide_eq_false_iff_not]
      omega
    · have e' : d.down = true := e
      rw [hd] at e'
      cases e'
theorem DownI.same {n : Int} {d' : DvP} (h : DownI n d) (h1 : d'.down = d.down) (h2 : d'.ops = d.ops) (h3 : d'.armed = d.armed) (h4 : d'.left = d.left) : DownI n d' := ⟨by rw [h1, h2]; exact h.down, by rw [h3]; exact h.armed, by rw [h1, h2, h4]; exact h.left⟩
/-- What a call of a row of writes and flushes leaves, and what it tells. -/
structure StepI (n : Int) (d : DvP) (r : DvP × Int) : Prop where
  inv : DownI n r.1
  stay : d.down = true → r = (d, 100)
  told : d.down = false → (r.1.down = true ↔ r.2 = 100)
  ops : r.1.ops ≤ d.ops + 1
  row : r.1.row.length ≤ d.row.length + 1
theorem DownI.write {n : Int} (h : DownI n d) (k : Int) (b : Bs) : StepI n d (writeP d k b) := by
  unfold writeP
  by_cases hd : d.down = true
  · rw [if_pos hd]
    exact ⟨h, fun _ => rfl, (fun e => by rw [hd] at e; cases e), by dsimp only; omega, by dsimp only; omega⟩
  · have hd0 : d.down = false := by simpa using hd
    rw [if_neg hd]
    split
    · exact ⟨h, (fun e => absurd e hd), (fun _ => ⟨fun e => absurd e hd, fun e => by cases e⟩), by dsimp only; omega, by dsimp only; omega⟩
    · have hp : DownI n (putP d k.toNat b) := h.same rfl rfl rfl rfl
      obtain ⟨h1, h2, _⟩ := hp.op hd0
      refine ⟨h1, (fun e => absurd e hd), fun _ => h2, ?_, ?_⟩
      · show (opP (putP d k.toNat b)).ops ≤ _
        rw [opP_ops]
        exact Nat.le_refl _
      · show (opP (putP d k.toNat b)).row.length ≤ _
        rw [(opP_bl _).2]
        simp [putP]
theorem DownI.flush {n : Int} (h : DownI n d) : StepI n d (flushP d) := by
  unfold flushP
  by_cases hd : d.down = true
  · rw [if_pos hd]
    exact ⟨h, fun _ => rfl, (fun e => by rw [hd] at e; cases e), by dsimp only; omega, by dsimp only; omega⟩
  · have hd0 : d.down = false := by simpa using hd
    rw [if_neg hd]
    obtain ⟨h1, h2, _⟩ := h.op hd0
    by_cases ha : d.armed = true ∧ d.left = 0
    · rw [if_pos ha]
      have e : opE d = 100 := by unfold opE; rw [if_pos ha]
      refine ⟨h1, (fun e => absurd e hd), fun _ => ⟨fun _ => rfl, fun _ => h2.2 e⟩, ?_, ?_⟩
      · dsimp only; rw [opP_ops]; exact Nat.le_refl _
      · dsimp only; rw [(opP_bl _).2]; omega
    · rw [if_neg ha]
      have e : opE d = 0 := by unfold opE; rw [if_neg ha]
      have h3 : (opP d).down = false := by
        cases hq : (opP d).down with
        | false => rfl
        | true => have := h2.1 hq; rw [e] at this; cases this
      refine ⟨h1.same rfl rfl rfl rfl, (fun e => absurd e hd), fun _ => ⟨fun e' => ?_, fun e' => by cases e'⟩, ?_, ?_⟩
      · have e2 : (opP d).down = true := e'
        rw [h3] at e2
        cases e2
      · show (opP d).ops ≤ _
        rw [opP_ops]
        exact Nat.le_refl _
      · show (0 : Nat) ≤ _
        exact Nat.zero_le _
end

end Go.Proofs.Ytaonfedjilfgjaa

/-
  Scripts of calls in memory: rows of structures, each with a row of bytes and a row of numbers.
-/
namespace Go.Proofs.Ytaonfedjilfgjaa
open Go.RowKit

/-- A call, and where its rows stand. -/
structure OpC where
  kind : Int
  k : Int
  A : Option Addr
  n : Nat
  c : Nat
  bs : Bs
  F : Option Addr
  m : Nat
  e : Nat
  fs : List Int
def opL (x : OpC) : List Value := [.int .i64 x.kind, .int .i64 x.k, .slice x.A x.n x.c, .slice x.F x.m x.e]
structure OpOk (w : World) (x : OpC) : Prop where
  bytes : BsAt w x.A x.n x.bs
  forms : IntsAt w x.F x.m x.fs
  room : x.n ≤ x.c
  room2 : x.m ≤ x.e
  klo : -9223372036854775808 ≤ x.k
  khi : x.k ≤ 9223372036854775807
  range : ∀ z ∈ x.fs, -9223372036854775808 ≤ z ∧ z ≤ 9223372036854775807
def weighO (xs : List OpC) : Nat := (xs.map fun x => x.n + x.m).sum
/-- What is asked of a script that comes in. -/
structure Script (w : World) (A : Option Addr) (n : Nat) (xs : List OpC) : Prop where
  row : RowK 4 w A n (xs.map opL)
  each : ∀ x ∈ xs, OpOk w x
  weigh : weighO xs + n ≤ 1048576
section
variable {w w' : World} {x : OpC} {xs : List OpC} {A : Option Addr} {n : Nat}
theorem OpOk.later (h : OpOk w x) (hl : Later w w') : OpOk w' x :=
  ⟨h.bytes.later hl, ⟨h.forms.1, fun hn => by
    obtain ⟨b, o, e, hc⟩ := h.forms.2 hn
    exact ⟨b, o, e, fun j z hz => hl.cell (hc j z hz)⟩⟩, h.room, h.room2, h.klo, h.khi, h.range⟩
theorem Script.later (h : Script w A n xs) (hl : Later w w') : Script w' A n xs := ⟨h.row.later hl, fun x hx => (h.each x hx).later hl, h.weigh⟩
theorem Script.len (h : Script w A n xs) : xs.length = n := by have := h.row.len; simpa using this
theorem weighO_take {k : Nat} {x : OpC} (h : xs[k]? = some x) : weighO (xs.take (k + 1)) = weighO (xs.take k) + (x.n + x.m) := by
  obtain ⟨hk, rfl⟩ := List.getElem?_eq_some_iff.1 h
  unfold weighO
  rw [List.take_succ_eq_append_getElem hk, List.map_append, List.sum_append]
  simp
theorem weighO_le (k : Nat) : weighO (xs.take k) ≤ weighO xs := by
  unfold weighO
  conv => rhs; rw [← List.take_append_drop k xs]
  rw [List.map_append, List.sum_append]
  omega
theorem weighO_mem (h : x ∈ xs) : x.n + x.m ≤ weighO xs := by
  obtain ⟨i, hi⟩ := List.getElem?_of_mem h
  have h1 := weighO_take hi
  have h2 := weighO_le (xs := xs) (i + 1)
  omega
theorem Script.get (h : Script w A n xs) {j : Nat} (hj : j < n) : ∃ b o x, A = some ⟨b, o, .none⟩ ∧ xs[j]? = some x ∧ OpOk w x ∧ w.cell? ⟨b, o + j * 4, .none⟩ = some (.int .i64 x.kind) ∧ w.cell? ⟨b, o + j * 4 + 1, .none⟩ = some (.int .i64 x.k) ∧ w.cell? ⟨b, o + j * 4 + 2, .none⟩ = some (.slice x.A x.n x.c) ∧ w.cell? ⟨b, o + j * 4 + 3, .none⟩ = some (.slice x.F x.m x.e) := by
  obtain ⟨b, o, e, cs, hcs, _, hc⟩ := h.row.get hj
  have hl : j < xs.length := by have := h.len; omega
  have hz := List.getElem?_eq_getElem hl
  simp only [List.getElem?_map, hz, Option.map_some, Option.some.injEq] at hcs
  subst hcs
  exact ⟨b, o, xs[j], e, hz, h.each _ (List.getElem_mem hl), hc 0 _ rfl, hc 1 _ rfl, hc 2 _ rfl, hc 3 _ rfl⟩
end

end Go.Proofs.Ytaonfedjilfgjaa

/-
  Scripts that come in: from what is read as data to what the laws ask.
-/
namespace Go.Proofs.Ytaonfedjilfgjaa
open Go.ChangeShapes Go.WideShapes Go.ChangeAt Go.RowKit Go.Deep

theorem Try.cells3_10 : Try.prog.cellsOf 3 = 1 := by kernel_rfl
theorem bulk_lits {H : Type} (k : IntKind) (zs : List Int) : Rows.uptoBulkAll (lits (H := H) k zs) = zs.length := by
  induction zs with
  | nil => rfl
  | cons z zs ih =>
    simp only [lits, List.map_cons, Rows.uptoBulkAll, Rows.uptoBulk, List.length_cons] at ih ⊢
    rw [ih]
    omega
/-- Numbers that came in, nil or not, and what they weigh. -/
theorem came_ints {H : Type} {enc : TypeId × Value → H} {W : World} {v : Value} {fuel : Nat} {x : DataW H × List MemPlace}
    (hf : DataW.trod enc Try.prog W 0 (fun _ => true) true fuel 34 [v] = some x) : ∃ (A : Option Addr) (n c : Nat) (xs : List Int), v = .slice A n c ∧ n ≤ c ∧ IntsAt W A n xs ∧ (∀ z ∈ xs, -9223372036854775808 ≤ z ∧ z ≤ 9223372036854775807) ∧ n ≤ Rows.uptoBulk x.1 := by
  rcases open_ints Try.underlying34 Try.underlying3 Try.cells3_10 hf with ⟨hcs, hx⟩ | ⟨a, len, cap, zs, hcs, _, hl, hm, hz, hx, hcell, hwf⟩
  · simp at hcs
    exact ⟨none, 0, 0, [], hcs, Nat.le_refl _, ⟨rfl, fun h => absurd h (by omega)⟩, (fun z hz => by cases hz), Nat.zero_le _⟩
  · simp at hcs
    simp only [if_true] at hz
    obtain ⟨b, off, spot⟩ := a
    refine ⟨_, len, cap, zs.take len, hcs, hl, ⟨by rw [List.length_take]; omega, fun h0 => ?_⟩, (fun z hzm => ?_), ?_⟩
    · have hspot : spot = none := by simpa [Addr.add] using World.cell?_spot (hcell 0 (by omega))
      subst hspot
      refine ⟨b, off, rfl, fun j z hzj => ?_⟩
      have hjl : j < len := by
        have := (List.getElem?_eq_some_iff.1 hzj).1
        rw [List.length_take] at this; omega
      rw [List.getElem?_take_of_lt hjl] at hzj
      have hc := hcell j (by omega)
      rw [plain_add] at hc
      rw [hc]
      simp [List.getD, hzj]
    · have hw := hwf z (List.mem_of_mem_take hzm)
      simp only [Lit.wf, Bool.and_eq_true, decide_eq_true_eq] at hw
      exact hw
    · subst hx
      simp only [Rows.uptoBulk]
      rw [bulk_lits, List.length_take]
      omega
/-- Bytes that came in, and what they weigh. -/
theorem came_bytesW {H : Type} {enc : TypeId × Value → H} {W : World} {v : Value} {fuel : Nat} {x : DataW H × List MemPlace}
    (hf : DataW.trod enc Try.prog W 0 (fun _ => true) true fuel 33 [v] = some x) : ∃ (A : Option Addr) (n c : Nat) (bs : Bs), v = .slice A n c ∧ n ≤ c ∧ BsAt W A n bs ∧ n ≤ Rows.uptoBulk x.1 := by
  obtain ⟨A, n, c, bs, hv, hnc, _, hb⟩ := came_bytes hf
  refine ⟨A, n, c, bs, hv, hnc, hb, ?_⟩
  rcases open_ints Try.underlying33 Try.underlying5 Try.cells5_9 hf with ⟨hcs, hx⟩ | ⟨a, len, cap, zs, hcs, _, hl, hm, hz, hx, _⟩
  · simp at hcs
    rw [hv] at hcs
    cases hcs
    exact Nat.zero_le _
  · simp at hcs
    rw [hv] at hcs
    cases hcs
    simp only [if_true] at hz
    subst hx
    simp only [Rows.uptoBulk]
    rw [bulk_lits, List.length_take]
    omega
noncomputable def opFields : Array Field := match Try.prog.underlying 36 with | some (.struct fs) => fs | _ => #[]
theorem Try.opStruct : Try.prog.underlying 36 = some (.struct opFields) := by kernel_rfl
theorem Try.opOne : oneCellFields Try.prog opFields = true := by kernel_rfl
theorem Try.opCells : Try.prog.cellsOf 36 = opFields.size := by kernel_rfl
theorem Try.opSize : opFields.size = 4 := by kernel_rfl
theorem Try.opTypes : opFields.toList.map (·.type) = [3, 3, 33, 34] := by kernel_rfl
theorem op_field {j : Nat} {t : TypeId} (h : [3, 3, 33, 34][j]? = some t) : ∃ f : Field, opFields[j]? = some f ∧ f.type = t := by
  rw [← Try.opTypes, List.getElem?_map] at h
  obtain ⟨f, hf, rfl⟩ := Option.map_eq_some_iff.1 h
  exact ⟨f, by rw [← Array.getElem?_toList]; exact hf, rfl⟩
/-- Four fields make a call. -/
theorem op_of {H : Type} {enc : TypeId × Value → H} {W : World} {fuel : Nat} {ys : List (DataW H × List MemPlace)} {Q : Nat → Value → Prop} (hyl : ys.length = 4)
    (hfld : ∀ (j : Nat) (f : Field), opFields[j]? = some f → ∃ (v : Value) (y : DataW H × List MemPlace), Q j v ∧ ys[j]? = some y ∧ DataW.trod enc Try.prog W 0 (fun _ => true) true fuel f.type [v] = some y) :
    ∃ x : OpC, (∀ (j : Nat) u, (opL x)[j]? = some u → Q j u) ∧ OpOk W x ∧ x.n + x.m + 1 ≤ Rows.uptoBulk (.agg (ys.map (·.1))) := by
  obtain ⟨f0, hf0, ty0⟩ := op_field (j := 0) (t := 3) rfl
  obtain ⟨f1, hf1, ty1⟩ := op_field (j := 1) (t := 3) rfl
  obtain ⟨f2, hf2, ty2⟩ := op_field (j := 2) (t := 33) rfl
  obtain ⟨f3, hf3, ty3⟩ := op_field (j := 3) (t := 34) rfl
  obtain ⟨v0, y0, c0, e0, t0⟩ := hfld 0 _ hf0
  obtain ⟨v1, y1, c1, e1, t1⟩ := hfld 1 _ hf1
  obtain ⟨v2, y2, c2, e2, t2⟩ := hfld 2 _ hf2
  obtain ⟨v3, y3, c3, e3, t3⟩ := hfld 3 _ hf3
  rw [ty0] at t0; rw [ty1] at t1; rw [ty2] at t2; rw [ty3] at t3
  obtain ⟨kd, hk, _, _⟩ := DataW.trod_int Try.underlying3 t0
  obtain ⟨pl, hp, _, hwf⟩ := DataW.trod_int Try.underlying3 t1
  obtain ⟨A, n, c, bs, hv2, hnc, hb, hw2⟩ := came_bytesW t2
  obtain ⟨F, m, e, fs, hv3, hme, hi, hr, hw3⟩ := came_ints t3
  simp only [List.cons.injEq, and_true] at hk hp
  subst hk hp hv2 hv3
  have hwf' : -9223372036854775808 ≤ pl ∧ pl ≤ 9223372036854775807 := by
    simp only [Lit.wf, Bool.and_eq_true, decide_eq_true_eq] at hwf
    exact hwf
  refine ⟨⟨kd, pl, A, n, c, bs, F, m, e, fs⟩, fun j u hj => ?_, ⟨hb, hi, hnc, hme, hwf'.1, hwf'.2, hr⟩, ?_⟩
  · simp only [opL] at hj
    match j, hj with
    | 0, hj => simp at hj; subst hj; exact c0
    | 1, hj => simp at hj; subst hj; exact c1
    | 2, hj => simp at hj; subst hj; exact c2
    | 3, hj => simp at hj; subst hj; exact c3
    | j + 4, hj => simp at hj
  · match ys, hyl, e0, e1, e2, e3 with
    | [z0, z1, z2, z3], _, e0, e1, e2, e3 =>
      simp only [List.getElem?_cons_zero, List.getElem?_cons_succ, Option.some.injEq] at e0 e1 e2 e3
      subst e0 e1 e2 e3
      simp only [List.map_cons, List.map_nil, Rows.uptoBulk, Rows.uptoBulkAll]
      omega
theorem bulkO_range {H : Type} (D : Nat → DataW H) : ∀ (n : Nat) (xs : List OpC), xs.length = n → (∀ (i : Nat) x, xs[i]? = some x → x.n + x.m + 1 ≤ Rows.uptoBulk (D i)) → weighO xs + n ≤ Rows.uptoBulkAll ((List.range n).map D)
  | 0, xs, h, _ => by
    have : xs = [] := List.eq_nil_of_length_eq_zero h
    subst this; simp [weighO]
  | n + 1, xs, h, hw => by
    have key : ∀ (l r : List (DataW H)), Rows.uptoBulkAll (l ++ r) = Rows.uptoBulkAll l + Rows.uptoBulkAll r := fun l r => by
      induction l with
      | nil => simp [Rows.uptoBulkAll]
      | cons x l ih => simp only [List.cons_append, Rows.uptoBulkAll, ih]; omega
    have ih := bulkO_range D n (xs.take n) (by rw [List.length_take]; omega) (fun i x hx => hw i x (by
      have hi : i < n := by have := (List.getElem?_eq_some_iff.1 hx).1; rw [List.length_take] at this; omega
      rwa [List.getElem?_take_of_lt hi] at hx))
    have hz : xs[n]? = some (xs[n]'(by omega)) := List.getElem?_eq_getElem (by omega)
    have h1 := hw n _ hz
    have h2 := weighO_take hz
    rw [show xs.take (n + 1) = xs from List.take_of_length_le (by omega)] at h2
    rw [List.range_succ, List.map_append, key]
    simp only [List.map_cons, List.map_nil, Rows.uptoBulkAll]
    omega
/-- A script that came in, nil or not. -/
theorem came_ops {H : Type} {enc : TypeId × Value → H} {W : World} {v : Value} {fuel : Nat} {x : DataW H × List MemPlace}
    (hf : DataW.trod enc Try.prog W 0 (fun _ => true) true fuel 22 [v] = some x) (hb : Rows.uptoBulk x.1 ≤ 1048576) : ∃ A n c xs, v = .slice A n c ∧ Script W A n xs := by
  rcases open_slice_fields (fs := opFields) Try.underlying22 Try.opStruct Try.opOne Try.opCells hf with ⟨hcs, hx⟩ | ⟨a, len, cap, m, D, Pl, hcs, hl, hm, hx, hi⟩
  · simp at hcs
    exact ⟨none, 0, 0, [], hcs, RowK.none, (fun o ho => by cases ho), by simp [weighO]⟩
  · simp only [if_true] at hm
    have hsz := Try.opSize
    have hbk : Rows.uptoBulkAll ((List.range len).map D) ≤ 1048576 := by
      subst hx
      simp only [Rows.uptoBulk] at hb
      omega
    have hel : ∀ i, i < len → ∃ x : OpC, (∀ (j : Nat) u, (opL x)[j]? = some u → W.cell? (a.add (i * 4 + j)) = some u) ∧ OpOk W x ∧ x.n + x.m + 1 ≤ Rows.uptoBulk (D i) := fun i hil => by
      obtain ⟨ys, n, hD, hyl, hfld⟩ := hi i (by omega)
      rw [hsz] at hyl hfld
      rw [hD]
      exact op_of hyl hfld
    obtain ⟨xs, hol, hoq⟩ := list_of len hel
    have hwt := bulkO_range D len xs hol fun i o ho => (hoq i o ho).2.2
    simp at hcs
    refine ⟨some a, len, cap, xs, hcs, ⟨by simp [hol], fun cs hcs => ?_, fun h0 => ?_⟩, fun x hx => ?_, by omega⟩
    · obtain ⟨o, _, rfl⟩ := List.mem_map.1 hcs
      rfl
    · obtain ⟨b, off, spot⟩ := a
      have h00 := (hoq 0 (xs[0]'(by omega)) (List.getElem?_eq_getElem (by omega))).1 0 _ rfl
      have hspot : spot = none := by simpa [Addr.add] using World.cell?_spot h00
      subst hspot
      refine ⟨b, off, rfl, fun j i cs u hj hi => ?_⟩
      rw [List.getElem?_map] at hj
      obtain ⟨o, ho, rfl⟩ := Option.map_eq_some_iff.1 hj
      have := (hoq j o ho).1 i u hi
      rw [plain_add, ← Nat.add_assoc] at this
      exact this
    · obtain ⟨i, hio⟩ := List.getElem?_of_mem hx
      exact (hoq i x hio).2.1

theorem int_range {z : Int} (h : (Lit.int .i64 z).wf = true) : -9223372036854775808 ≤ z ∧ z ≤ 9223372036854775807 := by
  simp only [Lit.wf, Bool.and_eq_true, decide_eq_true_eq] at h
  exact h

end Go.Proofs.Ytaonfedjilfgjaa
