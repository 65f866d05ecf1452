/-
  The device's Read and Flush, and formOf, as calls.
-/
import Derived.Test.YtknjkkdoeanhbaaBkOne
import Derived.Test.YtknjkkdoeanhbaaBtClone
namespace Go.Proofs.Ytknjkkdoeanhbaa
open Go.RowKit

def readE (d : DvP) (k : Int) : Int := if d.down = true then 100 else if 0 ≤ k ∧ k < (d.bl.length : Int) then 0 else 101
def readB (d : DvP) (k : Int) : Bs := if d.down = true then [] else if 0 ≤ k ∧ k < (d.bl.length : Int) then d.bl.getD k.toNat [] else []
section
variable {W w : World} {S : Nat → Prop} {g : Nat} {d : DvP}
/-- A block, as a slice of it reads. -/
theorem bs_block {e : TypeId} {b o n c : Nat} {d : DvP} (h : OwnK e 64 W w (.slice (some ⟨b, o, none⟩) n c) (blL d)) (hok : DvOk d) {j : Nat} (hj : j < d.bl.length) : BsAt w (some ⟨b, j * 64, none⟩) 64 (d.bl.getD j []) := by
  have hz : d.bl.getD j [] = d.bl[j] := by simp [List.getD, hj]
  rw [hz]
  refine ⟨hok.size _ (List.getElem_mem hj), fun _ => ⟨b, j * 64, rfl, fun i x hx => ?_⟩⟩
  have hr := h.range (j := j) (cs := Lib.byteCells d.bl[j]) (by simp [blL, hj])
  exact hr i _ (by unfold Lib.byteCells; rw [List.getElem?_map, hx]; rfl)
set_option maxRecDepth 100000 in
set_option maxHeartbeats 400000 in
theorem readDev_any (h : DevAt W w S g d) (k : Int) :
    Calls Try.prog 23 #[.pointer (some ⟨g, 0, none⟩), .int .i64 k] w fun e w' => ∃ v, e = .returned (.tuple #[v, .int .i64 (readE d k)]) ∧ w'.ownsRow w.heap.size 5 1 v (readB d k).length (Lib.byteCells (readB d k)) ∧ Later w w' := by
  obtain ⟨b, c, B, m, c2, hb, h1, hc, h2, hm, hc2, hr2, sb, bg, s2⟩ := h.parts
  have HHA := Lib.hid (has_any h k)
  have q0 := hb.cell (i := 0) rfl; have q5 := hb.cell (i := 5) rfl
  simp only [List.getElem_toArray, List.getElem_cons_zero, List.getElem_cons_succ] at q0 q5
  have hmost := h.ok.most
  have hok := Lib.hid h.ok
  have H1 := Lib.hid h1
  clear h hb h1 h2 s2 hr2 hm hc2
  by_cases hd : d.down = true
  · have e1 : readE d k = 100 := by unfold readE; rw [if_pos hd]
    have e2 : readB d k = [] := by unfold readB; rw [if_pos hd]
    rw [e1, e2]
    clear e1 e2
    go_enter Try.func23, Try.ntmps23
    go_wp2
    go_ret2
    exact ⟨_, rfl, World.ownsRow_nil _ _ _ _, Later.refl w⟩
  · have hd0 : d.down = false := by simpa using hd
    by_cases hk : 0 ≤ k ∧ k < (d.bl.length : Int)
    · obtain ⟨j, rfl⟩ := Int.eq_ofNat_of_zero_le hk.1
      have hj : j < d.bl.length := by omega
      have e1 : readE d j = 0 := by unfold readE; rw [if_neg hd, if_pos hk]
      have e2 : readB d j = d.bl.getD j [] := by unfold readB; rw [if_neg hd, if_pos hk]; rfl
      have e3 : decide (0 ≤ (j : Int) ∧ (j : Int) < (d.bl.length : Int)) = true := by simpa using hk
      rw [e1, e2]
      rw [e3] at HHA
      have HC := Lib.hid (clone9_any (some ⟨b, j * 64, none⟩) 64 64 _ w (bs_block H1.out hok.out hj) (fun e => by cases e) (Nat.le_refl _) (by decide))
      clear e1 e2 e3 hk
      go_enter Try.func23, Try.ntmps23
      go_wp2_with fail
      refine HHA.out.mono ?_
      rintro e w1 ⟨rfl, rfl⟩
      go_wp2_with fail
      refine HC.out.mono ?_
      rintro e w2 ⟨v, rfl, ho, hl⟩
      have HO := Lib.hid ho
      clear ho
      go_wp2
      go_ret2
      exact ⟨v, rfl, HO.out, hl⟩
    · have e1 : readE d k = 101 := by unfold readE; rw [if_neg hd, if_neg hk]
      have e2 : readB d k = [] := by unfold readB; rw [if_neg hd, if_neg hk]
      have e3 : decide (0 ≤ k ∧ k < (d.bl.length : Int)) = false := by simpa using hk
      rw [e1, e2]
      rw [e3] at HHA
      clear e1 e2 e3 hk
      go_enter Try.func23, Try.ntmps23
      go_wp2_with fail
      refine HHA.out.mono ?_
      rintro e w1 ⟨rfl, rfl⟩
      go_wp2
      go_ret2
      exact ⟨_, rfl, World.ownsRow_nil _ _ _ _, Later.refl _⟩

set_option maxRecDepth 100000 in
set_option maxHeartbeats 400000 in
theorem flushDev_any (h : DevAt W w S g d) (ho : d.ops ≤ 1000000000) :
    Calls Try.prog 29 #[.pointer (some ⟨g, 0, none⟩)] w fun e w' => e = .returned (.int .i64 (flushP d).2) ∧ DevAt W w' S g (flushP d).1 ∧ Chg (fun k => k = g) w w' := by
  have HOP := Lib.hid (op_any h ho)
  have hok := Lib.hid (flushP_ok h.ok)
  have q5 : w.cell? ⟨g, 5, none⟩ = some (.bool d.down) := by
    obtain ⟨b, c, B, m, c2, hb, _⟩ := h.parts
    exact hb.cell rfl
  by_cases hd : d.down = true
  · have e1 : flushP d = (d, 100) := by unfold flushP; rw [if_pos hd]
    rw [e1]
    have HH := Lib.hid h
    clear e1 h
    go_enter Try.func29, Try.ntmps29
    go_wp2
    go_ret
    exact ⟨rfl, HH.out, Chg.refl _ w⟩
  · have hd0 : d.down = false := by simpa using hd
    clear h
    by_cases ha : d.armed = true ∧ d.left = 0
    · have e1 : flushP d = (opP d, 100) := by unfold flushP; rw [if_neg hd, if_pos ha]
      have e2 : opE d = 100 := by unfold opE; rw [if_pos ha]
      rw [e1]
      rw [e2] at HOP
      clear e1 e2 ha
      go_enter Try.func29, Try.ntmps29
      go_wp2_with fail
      refine HOP.out.mono ?_
      rintro e w1 ⟨rfl, h1, hc⟩
      have H1 := Lib.hid h1
      clear h1
      go_wp2
      go_ret
      exact ⟨rfl, H1.out, hc⟩
    · have e1 : flushP d = ({ opP d with row := [] }, 0) := by unfold flushP; rw [if_neg hd, if_neg ha]
      have e2 : opE d = 0 := by unfold opE; rw [if_neg ha]
      rw [e1] at hok ⊢
      rw [e2] at HOP
      clear e1 e2 ha
      go_enter Try.func29, Try.ntmps29
      go_wp2_with fail
      refine HOP.out.mono ?_
      rintro e w1 ⟨rfl, h1, hc⟩
      obtain ⟨b, c, B, m, c2, hb, g1, _, g2, _, _, _, sb, bg, s2⟩ := h1.parts
      have q1 := hb.cell (i := 1) rfl; have z1 := hb.frozen 1
      have H1 := Lib.hid h1; have HB := Lib.hid hb; have G1 := Lib.hid g1
      clear h1 hb g1 g2 s2 q5
      go_wp2
      go_ret
      have HC := chg_set w1 g 1 (.slice none 0 0)
      refine ⟨rfl, ?_, hc.trans HC fun _ e => .inl e⟩
      exact H1.out.box HC (HB.out.set1 1 (.slice none 0 0)) G1.out (OwnK.nil H1.out.base) (fun q hq => by cases hq; exact ⟨sb, bg⟩) (fun q hq => by cases hq) hok.out

/-- A row of numbers that came in. -/
def IntsAt (w : World) (A : Option Addr) (n : Nat) (xs : List Int) : Prop := xs.length = n ∧ (0 < n → ∃ b o, A = some ⟨b, o, .none⟩ ∧ ∀ (j : Nat) x, xs[j]? = some x → w.cell? ⟨b, o + j, .none⟩ = some (.int .i64 x))
set_option maxRecDepth 100000 in
set_option maxHeartbeats 400000 in
theorem formOf_any (A : Option Addr) (n c : Nat) (xs : List Int) (k : Nat) (w : World) (hx : IntsAt w A n xs) (hn : n ≤ 1000000000) (hr : ∀ x ∈ xs, -9223372036854775808 ≤ x ∧ x ≤ 9223372036854775807) :
    Calls Try.prog 40 #[.slice A n c, .int .i64 (k : Nat)] w fun e w' => e = .returned (.int .i64 (formB xs k : Nat)) ∧ w' = w := by
  by_cases h0 : n = 0
  · subst h0
    have e1 : formB xs k = 0 := by unfold formB; rw [if_pos (List.eq_nil_of_length_eq_zero hx.1)]
    rw [e1]
    clear e1 hx hr
    go_enter Try.func40, Try.ntmps40
    go_wp2
    go_ret
    exact ⟨rfl, rfl⟩
  · obtain ⟨b, o, rfl, hc⟩ := hx.2 (by omega)
    have hlt : k % n < n := Nat.mod_lt _ (by omega)
    have hl := hx.1
    have hz : xs[k % n]? = some (xs[k % n]'(by omega)) := List.getElem?_eq_getElem _
    have hcell := hc _ _ hz
    have hb := hr _ (List.mem_of_getElem? hz)
    have e1 : formB xs k = (max 0 (xs[k % n]'(by omega))).toNat % 4 := by
      unfold formB
      rw [if_neg (by rintro rfl; exact h0 hl.symm)]
      subst hl
      simp only [List.getD, hz, Option.getD_some]
    rw [e1]
    obtain ⟨x, hxe⟩ : ∃ x, x = xs[k % n]'(by omega) := ⟨_, rfl⟩
    rw [← hxe] at hcell hb ⊢
    clear hxe e1 hz hx hr hc hl
    obtain ⟨q, hq⟩ : ∃ q, q = k % n := ⟨_, rfl⟩
    rw [← hq] at hcell hlt
    have hrem : ((k : Nat) : Int).tmod ((n : Nat) : Int) = (q : Nat) := by rw [hq]; rfl
    clear hq
    go_enter Try.func40, Try.ntmps40
    go_wp2
    all_goals go_ret
    all_goals exact ⟨ret_int (by omega), rfl⟩
end

end Go.Proofs.Ytknjkkdoeanhbaa
