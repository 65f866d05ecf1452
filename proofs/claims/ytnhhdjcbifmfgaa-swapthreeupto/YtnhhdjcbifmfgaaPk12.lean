import Derived.Test.YtnhhdjcbifmfgaaPk11
import Derived.Deep.MidRow
import Derived.Deep.Cut
import Derived.StillTailTactics
import Derived.Lib.Hide

/-
  Three prims, brought into the order that is the other way round, either way are the same. Nothing of any program.
-/
namespace Go.Proofs.Ytnhhdjcbifmfgaa
open Go.RowKit

/-- Two Hunks at places i and j, of files that are apart by d (0: of one file), swapped to places j' and i'. -/
def RelHH (d : Int) (pn po qn qo : Nat) (i j j' i' : Int) : Prop :=
  (d ≠ 0 ∧ j' = j ∧ i' = i) ∨ (d = 0 ∧ j > i + pn ∧ j' = j - pn + po ∧ j' ≤ 1048576 ∧ i' = i) ∨ (d = 0 ∧ j + qo < i ∧ i' = i + qn - qo ∧ i' ≤ 1048576 ∧ j' = j)

set_option maxHeartbeats 4000000 in
theorem num_three {xn xo yn yo zn zo : Nat} {dxy dxz dyz i j k j1 i1 k1 i2 k2 j2 : Int} (hi : 0 ≤ i ∧ i ≤ 10000) (hj : 0 ≤ j ∧ j ≤ 10000) (hk : 0 ≤ k ∧ k ≤ 10000)
    (hs : xn + xo + yn + yo + zn + zo ≤ 20000) (t1 : dxy = 0 → dyz = 0 → dxz = 0) (t2 : dxy = 0 → dxz = 0 → dyz = 0) (t3 : dxz = 0 → dyz = 0 → dxy = 0)
    (h1 : RelHH dxy xn xo yn yo i j j1 i1) (h2 : RelHH dxz xn xo zn zo i1 k k1 i2) (h3 : RelHH dyz yn yo zn zo j1 k1 k2 j2) :
    ∃ k1' j1' i1', RelHH dyz yn yo zn zo j k k1' j1' ∧ RelHH dxz xn xo zn zo i k1' k2 i1' ∧ RelHH dxy xn xo yn yo i1' j1' j2 i2 := by
  unfold RelHH at *
  rcases h3 with h3 | h3 | h3
  · rcases h2 with h2 | h2 | h2
    · refine ⟨k, j, i, ?_, ?_, ?_⟩ <;> rcases h1 with h1 | h1 | h1 <;> first | (exfalso; omega) | (left; omega) | (right; left; omega) | (right; right; omega)
    · refine ⟨k, j, i, ?_, ?_, ?_⟩ <;> rcases h1 with h1 | h1 | h1 <;> first | (exfalso; omega) | (left; omega) | (right; left; omega) | (right; right; omega)
    · refine ⟨k, j, i + zn - zo, ?_, ?_, ?_⟩ <;> rcases h1 with h1 | h1 | h1 <;> first | (exfalso; omega) | (left; omega) | (right; left; omega) | (right; right; omega)
  · rcases h2 with h2 | h2 | h2
    · refine ⟨k - yn + yo, j, i, ?_, ?_, ?_⟩ <;> rcases h1 with h1 | h1 | h1 <;> first | (exfalso; omega) | (left; omega) | (right; left; omega) | (right; right; omega)
    · refine ⟨k - yn + yo, j, i, ?_, ?_, ?_⟩ <;> rcases h1 with h1 | h1 | h1 <;> first | (exfalso; omega) | (left; omega) | (right; left; omega) | (right; right; omega)
    · refine ⟨k - yn + yo, j, i + zn - zo, ?_, ?_, ?_⟩ <;> rcases h1 with h1 | h1 | h1 <;> first | (exfalso; omega) | (left; omega) | (right; left; omega) | (right; right; omega)
  · rcases h2 with h2 | h2 | h2
    · refine ⟨k, j + zn - zo, i, ?_, ?_, ?_⟩ <;> rcases h1 with h1 | h1 | h1 <;> first | (exfalso; omega) | (left; omega) | (right; left; omega) | (right; right; omega)
    · refine ⟨k, j + zn - zo, i, ?_, ?_, ?_⟩ <;> rcases h1 with h1 | h1 | h1 <;> first | (exfalso; omega) | (left; omega) | (right; left; omega) | (right; right; omega)
    · refine ⟨k, j + zn - zo, i + zn - zo, ?_, ?_, ?_⟩ <;> rcases h1 with h1 | h1 | h1 <;> first | (exfalso; omega) | (left; omega) | (right; left; omega) | (right; right; omega)

def apartD (p q : Pr) : Int := if p.name = q.name then 0 else 1

section
variable {p q a b : Pr}
theorem swapHH_rel : swapHH p q = some (a, b) ↔ RelHH (apartD p q) p.new.length p.old.length q.new.length q.old.length p.place q.place a.place b.place ∧ a = placed q a.place ∧ b = placed p b.place := by
  constructor
  · intro h
    rcases swapHH_cases h with ⟨e, rfl, rfl⟩ | ⟨e, h1, h2, rfl, rfl⟩ | ⟨e, h1, h2, rfl, rfl⟩
    · exact ⟨.inl ⟨by simp [apartD, e], rfl, rfl⟩, rfl, rfl⟩
    · exact ⟨.inr (.inl ⟨by simp [apartD, e], h1, rfl, h2, rfl⟩), rfl, rfl⟩
    · exact ⟨.inr (.inr ⟨by simp [apartD, e], h1, rfl, h2, rfl⟩), rfl, rfl⟩
  · rintro ⟨h | h | h, ea, eb⟩
    · obtain ⟨h0, h1, h2⟩ := h
      have e : p.name ≠ q.name := fun e => h0 (by simp [apartD, e])
      rw [swapHH_apart e, ea, eb, h1, h2]; rfl
    · obtain ⟨h0, h1, h2, h3, h4⟩ := h
      have e : p.name = q.name := Classical.byContradiction fun e => by simp [apartD, e] at h0
      rw [swapHH_behind e h1 (by omega), ea, eb, h2, h4]; rfl
    · obtain ⟨h0, h1, h2, h3, h4⟩ := h
      have e : p.name = q.name := Classical.byContradiction fun e => by simp [apartD, e] at h0
      rw [swapHH_ahead e h1 (by omega), ea, eb, h2, h4]; rfl
theorem swapHH_names (h : swapHH p q = some (a, b)) : a.name = q.name ∧ b.name = p.name ∧ a.kind = q.kind ∧ b.kind = p.kind := by
  obtain ⟨_, ea, eb⟩ := swapHH_rel.1 h
  rw [ea, eb]; exact ⟨rfl, rfl, rfl, rfl⟩
/-- Two Hunks in other files. -/
theorem swapHH_inFile {n m : ByteArray} (h : n = m ↔ p.name = q.name) : swapHH (inFile p n) (inFile q m) = (swapHH p q).map fun x => (inFile x.1 m, inFile x.2 n) := by
  unfold swapHH
  by_cases e : p.name = q.name
  · simp only [inFile, h.2 e, e, if_true]
    by_cases h1 : q.place > p.place + p.new.length
    · simp only [h1, if_true]
      split <;> rfl
    · simp only [h1, if_false]
      by_cases h2 : q.place + q.old.length < p.place
      · simp only [h2, if_true]
        split <;> rfl
      · simp only [h2, if_false]; rfl
  · have hne : ¬ n = m := fun x => e (h.1 x)
    simp only [inFile, e, hne, if_false]; rfl
end

section
variable {x y : Pr} {n m k : ByteArray}
theorem fwd_inj (hx : rightP x = true) {n' m' : ByteArray} (h : fwdN x n = some m) (h' : fwdN x n' = some m') : m = m' ↔ n = n' := by
  constructor
  · rintro rfl; have a := (fwd_bwd hx).1 h; have b := (fwd_bwd hx).1 h'; rw [a] at b; exact Option.some.inj b
  · rintro rfl; rw [h] at h'; exact Option.some.inj h'
theorem bwd_inj (hx : rightP x = true) {n' m' : ByteArray} (h : bwdN x n = some m) (h' : bwdN x n' = some m') : m = m' ↔ n = n' := by
  constructor
  · rintro rfl; have a := (fwd_bwd hx).2 h; have b := (fwd_bwd hx).2 h'; rw [a] at b; exact Option.some.inj b
  · rintro rfl; rw [h] at h'; exact Option.some.inj h'
/-- What is moved by two that name no common file. -/
theorem fwd_comm (hc : commonP x y = false) (h1 : fwdN x n = some m) (h2 : fwdN y m = some k) : ∃ m', fwdN y n = some m' ∧ fwdN x m' = some k := by
  have d := common_no.1 hc
  simp only [mem_names] at d
  have d1 : x.name ≠ y.name := fun e => d _ (.inl rfl) (.inl e)
  have d2 : y.kind = 3 → x.name ≠ y.to := fun h e => d _ (.inl rfl) (.inr ⟨h, e⟩)
  have d3 : x.kind = 3 → x.to ≠ y.name := fun h e => d _ (.inr ⟨h, rfl⟩) (.inl e)
  have d4 : x.kind = 3 → y.kind = 3 → x.to ≠ y.to := fun h h' e => d _ (.inr ⟨h, rfl⟩) (.inr ⟨h', e⟩)
  clear d hc
  unfold fwdN at *
  by_cases hx : x.kind = 3
  · by_cases hy : y.kind = 3
    · replace d2 := d2 hy; replace d3 := d3 hx; replace d4 := d4 hx hy
      simp only [hx, hy, if_true] at h1 h2 ⊢
      by_cases e1 : n = x.name
      · subst e1
        simp only [if_true, Option.some.injEq] at h1
        subst h1
        rw [if_neg d3, if_neg d4] at h2
        cases h2
        exact ⟨x.name, by rw [if_neg d1, if_neg d2], by rw [if_pos rfl]⟩
      · rw [if_neg e1] at h1
        by_cases e2 : n = x.to
        · rw [if_pos e2] at h1; cases h1
        · rw [if_neg e2] at h1
          cases h1
          refine ⟨k, h2, ?_⟩
          by_cases e3 : n = y.name
          · rw [if_pos e3] at h2; cases h2
            rw [if_neg (fun e => d2 e.symm), if_neg (fun e => d4 e.symm)]
          · rw [if_neg e3] at h2
            by_cases e4 : n = y.to
            · rw [if_pos e4] at h2; cases h2
            · rw [if_neg e4] at h2; cases h2; rw [if_neg e1, if_neg e2]
    · replace d3 := d3 hx
      simp only [hx, hy, if_true, if_false] at h1 h2 ⊢
      by_cases e1 : n = x.name
      · subst e1
        simp only [if_true, Option.some.injEq] at h1
        subst h1
        rw [if_neg d3] at h2
        cases h2
        exact ⟨x.name, by rw [if_neg d1], by rw [if_pos rfl]⟩
      · rw [if_neg e1] at h1
        by_cases e2 : n = x.to
        · rw [if_pos e2] at h1; cases h1
        · rw [if_neg e2] at h1
          cases h1
          refine ⟨k, h2, ?_⟩
          by_cases e3 : n = y.name
          · rw [if_pos e3] at h2; cases h2
          · rw [if_neg e3] at h2; cases h2; rw [if_neg e1, if_neg e2]
  · simp only [hx, if_false] at h1 ⊢
    by_cases e1 : n = x.name
    · rw [if_pos e1] at h1; cases h1
    · rw [if_neg e1] at h1
      cases h1
      refine ⟨k, h2, ?_⟩
      by_cases hy : y.kind = 3
      · replace d2 := d2 hy
        simp only [hy, if_true] at h2
        by_cases e3 : n = y.name
        · rw [if_pos e3] at h2; cases h2
          rw [if_neg (fun e => d2 e.symm)]
        · rw [if_neg e3] at h2
          by_cases e4 : n = y.to
          · rw [if_pos e4] at h2; cases h2
          · rw [if_neg e4] at h2; cases h2; rw [if_neg e1]
      · simp only [hy, if_false] at h2
        by_cases e3 : n = y.name
        · rw [if_pos e3] at h2; cases h2
        · rw [if_neg e3] at h2; cases h2; rw [if_neg e1]
theorem inv_common_right {p q : Pr} : commonP p (invertP q) = commonP p q := by rw [common_comm, inv_common_left, common_comm]
theorem bwd_fwd_comm (hc : commonP x y = false) (h1 : bwdN x n = some m) (h2 : fwdN y m = some k) : ∃ m', fwdN y n = some m' ∧ bwdN x m' = some k := by
  rw [← fwd_inv] at h1
  obtain ⟨m', a, b⟩ := fwd_comm (x := invertP x) (y := y) (by rw [inv_common_left]; exact hc) h1 h2
  exact ⟨m', a, by rw [← fwd_inv]; exact b⟩
theorem bwd_comm (hc : commonP x y = false) (h1 : bwdN x n = some m) (h2 : bwdN y m = some k) : ∃ m', bwdN y n = some m' ∧ bwdN x m' = some k := by
  rw [← fwd_inv] at h1 h2
  obtain ⟨m', a, b⟩ := fwd_comm (x := invertP x) (y := invertP y) (by rw [inv_common]; exact hc) h1 h2
  exact ⟨m', by rw [← fwd_inv]; exact a, by rw [← fwd_inv]; exact b⟩
end

theorem map_some {α β : Type} {o : Option α} {f : α → β} {r : β} (h : o.map f = some r) : ∃ x, o = some x ∧ r = f x := by
  obtain ⟨x, h1, h2⟩ := Option.map_eq_some_iff.1 h; exact ⟨x, h1, h2.symm⟩

section
variable {x y z a b c d e f : Pr}
/-- What one way tells, the other way tells. -/
theorem early_late (hx : x.place ≤ 10000) (hy : y.place ≤ 10000) (hz : z.place ≤ 10000) (hs : x.new.length + x.old.length + y.new.length + y.old.length + z.new.length + z.old.length ≤ 20000)
    (h1 : swapP x y = some (a, b)) (h2 : swapP b z = some (c, d)) (h3 : swapP a c = some (e, f)) :
    ∃ a' b' d', swapP y z = some (a', b') ∧ swapP x a' = some (e, d') ∧ swapP d' b' = some (f, d) := by
  obtain ⟨rx, ry, ra, rb⟩ := swap_right h1
  obtain ⟨_, rz, rc, rd⟩ := swap_right h2
  obtain ⟨_, _, re, rf⟩ := swap_right h3
  obtain ⟨ka, _, _, ua, kb, _, _, ub⟩ := swap_keeps h1
  obtain ⟨kc, _, _, uc, kd, _, _, ud⟩ := swap_keeps h2
  obtain ⟨ke, _, _, ue, kf, _, _, uf⟩ := swap_keeps h3
  by_cases kx : x.kind = 0
  · by_cases ky : y.kind = 0
    · by_cases kz : z.kind = 0
      · rw [swap_HH rx ry kx ky] at h1
        rw [swap_HH rb rz (by omega) kz] at h2
        rw [swap_HH ra rc (by omega) (by omega)] at h3
        obtain ⟨r1, ea, eb⟩ := swapHH_rel.1 h1
        obtain ⟨r2, ec, ed⟩ := swapHH_rel.1 h2
        obtain ⟨r3, ee, ef⟩ := swapHH_rel.1 h3
        have n1 : apartD b z = apartD x z := by rw [eb]; rfl
        have n2 : apartD a c = apartD y z := by rw [ea, ec]; rfl
        have l1 : b.new = x.new ∧ b.old = x.old := by rw [eb]; exact ⟨rfl, rfl⟩
        have l2 : a.new = y.new ∧ a.old = y.old := by rw [ea]; exact ⟨rfl, rfl⟩
        have l3 : c.new = z.new ∧ c.old = z.old := by rw [ec]; exact ⟨rfl, rfl⟩
        rw [n1, l1.1, l1.2] at r2
        rw [n2, l2.1, l2.2, l3.1, l3.2] at r3
        have dd : ∀ p q : Pr, apartD p q = 0 ↔ p.name = q.name := fun p q => by unfold apartD; split <;> simp [*]
        obtain ⟨k1', j1', i1', s1, s2, s3⟩ := num_three ⟨(place_in rx kx).1, hx⟩ ⟨(place_in ry ky).1, hy⟩ ⟨(place_in rz kz).1, hz⟩ (by omega)
          (by simp only [dd]; exact fun a b => a.trans b) (by simp only [dd]; exact fun a b => a.symm.trans b) (by simp only [dd]; exact fun a b => a.trans b.symm) r1 r2 r3
        have m1 : swapP y z = some (placed z k1', placed y j1') := by
          rw [swap_HH ry rz ky kz]; exact swapHH_rel.2 ⟨s1, rfl, rfl⟩
        obtain ⟨_, _, q1, q2⟩ := swap_right m1
        have m2 : swapP x (placed z k1') = some (e, placed x i1') := by
          rw [swap_HH rx q1 kx kz]
          exact swapHH_rel.2 ⟨s2, by rw [ee, ec]; rfl, rfl⟩
        obtain ⟨_, _, _, q3⟩ := swap_right m2
        refine ⟨_, _, _, m1, m2, ?_⟩
        rw [swap_HH q3 q2 kx ky]
        exact swapHH_rel.2 ⟨s3, by rw [ef, ea]; rfl, by rw [ed, eb]; rfl⟩
      · rw [swap_HH rx ry kx ky] at h1
        obtain ⟨na, nb, _, _⟩ := swapHH_names h1
        rw [swap_HN rb rz (by omega) kz] at h2
        obtain ⟨n, g2, e2⟩ := map_some h2
        cases e2
        rw [swap_HN ra rz (by omega) kz] at h3
        obtain ⟨m, g3, e3⟩ := map_some h3
        cases e3
        rw [nb] at g2
        rw [na] at g3
        have m1 : swapP y z = some (z, inFile y m) := by rw [swap_HN ry rz ky kz, g3]; rfl
        have m2 : swapP x z = some (z, inFile x n) := by rw [swap_HN rx rz kx kz, g2]; rfl
        refine ⟨_, _, _, m1, m2, ?_⟩
        rw [swap_HH (swap_right m2).2.2.2 (swap_right m1).2.2.2 kx ky, swapHH_inFile (fwd_inj rz g2 g3), h1]; rfl
    · by_cases kz : z.kind = 0
      · rw [swap_HN rx ry kx ky] at h1
        obtain ⟨n, g1, e1⟩ := map_some h1
        cases e1
        rw [swap_HH rb rz kx kz] at h2
        obtain ⟨nc, nd, _, _⟩ := swapHH_names h2
        rw [swap_NH ry rc ky (by omega)] at h3
        obtain ⟨m, g3, e3⟩ := map_some h3
        cases e3
        rw [nc] at g3
        have m1 : swapP y z = some (inFile z m, y) := by rw [swap_NH ry rz ky kz, g3]; rfl
        have iff1 : n = z.name ↔ x.name = (inFile z m).name := by
          have := fwd_inj ry g1 ((fwd_bwd ry).2 g3); exact this
        have hh := swapHH_inFile (p := x) (q := inFile z m) iff1
        rw [inFile_inFile, inFile_self, h2] at hh
        obtain ⟨⟨u, v⟩, g4, e4⟩ := map_some hh.symm
        cases e4
        obtain ⟨nu, nv, ku, kv⟩ := swapHH_names g4
        have m2 : swapP x (inFile z m) = some (u, v) := by rw [swap_HH rx (swap_right m1).2.2.1 kx kz]; exact g4
        obtain ⟨_, _, ru, rv⟩ := swap_right m2
        have eu : inFile (inFile u z.name) m = u := by rw [inFile_inFile, show m = u.name from nu.symm]; rfl
        refine ⟨_, _, v, m1, by rw [m2]; exact congrArg (fun r => some (r, v)) eu.symm, ?_⟩
        rw [swap_HN rv ry (by omega) ky, nv, g1]; rfl
      · rw [swap_HN rx ry kx ky] at h1
        obtain ⟨n, g1, e1⟩ := map_some h1
        cases e1
        rw [swap_HN rb rz kx kz] at h2
        obtain ⟨m, g2, e2⟩ := map_some h2
        cases e2
        rw [swap_NN ry rz ky kz] at h3
        split at h3
        · cases h3
        · rename_i hc
          cases h3
          have hc' : commonP y z = false := by simpa using hc
          obtain ⟨m', g3, g4⟩ := fwd_comm hc' g1 g2
          have m1 : swapP y z = some (z, y) := by rw [swap_NN ry rz ky kz, if_neg hc]
          have m2 : swapP x z = some (z, inFile x m') := by rw [swap_HN rx rz kx kz, g3]; rfl
          refine ⟨_, _, _, m1, m2, ?_⟩
          rw [swap_HN (swap_right m2).2.2.2 ry kx ky]
          have : fwdN y (inFile x m').name = some m := g4
          rw [this]; rfl
  · by_cases ky : y.kind = 0
    · by_cases kz : z.kind = 0
      · rw [swap_NH rx ry kx ky] at h1
        obtain ⟨n, g1, e1⟩ := map_some h1
        cases e1
        rw [swap_NH rx rz kx kz] at h2
        obtain ⟨m, g2, e2⟩ := map_some h2
        cases e2
        rw [swap_HH ra rc ky kz, swapHH_inFile (bwd_inj rx g1 g2)] at h3
        obtain ⟨⟨u, v⟩, g4, e4⟩ := map_some h3
        cases e4
        obtain ⟨nu, nv, ku, kv⟩ := swapHH_names g4
        have m1 : swapP y z = some (u, v) := by rw [swap_HH ry rz ky kz]; exact g4
        obtain ⟨_, _, ru, rv⟩ := swap_right m1
        have m2 : swapP x u = some (inFile u m, x) := by rw [swap_NH rx ru kx (by omega), nu, g2]; rfl
        refine ⟨_, _, _, m1, m2, ?_⟩
        rw [swap_NH rx rv kx (by omega), nv, g1]; rfl
      · rw [swap_NH rx ry kx ky] at h1
        obtain ⟨n, g1, e1⟩ := map_some h1
        cases e1
        rw [swap_NN rx rz kx kz] at h2
        split at h2
        · cases h2
        · rename_i hc
          cases h2
          have hc' : commonP x z = false := by simpa using hc
          rw [swap_HN ra rz ky kz] at h3
          obtain ⟨m, g3, e3⟩ := map_some h3
          cases e3
          obtain ⟨m', g4, g5⟩ := bwd_fwd_comm hc' g1 g3
          have m1 : swapP y z = some (z, inFile y m') := by rw [swap_HN ry rz ky kz, g4]; rfl
          have m2 : swapP x z = some (z, x) := by rw [swap_NN rx rz kx kz, if_neg hc]
          refine ⟨_, _, _, m1, m2, ?_⟩
          rw [swap_NH rx (swap_right m1).2.2.2 kx ky]
          have : bwdN x (inFile y m').name = some m := g5
          rw [this]; rfl
    · rw [swap_NN rx ry kx ky] at h1
      split at h1
      · cases h1
      · rename_i hc
        cases h1
        have hc' : commonP x y = false := by simpa using hc
        by_cases kz : z.kind = 0
        · rw [swap_NH rx rz kx kz] at h2
          obtain ⟨n, g2, e2⟩ := map_some h2
          cases e2
          rw [swap_NH ry rc ky kz] at h3
          obtain ⟨m, g3, e3⟩ := map_some h3
          cases e3
          obtain ⟨m', g4, g5⟩ := bwd_comm hc' g2 g3
          have m1 : swapP y z = some (inFile z m', y) := by rw [swap_NH ry rz ky kz, g4]; rfl
          have m2 : swapP x (inFile z m') = some (inFile z m, x) := by
            rw [swap_NH rx (swap_right m1).2.2.1 kx kz]
            have : bwdN x (inFile z m').name = some m := g5
            rw [this]; rfl
          exact ⟨_, _, _, m1, m2, by rw [swap_NN rx ry kx ky, if_neg hc]⟩
        · rw [swap_NN rx rz kx kz] at h2
          split at h2
          · cases h2
          · rename_i hd
            cases h2
            rw [swap_NN ry rz ky kz] at h3
            split at h3
            · cases h3
            · rename_i he
              cases h3
              exact ⟨z, y, x, by rw [swap_NN ry rz ky kz, if_neg he], by rw [swap_NN rx rz kx kz, if_neg hd], by rw [swap_NN rx ry kx ky, if_neg hc]⟩
end

/-- Both ways. -/
def earlyP (x y z : Pr) : Option (Pr × Pr × Pr) := (swapP x y).bind fun s => (swapP s.2 z).bind fun t => (swapP s.1 t.1).map fun u => (u.1, u.2, t.2)
def lateP (x y z : Pr) : Option (Pr × Pr × Pr) := (swapP y z).bind fun s => (swapP x s.1).bind fun t => (swapP t.2 s.2).map fun u => (t.1, u.1, u.2)

section
variable {x y z e f d : Pr}
theorem early_iff : earlyP x y z = some (e, f, d) ↔ ∃ a b c, swapP x y = some (a, b) ∧ swapP b z = some (c, d) ∧ swapP a c = some (e, f) := by
  unfold earlyP
  constructor
  · intro h
    obtain ⟨⟨a, b⟩, h1, h⟩ := Option.bind_eq_some_iff.1 h
    obtain ⟨⟨c, d'⟩, h2, h⟩ := Option.bind_eq_some_iff.1 h
    obtain ⟨⟨e', f'⟩, h3, h⟩ := map_some h
    cases h
    exact ⟨a, b, c, h1, h2, h3⟩
  · rintro ⟨a, b, c, h1, h2, h3⟩
    simp [h1, h2, h3]
theorem late_iff : lateP x y z = some (e, f, d) ↔ ∃ a b d', swapP y z = some (a, b) ∧ swapP x a = some (e, d') ∧ swapP d' b = some (f, d) := by
  unfold lateP
  constructor
  · intro h
    obtain ⟨⟨a, b⟩, h1, h⟩ := Option.bind_eq_some_iff.1 h
    obtain ⟨⟨c, d'⟩, h2, h⟩ := Option.bind_eq_some_iff.1 h
    obtain ⟨⟨e', f'⟩, h3, h⟩ := map_some h
    cases h
    exact ⟨a, b, d', h1, h2, h3⟩
  · rintro ⟨a, b, c, h1, h2, h3⟩
    simp [h1, h2, h3]
theorem late_inv (h : lateP x y z = some (e, f, d)) : earlyP (invertP z) (invertP y) (invertP x) = some (invertP d, invertP f, invertP e) := by
  obtain ⟨a, b, d', h1, h2, h3⟩ := late_iff.1 h
  exact early_iff.2 ⟨_, _, _, swap_inverts_some h1, swap_inverts_some h2, swap_inverts_some h3⟩
theorem early_of_inv (h : lateP (invertP z) (invertP y) (invertP x) = some (invertP d, invertP f, invertP e)) : earlyP x y z = some (e, f, d) := by
  have := late_inv h
  simp only [invert_twice] at this
  exact this
end

theorem inv_place (p : Pr) : (invertP p).place = p.place := by
  unfold invertP
  split
  · rfl
  split
  · rfl
  split
  · rfl
  split
  · rfl
  · rfl
theorem inv_size (p : Pr) : (invertP p).new.length + (invertP p).old.length = p.new.length + p.old.length := by
  unfold invertP
  split
  · exact Nat.add_comm _ _
  split
  · rfl
  split
  · rfl
  split
  · rfl
  · rfl

/-- P4.3: either way is the same, of places and rows that are not too great. -/
theorem three_same {x y z : Pr} (hx : x.place ≤ 10000) (hy : y.place ≤ 10000) (hz : z.place ≤ 10000) (hs : x.new.length + x.old.length + y.new.length + y.old.length + z.new.length + z.old.length ≤ 20000) : earlyP x y z = lateP x y z := by
  cases h : earlyP x y z with
  | some r =>
    obtain ⟨e, f, d⟩ := r
    obtain ⟨a, b, c, h1, h2, h3⟩ := early_iff.1 h
    obtain ⟨a', b', d', g1, g2, g3⟩ := early_late hx hy hz hs h1 h2 h3
    exact (late_iff.2 ⟨a', b', d', g1, g2, g3⟩).symm
  | none =>
    cases k : lateP x y z with
    | none => rfl
    | some r =>
      obtain ⟨e, f, d⟩ := r
      obtain ⟨a, b, c, h1, h2, h3⟩ := early_iff.1 (late_inv k)
      have i1 := inv_size x; have i2 := inv_size y; have i3 := inv_size z
      obtain ⟨a', b', d', g1, g2, g3⟩ := early_late (by rw [inv_place]; exact hz) (by rw [inv_place]; exact hy) (by rw [inv_place]; exact hx) (by omega) h1 h2 h3
      have := early_of_inv (late_iff.2 ⟨a', b', d', g1, g2, g3⟩)
      rw [h] at this
      cases this

end Go.Proofs.Ytnhhdjcbifmfgaa

/-
  Three prims in an array, plain: places swapped; cells of a block that are set; what the law's helper comes to, as a call.
-/
namespace Go.Proofs.Ytnhhdjcbifmfgaa
open Go.RowKit Go.Maps

/-- Two places of three prims that follow one another are swapped. -/
def stepT (k : Nat) (c : Pr × Pr × Pr) : Option (Pr × Pr × Pr) := if k = 0 then (swapP c.1 c.2.1).map fun r => (r.1, r.2, c.2.2) else (swapP c.2.1 c.2.2).map fun r => (c.1, r.1, r.2)
def runT : List Nat → Pr × Pr × Pr → Option (Pr × Pr × Pr)
  | [], c => some c
  | k :: ks, c => (stepT k c).bind (runT ks)
def stepsT (late : Bool) : List Nat := if late = true then [1, 0, 1] else [0, 1, 0]
theorem run_early (x y z : Pr) : runT [0, 1, 0] (x, y, z) = earlyP x y z := by
  unfold earlyP
  simp only [runT, stepT, if_true, Nat.one_ne_zero, if_false]
  cases swapP x y with
  | none => rfl
  | some r =>
    simp only [Option.map_some, Option.bind_some]
    cases swapP r.2 z with
    | none => rfl
    | some t =>
      simp only [Option.map_some, Option.bind_some]
      cases swapP r.1 t.1 <;> rfl
theorem run_late (x y z : Pr) : runT [1, 0, 1] (x, y, z) = lateP x y z := by
  unfold lateP
  simp only [runT, stepT, if_true, Nat.one_ne_zero, if_false]
  cases swapP y z with
  | none => rfl
  | some r =>
    simp only [Option.map_some, Option.bind_some]
    cases swapP x r.1 with
    | none => rfl
    | some t =>
      simp only [Option.map_some, Option.bind_some]
      cases swapP t.2 r.2 <;> rfl

/-! ### Cells of a block that are set -/
def setRun (cur : Array Value) : Nat → List Value → Array Value
  | _, [] => cur
  | o, v :: r => setRun (cur.setIfInBounds o v) (o + 1) r
theorem setRun_size : ∀ (vs : List Value) (cur : Array Value) (o : Nat), (setRun cur o vs).size = cur.size
  | [], _, _ => rfl
  | v :: r, cur, o => by rw [setRun, setRun_size r]; simp
section
variable {w w' : World} {g o n : Nat} {cur : Array Value} {t : TypeId}
theorem BoxAt.sets : ∀ (vs : List Value) {o : Nat} {w : World} {cur : Array Value}, BoxAt w g cur t → BoxAt (w.setCells g o vs) g (setRun cur o vs) t
  | [], _, _, _, h => h
  | v :: r, o, w, cur, h => BoxAt.sets r (show BoxAt (w.setCell ⟨g, o, none⟩ v) g _ t from heap_setCell_same w g o cur t v h)
theorem turned_sets : ∀ (vs : List Value) (w : World) (o : Nat), Turned g w (w.setCells g o vs)
  | [], w, _ => (Later.refl w).turned g
  | v :: r, w, o => (turned_set w g o v).trans (turned_sets r _ (o + 1))
theorem BoxAt.there (h : BoxAt w g cur t) (hn : o + n ≤ cur.size) : w.there g o n := fun j hj => ⟨by rw [h.cell (Array.getElem?_eq_getElem (show o + j < cur.size by omega))]; rfl, h.frozen _⟩
theorem BoxAt.range {cs : List Value} (h : BoxAt w g cur t) (hc : ∀ j u, cs[j]? = some u → cur[o + j]? = some u) : w.rangeAt g o cs := fun j u hj => h.cell (hc j u hj)
end
section
variable {P : Program} {ops : Array Oper} {rest : List Oper} {o : Oper} {a : Act} {w : World}
/-- An array into a block. -/
theorem wpList_store_sets {Q : Exit → Act → World → Prop} (hgd : o.guard = none) (hds : o.dst = none) (ty : TypeId) (x y : Operand) (ho : o.op = .store ty x y)
    (b k : Nat) (cs : List Value) (hx : a.eval x = .pointer (some ⟨b, k, none⟩)) (hy : a.eval y = .agg cs.toArray)
    (ht : w.there b k cs.length) (hi : (P.info? ty).map (·.size) = some cs.length) (h1 : ∀ v ∈ cs, v.oneCell' = true)
    (h : ∀ w', w' = w.setCells b k cs → wpList P ops Q rest a w') : wpList P ops Q (o :: rest) a w := by
  refine wpList_store_mid hgd ty x y ho b k cs.toArray hx hy (by simpa using ht) (by simpa using hi) (all_oneCell_toArray h1) ?_
  rw [hds]
  exact h _ rfl
end
theorem prL_one (x : PrC) : ∀ v ∈ prL x, v.oneCell' = true := fun v hv => by
  simp only [prL, List.mem_cons, List.not_mem_nil, or_false] at hv
  rcases hv with rfl | rfl | rfl | rfl | rfl | rfl <;> rfl
theorem prL3_one (x y z : PrC) : ∀ v ∈ prL3 x y z, v.oneCell' = true := fun v hv => by
  rcases List.mem_append.1 hv with hv | hv
  · exact prL_one x v hv
  · rcases List.mem_append.1 hv with hv | hv
    · exact prL_one y v hv
    · exact prL_one z v hv
theorem Try.arrSize3 : (Try.prog.info? 29).map (·.size) = some 18 := by kernel_rfl

theorem results_cell_two {P : Program} {fn : Func} {p u : Tmp} {ty : TypeId} (h : fn.results = #[.cell p ty, .tmp u]) (tmps : Array Value) (w : World) (g : Nat) (t : TypeId) (cs : Array Value) (fr : Nat × Nat) (d : TypeDesc)
    (hp : tmps.getD p undef = .pointer (some ⟨g, 0, none⟩)) (hg : w.heap[g]? = some (.cells cs t fr))
    (hu : P.underlying ty = some d) (hd : (match d with | .struct _ | .array _ _ => true | _ => false) = true) (hi : (P.info? ty).map (·.size) = some cs.size) :
    (results fn tmps).run P w = .ok (.tuple #[.agg cs, tmps.getD u undef]) w := by
  have hp' : tmps[p]?.getD undef = .pointer (some ⟨g, 0, none⟩) := by simpa using hp
  simp [results, h, hp', asAddr, run_loadVar_row w g t ty cs fr d hg hu hd hi]


end Go.Proofs.Ytnhhdjcbifmfgaa

/-
  A statement that writes two places of an array of three prims: in whatever order its operations come.
-/
namespace Go.Proofs.Ytnhhdjcbifmfgaa
open Go.RowKit Go.Maps

/-- What the statement's stores have made of the world. -/
def Wr3 (wx : World) (g2 k : Nat) (c d : PrC) : Nat → Unit → World → Prop
  | 0, _, w => Later wx w
  | 1, _, w => ∃ w0, Later wx w0 ∧ w = w0.setCells g2 (k * 6) (prL c)
  | _, _, w => ∃ w0, Later wx w0 ∧ w = (w0.setCells g2 (k * 6) (prL c)).setCells g2 ((k + 1) * 6) (prL d)
theorem Wr3.box {wx w : World} {g2 k n gc : Nat} {c d : PrC} {D : Unit} {cs : Array Value} {t : TypeId} (h : Wr3 wx g2 k c d n D w) (hb : BoxAt wx gc cs t) (hne : gc ≠ g2) : BoxAt w gc cs t := by
  match n, h with
  | 0, h => exact hb.later h
  | 1, ⟨w0, h, e⟩ => rw [e]; exact (hb.later h).other (turned_sets _ _ _) hne
  | n + 2, ⟨w0, h, e⟩ => rw [e]; exact ((hb.later h).other (turned_sets _ _ _) hne).other (turned_sets _ _ _) hne
section
variable {ops : Array Oper} {Q : Exit → Act → World → Prop} {K : Act → World → Prop} {i : Nat} {dst : Option Tmp} {js : List Nat} {a : Act} {w : World}
theorem OpIs.store3 {j k : Tmp} {g m : Nat} {x : PrC} (h : OpIs ops i (.store 28 (.tmp j) (.tmp k)) none js) (hj : a.eval (.tmp j) = .pointer (some ⟨g, m * 6, none⟩)) (hv : a.eval (.tmp k) = prV x) (ht : w.there g (m * 6) 6)
    (hk : K a (w.setCells g (m * 6) (prL x))) : wpOp Try.prog ops Q i K a w :=
  h.go fun o h1 h2 => by
    refine wp_store_mid 28 (.tmp j) (.tmp k) h1 g (m * 6) (prL x).toArray hj hv ht Try.primSize (all_oneCell_toArray (prL_one x)) ?_
    rw [h2]
    exact hk
end

set_option maxHeartbeats 1600000 in
theorem sw3_write {ops : Array Oper} (hn : ops.size = 9) (hg : goesBack ops = true)
    (o0 : OpIs ops 0 (.move (.tmp 8)) (some 34) [])
    (o1 : OpIs ops 1 (.move (.tmp 8)) (some 35) [])
    (o2 : OpIs ops 2 (.binOp .add 3 (.tmp 35) (.const (.int .i64 1)) 3) (some 36) [1])
    (o3 : OpIs ops 3 (.load 28 (.tmp 9)) (some 37) [])
    (o4 : OpIs ops 4 (.load 28 (.tmp 10)) (some 38) [])
    (o5 : OpIs ops 5 (.indexAddr 29 (.tmp 2) (.tmp 34)) (some 39) [0])
    (o6 : OpIs ops 6 (.store 28 (.tmp 39) (.tmp 37)) none [3, 5])
    (o7 : OpIs ops 7 (.indexAddr 29 (.tmp 2) (.tmp 36)) (some 40) [2])
    (o8 : OpIs ops 8 (.store 28 (.tmp 40) (.tmp 38)) none [4, 7, 6])
    {a1 : Act} (hs : 43 ≤ a1.tmps.size) {wx : World} {g2 k gc gd : Nat} {c d : PrC} {cs : Array Value} (hk : k < 2) (e2 : a1.eval (.tmp 2) = .pointer (some ⟨g2, 0, none⟩)) (e8 : a1.eval (.tmp 8) = .int .i64 (k : Nat)) (e9 : a1.eval (.tmp 9) = .pointer (some ⟨gc, 0, none⟩)) (e10 : a1.eval (.tmp 10) = .pointer (some ⟨gd, 0, none⟩)) (hb : BoxAt wx g2 cs 29) (hcs : cs.size = 18) (hbc : BoxAt wx gc (prL c).toArray 28) (hbd : BoxAt wx gd (prL d).toArray 28) (hnc : gc ≠ g2) (hnd : gd ≠ g2)
    {Q : Exit → Act → World → Prop} {id : Nat} (hend : ∀ (D : Unit) (a : Act) (w : World), SameOut a1 a [34, 35, 36, 37, 38, 39, 40] → Wr3 wx g2 k c d (2) D w → Q .normal a w) :
    (Code.region id ops true).wp Try.prog Q a1 wx := by
  refine region_inv (by kernel_rfl) hg (fun l a w => ∃ D : Unit, SameOut a1 a [34, 35, 36, 37, 38, 39, 40] ∧ Wr3 wx g2 k c d (if l 8 = true then 2 else (if l 6 = true then 1 else 0)) D w ∧ (l 0 = true → a.eval (.tmp 34) = .int .i64 (k : Nat)) ∧ (l 1 = true → a.eval (.tmp 35) = .int .i64 (k : Nat)) ∧ (l 2 = true → a.eval (.tmp 36) = .int .i64 (k + 1 : Nat)) ∧ (l 3 = true → a.eval (.tmp 37) = prV c) ∧ (l 4 = true → a.eval (.tmp 38) = prV d) ∧ (l 5 = true → a.eval (.tmp 39) = .pointer (some ⟨g2, k * 6, none⟩)) ∧ (l 7 = true → a.eval (.tmp 40) = .pointer (some ⟨g2, (k + 1) * 6, none⟩)) ∧ (l 8 = true → l 6 = true)) ?_ ?_ ?_
  · intro l a w i o ho hl hwait ⟨D, so, st, f0, f1, f2, f3, f4, f5, f7, d8_6⟩
    have hi : i < 9 := by rw [← hn]; exact (Array.getElem?_eq_some_iff.1 ho).1
    have hc : i = 0 ∨ i = 1 ∨ i = 2 ∨ i = 3 ∨ i = 4 ∨ i = 5 ∨ i = 6 ∨ i = 7 ∨ i = 8 := by omega
    rcases hc with rfl | rfl | rfl | rfl | rfl | rfl | rfl | rfl | rfl
    · have st0 := st
      have ev : a.eval (.tmp 8) = .int .i64 (k : Nat) := ((show _ = a1.eval _ from by simp only [Act.eval, Array.getD_eq_getD_getElem?, so.out 8 (by decide)]).trans e8)
      refine o0.move ?_
      rw [ev]
      exact ⟨D, (so.put (by decide) _), st, (fun _ => eval_put_same' _ _ _ (by rw [so.size]; show (34 : Nat) < _; omega)), (fun e => (eval_put_other' _ _ (by decide)).trans (f1 e)), (fun e => (eval_put_other' _ _ (by decide)).trans (f2 e)), (fun e => (eval_put_other' _ _ (by decide)).trans (f3 e)), (fun e => (eval_put_other' _ _ (by decide)).trans (f4 e)), (fun e => (eval_put_other' _ _ (by decide)).trans (f5 e)), (fun e => (eval_put_other' _ _ (by decide)).trans (f7 e)), d8_6⟩
    · have st0 := st
      have ev : a.eval (.tmp 8) = .int .i64 (k : Nat) := ((show _ = a1.eval _ from by simp only [Act.eval, Array.getD_eq_getD_getElem?, so.out 8 (by decide)]).trans e8)
      refine o1.move ?_
      rw [ev]
      exact ⟨D, (so.put (by decide) _), st, (fun e => (eval_put_other' _ _ (by decide)).trans (f0 e)), (fun _ => eval_put_same' _ _ _ (by rw [so.size]; show (35 : Nat) < _; omega)), (fun e => (eval_put_other' _ _ (by decide)).trans (f2 e)), (fun e => (eval_put_other' _ _ (by decide)).trans (f3 e)), (fun e => (eval_put_other' _ _ (by decide)).trans (f4 e)), (fun e => (eval_put_other' _ _ (by decide)).trans (f5 e)), (fun e => (eval_put_other' _ _ (by decide)).trans (f7 e)), d8_6⟩
    · have ws := o2.waits ho hwait
      have w1 := ws 1 (by simp)
      have st0 := st
      refine o2.add1 (f1 w1) (by omega) ?_
      exact ⟨D, (so.put (by decide) _), st, (fun e => (eval_put_other' _ _ (by decide)).trans (f0 e)), (fun e => (eval_put_other' _ _ (by decide)).trans (f1 e)), (fun _ => eval_put_same' _ _ _ (by rw [so.size]; show (36 : Nat) < _; omega)), (fun e => (eval_put_other' _ _ (by decide)).trans (f3 e)), (fun e => (eval_put_other' _ _ (by decide)).trans (f4 e)), (fun e => (eval_put_other' _ _ (by decide)).trans (f5 e)), (fun e => (eval_put_other' _ _ (by decide)).trans (f7 e)), d8_6⟩
    · have st0 := st
      refine o3.load Try.underlying28 Try.primSize ((show _ = a1.eval _ from by simp only [Act.eval, Array.getD_eq_getD_getElem?, so.out 9 (by decide)]).trans e9) (Wr3.box st hbc hnc) ?_
      exact ⟨D, (so.put (by decide) _), st, (fun e => (eval_put_other' _ _ (by decide)).trans (f0 e)), (fun e => (eval_put_other' _ _ (by decide)).trans (f1 e)), (fun e => (eval_put_other' _ _ (by decide)).trans (f2 e)), (fun _ => eval_put_same' _ _ _ (by rw [so.size]; show (37 : Nat) < _; omega)), (fun e => (eval_put_other' _ _ (by decide)).trans (f4 e)), (fun e => (eval_put_other' _ _ (by decide)).trans (f5 e)), (fun e => (eval_put_other' _ _ (by decide)).trans (f7 e)), d8_6⟩
    · have st0 := st
      refine o4.load Try.underlying28 Try.primSize ((show _ = a1.eval _ from by simp only [Act.eval, Array.getD_eq_getD_getElem?, so.out 10 (by decide)]).trans e10) (Wr3.box st hbd hnd) ?_
      exact ⟨D, (so.put (by decide) _), st, (fun e => (eval_put_other' _ _ (by decide)).trans (f0 e)), (fun e => (eval_put_other' _ _ (by decide)).trans (f1 e)), (fun e => (eval_put_other' _ _ (by decide)).trans (f2 e)), (fun e => (eval_put_other' _ _ (by decide)).trans (f3 e)), (fun _ => eval_put_same' _ _ _ (by rw [so.size]; show (38 : Nat) < _; omega)), (fun e => (eval_put_other' _ _ (by decide)).trans (f5 e)), (fun e => (eval_put_other' _ _ (by decide)).trans (f7 e)), d8_6⟩
    · have ws := o5.waits ho hwait
      have w0 := ws 0 (by simp)
      have st0 := st
      refine o5.index3 ((show _ = a1.eval _ from by simp only [Act.eval, Array.getD_eq_getD_getElem?, so.out 2 (by decide)]).trans e2) (f0 w0) (by omega) ?_
      exact ⟨D, (so.put (by decide) _), st, (fun e => (eval_put_other' _ _ (by decide)).trans (f0 e)), (fun e => (eval_put_other' _ _ (by decide)).trans (f1 e)), (fun e => (eval_put_other' _ _ (by decide)).trans (f2 e)), (fun e => (eval_put_other' _ _ (by decide)).trans (f3 e)), (fun e => (eval_put_other' _ _ (by decide)).trans (f4 e)), (fun _ => eval_put_same' _ _ _ (by rw [so.size]; show (39 : Nat) < _; omega)), (fun e => (eval_put_other' _ _ (by decide)).trans (f7 e)), d8_6⟩
    · have ws := o6.waits ho hwait
      have w3 := ws 3 (by simp)
      have w5 := ws 5 (by simp)
      have n8 : l 8 = false := by cases hx : l 8 with | false => rfl | true => have := d8_6 hx; rw [hl] at this; cases this
      have st0 : Wr3 wx g2 k c d 0 D w := by
        have hst := st
        simp only [hl, n8, Bool.false_eq_true, if_false] at hst
        exact hst
      have hl : Later wx w := st0
      refine o6.store3 (f5 w5) (f3 w3) ((hb.later hl).there (by omega)) ?_
      have st1 : Wr3 wx g2 k c d 1 D (w.setCells g2 (k * 6) (prL c)) := ⟨w, hl, rfl⟩
      have st2 : Wr3 wx g2 k c d (if (more l 6) 8 = true then 2 else (if (more l 6) 6 = true then 1 else 0)) (D) (w.setCells g2 (k * 6) (prL c)) := by
        rw [if_neg (show ¬ (more l 6 8 = true) from by rw [show more l 6 8 = l 8 from rfl, n8]; simp), if_pos (show more l 6 6 = true from rfl)]
        exact st1
      exact ⟨D, so, st2, f0, f1, f2, f3, f4, f5, f7, (fun _ => rfl)⟩
    · have ws := o7.waits ho hwait
      have w2 := ws 2 (by simp)
      have st0 := st
      refine o7.index3 ((show _ = a1.eval _ from by simp only [Act.eval, Array.getD_eq_getD_getElem?, so.out 2 (by decide)]).trans e2) (f2 w2) (by omega) ?_
      exact ⟨D, (so.put (by decide) _), st, (fun e => (eval_put_other' _ _ (by decide)).trans (f0 e)), (fun e => (eval_put_other' _ _ (by decide)).trans (f1 e)), (fun e => (eval_put_other' _ _ (by decide)).trans (f2 e)), (fun e => (eval_put_other' _ _ (by decide)).trans (f3 e)), (fun e => (eval_put_other' _ _ (by decide)).trans (f4 e)), (fun e => (eval_put_other' _ _ (by decide)).trans (f5 e)), (fun _ => eval_put_same' _ _ _ (by rw [so.size]; show (40 : Nat) < _; omega)), d8_6⟩
    · have ws := o8.waits ho hwait
      have w4 := ws 4 (by simp)
      have w7 := ws 7 (by simp)
      have w6 := ws 6 (by simp)
      have st0 : Wr3 wx g2 k c d 1 D w := by
        have hst := st
        simp only [hl, Bool.false_eq_true, if_false, if_true, w6] at hst
        exact hst
      obtain ⟨w0', hl, e⟩ := st0
      refine o8.store3 (f7 w7) (f4 w4) (by
        rw [e]
        exact World.there_setCells ((hb.later hl).there (by omega)) _ _ _) ?_
      have st1 : Wr3 wx g2 k c d 2 D (w.setCells g2 ((k + 1) * 6) (prL d)) := ⟨w0', hl, by rw [e]⟩
      have st2 : Wr3 wx g2 k c d (if (more l 8) 8 = true then 2 else (if (more l 8) 6 = true then 1 else 0)) (D) (w.setCells g2 ((k + 1) * 6) (prL d)) := by
        rw [if_pos (show more l 8 8 = true from rfl)]
        exact st1
      exact ⟨D, so, st2, f0, f1, f2, f3, f4, f5, f7, (fun _ => w6)⟩
  · intro l a w hall ⟨D, so, st, f0, f1, f2, f3, f4, f5, f7, d8_6⟩
    rw [hn] at hall
    have hst : Wr3 wx g2 k c d 2 D w := by
      have hst := st
      simp only [hall 8 (by decide), if_true] at hst
      exact hst
    exact hend D a w so hst
  · exact ⟨(), SameOut.refl _ _, (show Wr3 wx g2 k c d 0 () _ from (Later.refl wx).drew), (fun e => by cases e), (fun e => by cases e), (fun e => by cases e), (fun e => by cases e), (fun e => by cases e), (fun e => by cases e), (fun e => by cases e), (fun e => by cases e)⟩

end Go.Proofs.Ytnhhdjcbifmfgaa
