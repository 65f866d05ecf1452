/-
  Scripts that come in: from what is read as data to what the laws ask.
-/
import Derived.Test.YtknjkkdoeanhbaaOpRead
import Derived.Test.YtknjkkdoeanhbaaBtCame
import Derived.Test.YtknjkkdoeanhbaaBkScript
namespace Go.Proofs.Ytknjkkdoeanhbaa
open Go.ChangeShapes Go.WideShapes Go.ChangeAt Go.RowKit Go.Deep

theorem Try.cells3_10 : Try.prog.cellsOf 3 = 1 := by kernel_rfl
theorem bulk_lits {H : Type} (k : IntKind) (zs : List Int) : Rows.uptoBulkAll (lits (H := H) k zs) = zs.length := by
  induction zs with
  | nil => rfl
  | cons z zs ih =>
    simp only [lits, List.map_cons, Rows.uptoBulkAll, Rows.uptoBulk, List.length_cons] at ih ⊢
    rw [ih]
    omega
/-- Numbers that came in, nil or not, and what they weigh. -/
theorem came_ints {H : Type} {enc : TypeId × Value → H} {W : World} {v : Value} {fuel : Nat} {x : DataW H × List MemPlace}
    (hf : DataW.trod enc Try.prog W 0 (fun _ => true) true fuel 34 [v] = some x) : ∃ (A : Option Addr) (n c : Nat) (xs : List Int), v = .slice A n c ∧ n ≤ c ∧ IntsAt W A n xs ∧ (∀ z ∈ xs, -9223372036854775808 ≤ z ∧ z ≤ 9223372036854775807) ∧ n ≤ Rows.uptoBulk x.1 := by
  rcases open_ints Try.underlying34 Try.underlying3 Try.cells3_10 hf with ⟨hcs, hx⟩ | ⟨a, len, cap, zs, hcs, _, hl, hm, hz, hx, hcell, hwf⟩
  · simp at hcs
    exact ⟨none, 0, 0, [], hcs, Nat.le_refl _, ⟨rfl, fun h => absurd h (by omega)⟩, (fun z hz => by cases hz), Nat.zero_le _⟩
  · simp at hcs
    simp only [if_true] at hz
    obtain ⟨b, off, spot⟩ := a
    refine ⟨_, len, cap, zs.take len, hcs, hl, ⟨by rw [List.length_take]; omega, fun h0 => ?_⟩, (fun z hzm => ?_), ?_⟩
    · have hspot : spot = none := by simpa [Addr.add] using World.cell?_spot (hcell 0 (by omega))
      subst hspot
      refine ⟨b, off, rfl, fun j z hzj => ?_⟩
      have hjl : j < len := by
        have := (List.getElem?_eq_some_iff.1 hzj).1
        rw [List.length_take] at this; omega
      rw [List.getElem?_take_of_lt hjl] at hzj
      have hc := hcell j (by omega)
      rw [plain_add] at hc
      rw [hc]
      simp [List.getD, hzj]
    · have hw := hwf z (List.mem_of_mem_take hzm)
      simp only [Lit.wf, Bool.and_eq_true, decide_eq_true_eq] at hw
      exact hw
    · subst hx
      simp only [Rows.uptoBulk]
      rw [bulk_lits, List.length_take]
      omega
/-- Bytes that came in, and what they weigh. -/
theorem came_bytesW {H : Type} {enc : TypeId × Value → H} {W : World} {v : Value} {fuel : Nat} {x : DataW H × List MemPlace}
    (hf : DataW.trod enc Try.prog W 0 (fun _ => true) true fuel 33 [v] = some x) : ∃ (A : Option Addr) (n c : Nat) (bs : Bs), v = .slice A n c ∧ n ≤ c ∧ BsAt W A n bs ∧ n ≤ Rows.uptoBulk x.1 := by
  obtain ⟨A, n, c, bs, hv, hnc, _, hb⟩ := came_bytes hf
  refine ⟨A, n, c, bs, hv, hnc, hb, ?_⟩
  rcases open_ints Try.underlying33 Try.underlying5 Try.cells5_9 hf with ⟨hcs, hx⟩ | ⟨a, len, cap, zs, hcs, _, hl, hm, hz, hx, _⟩
  · simp at hcs
    rw [hv] at hcs
    cases hcs
    exact Nat.zero_le _
  · simp at hcs
    rw [hv] at hcs
    cases hcs
    simp only [if_true] at hz
    subst hx
    simp only [Rows.uptoBulk]
    rw [bulk_lits, List.length_take]
    omega
noncomputable def opFields : Array Field := match Try.prog.underlying 36 with | some (.struct fs) => fs | _ => #[]
theorem Try.opStruct : Try.prog.underlying 36 = some (.struct opFields) := by kernel_rfl
theorem Try.opOne : oneCellFields Try.prog opFields = true := by kernel_rfl
theorem Try.opCells : Try.prog.cellsOf 36 = opFields.size := by kernel_rfl
theorem Try.opSize : opFields.size = 4 := by kernel_rfl
theorem Try.opTypes : opFields.toList.map (·.type) = [3, 3, 33, 34] := by kernel_rfl
theorem op_field {j : Nat} {t : TypeId} (h : [3, 3, 33, 34][j]? = some t) : ∃ f : Field, opFields[j]? = some f ∧ f.type = t := by
  rw [← Try.opTypes, List.getElem?_map] at h
  obtain ⟨f, hf, rfl⟩ := Option.map_eq_some_iff.1 h
  exact ⟨f, by rw [← Array.getElem?_toList]; exact hf, rfl⟩
/-- Four fields make a call. -/
theorem op_of {H : Type} {enc : TypeId × Value → H} {W : World} {fuel : Nat} {ys : List (DataW H × List MemPlace)} {Q : Nat → Value → Prop} (hyl : ys.length = 4)
    (hfld : ∀ (j : Nat) (f : Field), opFields[j]? = some f → ∃ (v : Value) (y : DataW H × List MemPlace), Q j v ∧ ys[j]? = some y ∧ DataW.trod enc Try.prog W 0 (fun _ => true) true fuel f.type [v] = some y) :
    ∃ x : OpC, (∀ (j : Nat) u, (opL x)[j]? = some u → Q j u) ∧ OpOk W x ∧ x.n + x.m + 1 ≤ Rows.uptoBulk (.agg (ys.map (·.1))) := by
  obtain ⟨f0, hf0, ty0⟩ := op_field (j := 0) (t := 3) rfl
  obtain ⟨f1, hf1, ty1⟩ := op_field (j := 1) (t := 3) rfl
  obtain ⟨f2, hf2, ty2⟩ := op_field (j := 2) (t := 33) rfl
  obtain ⟨f3, hf3, ty3⟩ := op_field (j := 3) (t := 34) rfl
  obtain ⟨v0, y0, c0, e0, t0⟩ := hfld 0 _ hf0
  obtain ⟨v1, y1, c1, e1, t1⟩ := hfld 1 _ hf1
  obtain ⟨v2, y2, c2, e2, t2⟩ := hfld 2 _ hf2
  obtain ⟨v3, y3, c3, e3, t3⟩ := hfld 3 _ hf3
  rw [ty0] at t0; rw [ty1] at t1; rw [ty2] at t2; rw [ty3] at t3
  obtain ⟨kd, hk, _, _⟩ := DataW.trod_int Try.underlying3 t0
  obtain ⟨pl, hp, _, hwf⟩ := DataW.trod_int Try.underlying3 t1
  obtain ⟨A, n, c, bs, hv2, hnc, hb, hw2⟩ := came_bytesW t2
  obtain ⟨F, m, e, fs, hv3, hme, hi, hr, hw3⟩ := came_ints t3
  simp only [List.cons.injEq, and_true] at hk hp
  subst hk hp hv2 hv3
  have hwf' : -9223372036854775808 ≤ pl ∧ pl ≤ 9223372036854775807 := by
    simp only [Lit.wf, Bool.and_eq_true, decide_eq_true_eq] at hwf
    exact hwf
  refine ⟨⟨kd, pl, A, n, c, bs, F, m, e, fs⟩, fun j u hj => ?_, ⟨hb, hi, hnc, hme, hwf'.1, hwf'.2, hr⟩, ?_⟩
  · simp only [opL] at hj
    match j, hj with
    | 0, hj => simp at hj; subst hj; exact c0
    | 1, hj => simp at hj; subst hj; exact c1
    | 2, hj => simp at hj; subst hj; exact c2
    | 3, hj => simp at hj; subst hj; exact c3
    | j + 4, hj => simp at hj
  · match ys, hyl, e0, e1, e2, e3 with
    | [z0, z1, z2, z3], _, e0, e1, e2, e3 =>
      simp only [List.getElem?_cons_zero, List.getElem?_cons_succ, Option.some.injEq] at e0 e1 e2 e3
      subst e0 e1 e2 e3
      simp only [List.map_cons, List.map_nil, Rows.uptoBulk, Rows.uptoBulkAll]
      omega
theorem bulkO_range {H : Type} (D : Nat → DataW H) : ∀ (n : Nat) (xs : List OpC), xs.length = n → (∀ (i : Nat) x, xs[i]? = some x → x.n + x.m + 1 ≤ Rows.uptoBulk (D i)) → weighO xs + n ≤ Rows.uptoBulkAll ((List.range n).map D)
  | 0, xs, h, _ => by
    have : xs = [] := List.eq_nil_of_length_eq_zero h
    subst this; simp [weighO]
  | n + 1, xs, h, hw => by
    have key : ∀ (l r : List (DataW H)), Rows.uptoBulkAll (l ++ r) = Rows.uptoBulkAll l + Rows.uptoBulkAll r := fun l r => by
      induction l with
      | nil => simp [Rows.uptoBulkAll]
      | cons x l ih => simp only [List.cons_append, Rows.uptoBulkAll, ih]; omega
    have ih := bulkO_range D n (xs.take n) (by rw [List.length_take]; omega) (fun i x hx => hw i x (by
      have hi : i < n := by have := (List.getElem?_eq_some_iff.1 hx).1; rw [List.length_take] at this; omega
      rwa [List.getElem?_take_of_lt hi] at hx))
    have hz : xs[n]? = some (xs[n]'(by omega)) := List.getElem?_eq_getElem (by omega)
    have h1 := hw n _ hz
    have h2 := weighO_take hz
    rw [show xs.take (n + 1) = xs from List.take_of_length_le (by omega)] at h2
    rw [List.range_succ, List.map_append, key]
    simp only [List.map_cons, List.map_nil, Rows.uptoBulkAll]
    omega
/-- A script that came in, nil or not. -/
theorem came_ops {H : Type} {enc : TypeId × Value → H} {W : World} {v : Value} {fuel : Nat} {x : DataW H × List MemPlace}
    (hf : DataW.trod enc Try.prog W 0 (fun _ => true) true fuel 22 [v] = some x) (hb : Rows.uptoBulk x.1 ≤ 1048576) : ∃ A n c xs, v = .slice A n c ∧ Script W A n xs := by
  rcases open_slice_fields (fs := opFields) Try.underlying22 Try.opStruct Try.opOne Try.opCells hf with ⟨hcs, hx⟩ | ⟨a, len, cap, m, D, Pl, hcs, hl, hm, hx, hi⟩
  · simp at hcs
    exact ⟨none, 0, 0, [], hcs, RowK.none, (fun o ho => by cases ho), by simp [weighO]⟩
  · simp only [if_true] at hm
    have hsz := Try.opSize
    have hbk : Rows.uptoBulkAll ((List.range len).map D) ≤ 1048576 := by
      subst hx
      simp only [Rows.uptoBulk] at hb
      omega
    have hel : ∀ i, i < len → ∃ x : OpC, (∀ (j : Nat) u, (opL x)[j]? = some u → W.cell? (a.add (i * 4 + j)) = some u) ∧ OpOk W x ∧ x.n + x.m + 1 ≤ Rows.uptoBulk (D i) := fun i hil => by
      obtain ⟨ys, n, hD, hyl, hfld⟩ := hi i (by omega)
      rw [hsz] at hyl hfld
      rw [hD]
      exact op_of hyl hfld
    obtain ⟨xs, hol, hoq⟩ := list_of len hel
    have hwt := bulkO_range D len xs hol fun i o ho => (hoq i o ho).2.2
    simp at hcs
    refine ⟨some a, len, cap, xs, hcs, ⟨by simp [hol], fun cs hcs => ?_, fun h0 => ?_⟩, fun x hx => ?_, by omega⟩
    · obtain ⟨o, _, rfl⟩ := List.mem_map.1 hcs
      rfl
    · obtain ⟨b, off, spot⟩ := a
      have h00 := (hoq 0 (xs[0]'(by omega)) (List.getElem?_eq_getElem (by omega))).1 0 _ rfl
      have hspot : spot = none := by simpa [Addr.add] using World.cell?_spot h00
      subst hspot
      refine ⟨b, off, rfl, fun j i cs u hj hi => ?_⟩
      rw [List.getElem?_map] at hj
      obtain ⟨o, ho, rfl⟩ := Option.map_eq_some_iff.1 hj
      have := (hoq j o ho).1 i u hi
      rw [plain_add, ← Nat.add_assoc] at this
      exact this
    · obtain ⟨i, hio⟩ := List.getElem?_of_mem hx
      exact (hoq i x hio).2.1

theorem int_range {z : Int} (h : (Lit.int .i64 z).wf = true) : -9223372036854775808 ≤ z ∧ z ≤ 9223372036854775807 := by
  simp only [Lit.wf, Bool.and_eq_true, decide_eq_true_eq] at h
  exact h

end Go.Proofs.Ytknjkkdoeanhbaa
