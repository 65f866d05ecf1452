/-
  Prims that come in: from what is read as data to what the laws ask.
-/
import Derived.Test.YtalgapoigkbiaaaOpRead
import Derived.Test.YtalgapoigkbiaaaPrMem
namespace Go.Proofs.Ytalgapoigkbiaaa
open Go.ChangeShapes Go.WideShapes Go.ChangeAt Go.RowKit Go.Deep

def primFields : Array Field := #[{ name := "Kind", type := 3, offset := 0, embedded := false, tag := "", pkgPath := "", byteOffset := 0 }, { name := "Name", type := 9, offset := 1, embedded := false, tag := "", pkgPath := "", byteOffset := 8 }, { name := "To", type := 9, offset := 2, embedded := false, tag := "", pkgPath := "", byteOffset := 24 }, { name := "At", type := 3, offset := 3, embedded := false, tag := "", pkgPath := "", byteOffset := 40 }, { name := "Old", type := 22, offset := 4, embedded := false, tag := "", pkgPath := "", byteOffset := 48 }, { name := "New", type := 22, offset := 5, embedded := false, tag := "", pkgPath := "", byteOffset := 72 }]
theorem Try.primOne : oneCellFields Try.prog primFields = true := by kernel_rfl
theorem Try.primCells6 : Try.prog.cellsOf 24 = primFields.size := by kernel_rfl

/-- Six fields make a prim. -/
theorem prim_of {H : Type} {enc : TypeId × Value → H} {W : World} {fuel : Nat} {ys : List (DataW H × List MemPlace)} {Q : Nat → Value → Prop} (hyl : ys.length = 6)
    (hfld : ∀ (j : Nat) (f : Field), primFields[j]? = some f → ∃ (v : Value) (y : DataW H × List MemPlace), Q j v ∧ ys[j]? = some y ∧ DataW.trod enc Try.prog W 0 (fun _ => true) true fuel f.type [v] = some y) :
    ∃ x : PrC, (∀ (j : Nat) u, (prL x)[j]? = some u → Q j u) ∧ Row W x.A x.n x.v.old ∧ Row W x.B x.m x.v.new ∧ x.n ≤ x.c ∧ x.m ≤ x.d ∧ -9223372036854775808 ≤ x.v.place ∧ x.v.place ≤ 9223372036854775807 ∧ weightP x.v + 1 ≤ Rows.uptoBulk (.agg (ys.map (·.1))) := by
  obtain ⟨v0, y0, c0, e0, t0⟩ := hfld 0 _ rfl
  obtain ⟨v1, y1, c1, e1, t1⟩ := hfld 1 _ rfl
  obtain ⟨v2, y2, c2, e2, t2⟩ := hfld 2 _ rfl
  obtain ⟨v3, y3, c3, e3, t3⟩ := hfld 3 _ rfl
  obtain ⟨v4, y4, c4, e4, t4⟩ := hfld 4 _ rfl
  obtain ⟨v5, y5, c5, e5, t5⟩ := hfld 5 _ rfl
  obtain ⟨kd, hk, _, _⟩ := DataW.trod_int Try.underlying3 t0
  obtain ⟨s1, hs1, hy1, _⟩ := DataW.trod_string Try.underlying9 t1
  obtain ⟨s2, hs2, hy2, _⟩ := DataW.trod_string Try.underlying9 t2
  obtain ⟨pl, hp, _, hwf⟩ := DataW.trod_int Try.underlying3 t3
  obtain ⟨Al, nl, cl, l, hv4, hnc, hrow, hwl⟩ := came_lines t4
  obtain ⟨Bl, ml, dl, r, hv5, hmd, hrow2, hwr⟩ := came_lines t5
  simp only [List.cons.injEq, and_true] at hk hs1 hs2 hp
  subst hk hs1 hs2 hp hv4 hv5
  have hwf' : -9223372036854775808 ≤ pl ∧ pl ≤ 9223372036854775807 := by
    simp only [Lit.wf, Bool.and_eq_true, decide_eq_true_eq] at hwf
    exact hwf
  refine ⟨⟨⟨kd, s1, s2, pl, l, r⟩, Al, nl, cl, Bl, ml, dl⟩, fun j u hj => ?_, hrow, hrow2, hnc, hmd, hwf'.1, hwf'.2, ?_⟩
  · simp only [prL] at hj
    match j, hj with
    | 0, hj => simp at hj; subst hj; exact c0
    | 1, hj => simp at hj; subst hj; exact c1
    | 2, hj => simp at hj; subst hj; exact c2
    | 3, hj => simp at hj; subst hj; exact c3
    | 4, hj => simp at hj; subst hj; exact c4
    | 5, hj => simp at hj; subst hj; exact c5
    | j + 6, hj => simp at hj
  · match ys, hyl, e0, e1, e2, e3, e4, e5 with
    | [z0, z1, z2, z3, z4, z5], _, e0, e1, e2, e3, e4, e5 =>
      simp only [List.getElem?_cons_zero, List.getElem?_cons_succ, Option.some.injEq] at e0 e1 e2 e3 e4 e5
      subst e0 e1 e2 e3 e4 e5
      simp only [List.map_cons, List.map_nil, Rows.uptoBulk, Rows.uptoBulkAll]
      rw [hy1, hy2]
      simp only [Rows.uptoBulk, weightP]
      have l1 : s1.data.toList.length = s1.size := by rw [Array.length_toList]; rfl
      have l2 : s2.data.toList.length = s2.size := by rw [Array.length_toList]; rfl
      omega

/-- A prim that came in. -/
theorem came_prim {H : Type} {enc : TypeId × Value → H} {W : World} {cs : Array Value} {fuel : Nat} {x : DataW H × List MemPlace}
    (hf : DataW.trod enc Try.prog W 0 (fun _ => true) true fuel 24 (Value.agg cs).cells.toList = some x) (hb : Rows.uptoBulk x.1 ≤ 1048576) : ∃ y, Value.agg cs = prV y ∧ CameP W y := by
  obtain ⟨ys, n', _, hy, hcl, hyl, hfl⟩ := DataW.trod_struct (fs := primFields) Try.underlying24 hf
  rw [Try.primCells6] at hcl
  have hsz : primFields.size = 6 := rfl
  rw [hsz] at hcl hyl
  have hcs : (Value.agg cs).cells.toList = cs.toList := rfl
  rw [hcs] at hcl hfl
  obtain ⟨y, h1, h2, h3, h4, h5, h6, h7, h8⟩ := prim_of (W := W) (enc := enc) (fuel := n') (Q := fun j v => cs.toList[j]? = some v) hyl fun j f hj => by
    obtain ⟨ho, hk⟩ := hone_of Try.primOne j f hj
    have hjl : j < 6 := (Array.getElem?_eq_some_iff.1 hj).1
    have hv : cs.toList[j]? = some (cs.toList[j]'(by omega)) := List.getElem?_eq_getElem (by omega)
    have h1 := hfl j f hj
    rw [ho, hk] at h1
    have hone' : (cs.toList.drop j).take 1 = [cs.toList[j]'(by omega)] := by
      rw [List.drop_eq_getElem_cons (by omega)]
      rfl
    rw [hone'] at h1
    have hys : ys[j]? = some (ys[j]'(by omega)) := List.getElem?_eq_getElem (by omega)
    exact ⟨_, _, hv, hys, h1.trans hys⟩
  subst hy
  dsimp only at hb
  refine ⟨y, ?_, h2, h3, h4, h5, h6, h7, by omega⟩
  have : cs.toList = prL y := by
    refine List.ext_getElem? fun j => ?_
    by_cases hj : j < 6
    · have hjl : (prL y)[j]? = some ((prL y)[j]'hj) := List.getElem?_eq_getElem hj
      rw [hjl, h1 j _ hjl]
    · rw [List.getElem?_eq_none (by omega), List.getElem?_eq_none (by show 6 ≤ j; omega)]
  unfold prV
  congr 1
  exact Array.ext' this

theorem bulkP_range {H : Type} (D : Nat → DataW H) : ∀ (n : Nat) (xs : List PrC), xs.length = n → (∀ (i : Nat) x, xs[i]? = some x → weightP x.v + 1 ≤ Rows.uptoBulk (D i)) → weightPs xs + n ≤ Rows.uptoBulkAll ((List.range n).map D)
  | 0, xs, h, _ => by
    have : xs = [] := List.eq_nil_of_length_eq_zero h
    subst this; simp [weightPs]
  | n + 1, xs, h, hw => by
    have key : ∀ (l r : List (DataW H)), Rows.uptoBulkAll (l ++ r) = Rows.uptoBulkAll l + Rows.uptoBulkAll r := fun l r => by
      induction l with
      | nil => simp [Rows.uptoBulkAll]
      | cons x l ih => simp only [List.cons_append, Rows.uptoBulkAll, ih]; omega
    have ih := bulkP_range D n (xs.take n) (by rw [List.length_take]; omega) (fun i x hx => hw i x (by
      have hi : i < n := by have := (List.getElem?_eq_some_iff.1 hx).1; rw [List.length_take] at this; omega
      rwa [List.getElem?_take_of_lt hi] at hx))
    have hz : xs[n]? = some (xs[n]'(by omega)) := List.getElem?_eq_getElem (by omega)
    have h1 := hw n _ hz
    have h2 := weightPs_take hz
    rw [show xs.take (n + 1) = xs from List.take_of_length_le (by omega)] at h2
    rw [List.range_succ, List.map_append, key]
    simp only [List.map_cons, List.map_nil, Rows.uptoBulkAll]
    omega

end Go.Proofs.Ytalgapoigkbiaaa
