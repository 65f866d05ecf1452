/-
  A row of two prims, written out.
-/
import Derived.Test.YtalgapoigkbiaaaLpVal
namespace Go.Proofs.Ytalgapoigkbiaaa
open Go.RowKit Go.Maps

theorem prims_two {w w0 : World} {x y : PrC} (hx : CameP w x) (hy : CameP w y) (hl : Later w w0) (t : TypeId) : Prims (w0.alloc (.cells #[.int .i64 x.v.kind, .string x.v.name, .string x.v.to, .int .i64 x.v.place, .slice x.A x.n x.c, .slice x.B x.m x.d, .int .i64 y.v.kind, .string y.v.name, .string y.v.to, .int .i64 y.v.place, .slice y.A y.n y.c, .slice y.B y.m y.d] t)) (some ⟨w0.heap.size, 0, none⟩) 2 [x, y] := by
  refine ⟨⟨rfl, fun cs hcs => ?_, fun _ => ⟨_, _, rfl, fun j i cs v hj hi => ?_⟩⟩, fun z hz => ?_⟩
  · simp at hcs
    rcases hcs with rfl | rfl <;> rfl
  · have hb : (w0.alloc (.cells #[.int .i64 x.v.kind, .string x.v.name, .string x.v.to, .int .i64 x.v.place, .slice x.A x.n x.c, .slice x.B x.m x.d, .int .i64 y.v.kind, .string y.v.name, .string y.v.to, .int .i64 y.v.place, .slice y.A y.n y.c, .slice y.B y.m y.d] t)).heap[w0.heap.size]? = some (.cells #[.int .i64 x.v.kind, .string x.v.name, .string x.v.to, .int .i64 x.v.place, .slice x.A x.n x.c, .slice x.B x.m x.d, .int .i64 y.v.kind, .string y.v.name, .string y.v.to, .int .i64 y.v.place, .slice y.A y.n y.c, .slice y.B y.m y.d] t (0, 0)) := heap_alloc_new w0 _
    have key : ∀ (k : Nat) v, (prL x ++ prL y)[k]? = some v → (w0.alloc (.cells #[.int .i64 x.v.kind, .string x.v.name, .string x.v.to, .int .i64 x.v.place, .slice x.A x.n x.c, .slice x.B x.m x.d, .int .i64 y.v.kind, .string y.v.name, .string y.v.to, .int .i64 y.v.place, .slice y.A y.n y.c, .slice y.B y.m y.d] t)).cell? ⟨w0.heap.size, k, none⟩ = some v := fun k v hk => by
      simp only [World.cell?, hb]
      show (prL x ++ prL y).toArray[k]? = some v
      rw [List.getElem?_toArray]
      exact hk
    match j, hj with
    | 0, hj =>
      simp at hj; subst hj
      have hil : i < (prL x).length := (List.getElem?_eq_some_iff.1 hi).1
      rw [Nat.zero_mul, Nat.zero_add]
      exact key i v (by rw [List.getElem?_append_left hil]; exact hi)
    | 1, hj =>
      simp at hj; subst hj
      rw [Nat.one_mul, Nat.zero_add]
      exact key (6 + i) v (by rw [List.getElem?_append_right (by show 6 ≤ 6 + i; omega), show 6 + i - (prL x).length = i from by show 6 + i - 6 = i; omega]; exact hi)
  · simp at hz
    rcases hz with rfl | rfl
    · exact hx.later (hl.alloc _)
    · exact hy.later (hl.alloc _)
theorem weightPs_two (x y : PrC) : weightPs [x, y] = weightP x.v + weightP y.v := by simp [weightPs]

end Go.Proofs.Ytalgapoigkbiaaa
