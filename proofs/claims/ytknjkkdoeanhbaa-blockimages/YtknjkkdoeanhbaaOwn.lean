/-
  Rows of lines that a call makes itself: what it owns, how it grows by append, and how it reads behind that.
-/
import Derived.Test.YtknjkkdoeanhbaaBase
import Derived.Maps.AppendAt
import Derived.Laws.MakeOwn
namespace Go.Proofs.Ytknjkkdoeanhbaa
open Go.RowKit

theorem plain_add (b o j : Nat) : (⟨b, o, none⟩ : Addr).add j = ⟨b, o + j, none⟩ := by
  unfold Addr.add
  by_cases h : j = 0 <;> simp [h]

/-- The value v is a row of the call's own (what it made since w0) and holds the lines ss; of what lay there at w0 nothing has turned. -/
def Own (e : TypeId) (w0 w : World) (v : Value) (ss : List ByteArray) : Prop :=
  w.ownsRow w0.heap.size e 1 v ss.length (ss.map Value.string) ∧ Later w0 w

section
variable {e : TypeId} {w0 w : World} {v : Value} {ss : List ByteArray}

theorem Own.later (h : Own e w0 w v ss) : Later w0 w := h.2
theorem Own.nil (h : Later w0 w) : Own e w0 w (.slice none 0 0) [] := ⟨World.ownsRow_nil _ _ _ _, h⟩
theorem Own.alloc (h : Own e w0 w v ss) (o : Obj) : Own e w0 (w.alloc o) v ss := ⟨h.1.alloc o, h.2.alloc o⟩
theorem Own.drew (h : Own e w0 w v ss) : Own e w0 w.drew v ss := ⟨h.1, h.2.drew⟩
theorem Own.drewN (h : Own e w0 w v ss) (n : Nat) : Own e w0 (w.drewN n) v ss := ⟨h.1, h.2.drewN n⟩

/-- A new row without room. -/
theorem Own.empty (h : Later w0 w) : Own e w0 (w.alloc (.cells #[] e)) (.slice (some ⟨w.heap.size, 0, none⟩) 0 0) [] :=
  ⟨World.ownsRow_made w #[] 0 h.size (Nat.zero_le _) rfl, h.alloc _⟩

/-- What is owned reads as it holds. -/
theorem Own.row (h : Own e w0 w v ss) : ∃ A c, v = .slice A ss.length c ∧ ss.length ≤ c ∧ Row w A ss.length ss := by
  rcases h.1.2 with ⟨hv, h0⟩ | ⟨g, cap, cur, hv, hg, hh, hnc, hm, hs, ht⟩
  · have : ss = [] := List.eq_nil_of_length_eq_zero h0
    subst this
    exact ⟨none, 0, hv, Nat.le_refl _, Row.none⟩
  · refine ⟨some ⟨g, 0, none⟩, cap, hv, hnc, rfl, fun _ => ⟨g, 0, rfl, fun j s hj => ?_⟩⟩
    have hc := h.1.cells (g := g) (by rw [hv]; rfl) j (.string s) (by rw [List.getElem?_map, hj]; rfl)
    rw [plain_add] at hc
    exact hc

/-- The row of an own value lies behind all that was there. -/
theorem Own.block (h : Own e w0 w v ss) : ∀ k, v.ownBlock = some k → w0.heap.size ≤ k := fun k hk => (h.1.lt k hk).1

theorem oneCells (ss : List ByteArray) : ∀ u ∈ ss.map Value.string, u.oneCell' = true := by
  intro u hu
  obtain ⟨s, _, rfl⟩ := List.mem_map.1 hu
  rfl
end

section
variable {P : Program} {w0 w : World} {e : TypeId} {v : Value} {olds : List ByteArray}

theorem run_append_row (t ty : TypeId) (i : TypeInfo) (ht : P.underlying t = some (.slice e)) (hi : P.info? e = some i) (hz : i.zero = some (.string ByteArray.empty)) (hsize : i.size = 1) (hby : i.bytes = 16)
    (hown : Own e w0 w v olds) (A : Option Addr) (m c : Nat) (news : List ByteArray) (hr : Row w A m news) (hb : olds.length + m ≤ 1000000) :
    ∃ v' w', (Builtin.append_ #[t, t] ty #[v, .slice A m c]).run P w = .ok v' w' ∧ Own e w0 w' v' (olds ++ news) ∧ w.grownBy w' v.ownBlock := by
  have hl := hr.len
  rcases Nat.eq_zero_or_pos m with h0 | h0
  · subst h0
    have hn : news = [] := List.eq_nil_of_length_eq_zero hl
    subst hn
    rw [List.append_nil]
    rcases A with _ | ad
    · refine ⟨v, w, ?_, hown, ⟨rfl, rfl, rfl, Nat.le_refl _, fun _ _ _ => rfl⟩⟩
      rcases hown.1.2 with ⟨rfl, _⟩ | ⟨g, cap, cur, rfl, _, _, hnc, _⟩
      · simp [Builtin.append_, run_underlying ht, sizeOf, typeInfo, hi, Builtin.lenOf, Builtin.firstCells]
      · simp [Builtin.append_, run_underlying ht, sizeOf, typeInfo, hi, Builtin.lenOf, Builtin.firstCells, hnc, storeCells]
    · obtain ⟨v', w', hrun, h2, h3, _, _⟩ := run_append_own_at (P := P) w w0.heap.size t ty e i _ 1 16 ht hi hz hsize hby rfl (by omega) v olds.length (olds.map Value.string) hown.1 ad 0 c [] rfl
        (fun j u hu => by simp at hu) (fun u hu => by simp at hu) (by simp only [maxLen]; omega) (by omega) hown.2.size
      refine ⟨v', w', hrun, ⟨by simpa using h2, Below.grown hown.2 h3 hown.2.size hown.block⟩, h3⟩
  · obtain ⟨b, o, rfl, hc⟩ := hr.2 h0
    obtain ⟨v', w', hrun, h2, h3, _, _⟩ := run_append_own_at (P := P) w w0.heap.size t ty e i _ 1 16 ht hi hz hsize hby rfl (by omega) v olds.length (olds.map Value.string) hown.1 ⟨b, o, none⟩ m c (news.map Value.string)
      (by rw [List.length_map]; omega)
      (fun j u hu => by
        rw [List.getElem?_map] at hu
        obtain ⟨s, hs, rfl⟩ := Option.map_eq_some_iff.1 hu
        rw [plain_add]
        exact hc j s hs)
      (oneCells news) (by simp only [maxLen]; omega) (by omega) hown.2.size
    refine ⟨v', w', hrun, ⟨?_, Below.grown hown.2 h3 hown.2.size hown.block⟩, h3⟩
    rw [List.length_append, List.map_append, hl]
    exact h2

/-- append onto a row of the call's own, whatever the source. -/
theorem wpList_append_row {ops : Array Oper} {rest : List Oper} {o : Oper} {a : Act} {Q : Exit → Act → World → Prop} (hgd : o.guard = none) (s x : Operand) (t : TypeId)
    (ho : o.op = .call { callee := .builtin .append, args := #[s, x], argTypes := #[t, t] }) (i : TypeInfo)
    (ht : P.underlying t = some (.slice e)) (hi : P.info? e = some i) (hz : i.zero = some (.string ByteArray.empty)) (hsize : i.size = 1) (hby : i.bytes = 16)
    (hown : Own e w0 w v olds) (hs : a.eval s = v) (A : Option Addr) (m c : Nat) (news : List ByteArray) (hx : a.eval x = .slice A m c) (hr : Row w A m news) (hb : olds.length + m ≤ 1000000)
    (h : ∀ v' w', Own e w0 w' v' (olds ++ news) → w.grownBy w' v.ownBlock → wpList P ops Q rest (a.put o.dst v') w') : wpList P ops Q (o :: rest) a w := by
  refine wpList_plain hgd fun K hK => ?_
  obtain ⟨v', w', hrun, h2, h3⟩ := run_append_row (P := P) t o.type i ht hi hz hsize hby hown A m c news hr hb
  unfold Oper.wp execOp
  simp only [ho, resolve, invoke, builtin, Sem.run_bind, Sem.run_pure, Result.andThen_ok, List.map_toArray, List.map_cons, List.map_nil, hs, hx, hrun]
  exact hK _ _ (h v' w' h2 h3)

/-- make of a row with room for n. -/
theorem wpList_make_row {ops : Array Oper} {rest : List Oper} {o : Oper} {a : Act} {Q : Exit → Act → World → Prop} (hgd : o.guard = none) (l c : Operand) (t : TypeId) (hop : o.op = Op.makeSlice t l c) (i : TypeInfo)
    (ht : P.underlying t = some (.slice e)) (hi : P.info? e = some i) (hz : i.zero = some (.string ByteArray.empty)) (hsize : i.size = 1) (hby : i.bytes = 16)
    (hl : Later w0 w) (kl kc : IntKind) (C : Int) (he : a.eval l = .int kl 0) (hc : a.eval c = .int kc C) (hC0 : 0 ≤ C) (hC : C ≤ 1000000)
    (h : ∀ w' v', Own e w0 w' v' [] → wpList P ops Q rest (a.put o.dst v') w') : wpList P ops Q (o :: rest) a w := by
  obtain ⟨n, rfl⟩ := Int.eq_ofNat_of_zero_le hC0
  refine wpList_make_own w hgd l c t hop w0.heap.size e i _ 1 ht hi hz hsize kl kc _ n he hc rfl (by rw [hby]; omega) (by simp only [maxLen]; omega) hl.size fun w' h1 h2 => h w' _ ⟨h1, Below.grown hl h2 hl.size (by simp)⟩
end

/-- The one element of a new row that append is handed. -/
theorem Row.one (w : World) (s : ByteArray) (t : TypeId) : Row (w.alloc (.cells #[.string s] t)) (some ⟨w.heap.size, 0, .none⟩) 1 [s] := by
  refine ⟨rfl, fun _ => ⟨_, _, rfl, fun j x hj => ?_⟩⟩
  match j, hj with
  | 0, hj => simp at hj; subst hj; simp

/-- The elements of a new row, written out. -/
theorem Row.lit (w : World) (ss : List ByteArray) (t : TypeId) : Row (w.alloc (.cells (ss.map Value.string).toArray t)) (some ⟨w.heap.size, 0, .none⟩) ss.length ss := by
  refine ⟨rfl, fun _ => ⟨_, _, rfl, fun j x hj => ?_⟩⟩
  have hb : (w.alloc (.cells (ss.map Value.string).toArray t)).heap[w.heap.size]? = some (.cells (ss.map Value.string).toArray t (0, 0)) := heap_alloc_new w _
  simp only [World.cell?, hb, Nat.zero_add]
  simp [hj]
end Go.Proofs.Ytknjkkdoeanhbaa
