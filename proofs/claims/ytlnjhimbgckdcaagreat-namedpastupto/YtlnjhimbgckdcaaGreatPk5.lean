import Derived.Test.YtlnjhimbgckdcaaGreatPk4
import Derived.Test.YtlnjhimbgckdcaaGreatChecked
import Derived.Test.YtlnjhimbgckdcaaGreatPk1
import Derived.Deep.LoopGhost
import Derived.Deep.QuietTactic
import Derived.BigQuiet
import Derived.Lib.Hide
import Derived.Test.YtlnjhimbgckdcaaGreatPk2
import Derived.Shelf.LaysM
import Derived.Ground.GgzProg
import Derived.Ground.SlgmProg
import Derived.Shelf.SlIter.Nil
import Derived.Shelf.SortM.Plain
import Derived.Shelf.SortM.SortNone
import Derived.Test.YtlnjhimbgckdcaaGreatProg
import Derived.Test.YtlnjhimbgckdcaaGreatPk3
import Derived.Sort.KeysCollected

/-
  Rows of prims in memory: what a slice of them reads as, and one of the call's own that grows by append and is written into.
-/
namespace Go.Proofs.YtlnjhimbgckdcaaGreat
open Go.RowKit Go.Maps

structure PsOk (w : World) (A : Option Addr) (n : Nat) (xs : List PrC) : Prop where
  row : RowK 6 w A n (xs.map prL)
  each : ∀ x ∈ xs, PrOk w x
section
variable {w w' : World} {A : Option Addr} {n : Nat} {xs : List PrC}
theorem PsOk.len (h : PsOk w A n xs) : xs.length = n := by have := h.row.len; simpa using this
theorem PsOk.later (h : PsOk w A n xs) (hl : Later w w') : PsOk w' A n xs := ⟨h.row.later hl, fun x hx => (h.each x hx).later hl⟩
theorem PsOk.none (w : World) (A : Option Addr) : PsOk w A 0 [] := ⟨RowK.none, fun x hx => by cases hx⟩
theorem RowK.getP (h : RowK 6 w A n (xs.map prL)) {j : Nat} (hj : j < n) : ∃ b o x, A = some ⟨b, o, .none⟩ /\ xs[j]? = some x /\ w.cell? ⟨b, o + j * 6, .none⟩ = some (.int .i64 x.v.kind) /\ w.cell? ⟨b, o + j * 6 + 1, .none⟩ = some (.string x.v.name) /\ w.cell? ⟨b, o + j * 6 + 2, .none⟩ = some (.string x.v.to) /\ w.cell? ⟨b, o + j * 6 + 3, .none⟩ = some (.int .i64 x.v.place) /\ w.cell? ⟨b, o + j * 6 + 4, .none⟩ = some (.slice x.A x.n x.c) /\ w.cell? ⟨b, o + j * 6 + 5, .none⟩ = some (.slice x.B x.m x.d) := by
  obtain ⟨b, o, e, cs, hcs, _, hc⟩ := h.get hj
  have hl : j < xs.length := by have := h.len; simp at this; omega
  have hz := List.getElem?_eq_getElem hl
  simp only [List.getElem?_map, hz, Option.map_some, Option.some.injEq] at hcs
  subst hcs
  exact ⟨b, o, xs[j], e, hz, hc 0 _ rfl, hc 1 _ rfl, hc 2 _ rfl, hc 3 _ rfl, hc 4 _ rfl, hc 5 _ rfl⟩
theorem PsOk.get (h : PsOk w A n xs) {j : Nat} (hj : j < n) : ∃ b o x, A = some ⟨b, o, .none⟩ /\ xs[j]? = some x /\ PrOk w x /\ w.cell? ⟨b, o + j * 6, .none⟩ = some (.int .i64 x.v.kind) /\ w.cell? ⟨b, o + j * 6 + 1, .none⟩ = some (.string x.v.name) /\ w.cell? ⟨b, o + j * 6 + 2, .none⟩ = some (.string x.v.to) /\ w.cell? ⟨b, o + j * 6 + 3, .none⟩ = some (.int .i64 x.v.place) /\ w.cell? ⟨b, o + j * 6 + 4, .none⟩ = some (.slice x.A x.n x.c) /\ w.cell? ⟨b, o + j * 6 + 5, .none⟩ = some (.slice x.B x.m x.d) := by
  obtain ⟨b, o, x, e, hz, hc⟩ := h.row.getP hj
  exact ⟨b, o, x, e, hz, h.each x (List.mem_of_getElem? hz), hc⟩
end
theorem Prims.ok {w : World} {A : Option Addr} {n : Nat} {xs : List PrC} (h : Prims w A n xs) (hw : weightPs xs <= 60000) : PsOk w A n xs :=
  ⟨h.row, fun x hx => (h.each x hx).ok (by have := weightPs_mem hx; omega)⟩
def valsP (xs : List PrC) : List Pr := xs.map (·.v)
theorem valsP_length (xs : List PrC) : (valsP xs).length = xs.length := by simp [valsP]
theorem valsP_take {xs : List PrC} {k : Nat} {x : PrC} (h : xs[k]? = some x) : (valsP xs).take (k + 1) = (valsP xs).take k ++ [x.v] := by
  obtain ⟨hk, rfl⟩ := List.getElem?_eq_some_iff.1 h
  unfold valsP
  rw [List.take_succ_eq_append_getElem (by simpa using hk)]
  simp
theorem valsP_at {xs : List PrC} {k : Nat} {x : PrC} (h : xs[k]? = some x) : (valsP xs)[k]? = some x.v := by simp [valsP, h]

structure OwnPs (e : TypeId) (w0 w : World) (v : Value) (xs : List PrC) : Prop where
  own : OwnK e 6 w0 w v (xs.map prL)
  ok : ∀ x ∈ xs, PrOk w x
  away : ∀ x ∈ xs, ∀ g, v.ownBlock = some g -> Away g x
section
variable {e : TypeId} {w0 w w' : World} {v : Value} {xs : List PrC}
theorem OwnPs.later (h : OwnPs e w0 w v xs) : Later w0 w := h.own.later
theorem OwnPs.nil (hl : Later w0 w) : OwnPs e w0 w (.slice none 0 0) [] := ⟨OwnK.nil hl, (fun x hx => by cases hx), fun x hx => by cases hx⟩
theorem OwnPs.on (h : OwnPs e w0 w v xs) (hl : Later w w') : OwnPs e w0 w' v xs := ⟨h.own.on hl, fun x hx => (h.ok x hx).later hl, h.away⟩
theorem OwnPs.row (h : OwnPs e w0 w v xs) : ∃ A c, v = .slice A xs.length c /\ xs.length <= c /\ PsOk w A xs.length xs := by
  obtain ⟨A, c, hv, hc, hr⟩ := h.own.row
  simp only [List.length_map] at hv hc hr
  exact ⟨A, c, hv, hc, hr, h.ok⟩
theorem OwnPs.block (h : OwnPs e w0 w v xs) : ∀ b, v.ownBlock = some b -> w0.heap.size <= b := h.own.block
theorem OwnPs.lt (h : OwnPs e w0 w v xs) : ∀ b, v.ownBlock = some b -> b < w.heap.size := fun b hb => (h.own.1.lt b hb).2
theorem OwnPs.base {w1 : World} (h : OwnPs e w0 w v xs) (hl : Later w1 w0) : OwnPs e w1 w v xs :=
  ⟨⟨by
    refine ⟨h.own.1.1, ?_⟩
    rcases h.own.1.2 with h1 | ⟨g, cap, cur, h1, h2, h3⟩
    · exact .inl h1
    · exact .inr ⟨g, cap, cur, h1, Nat.le_trans hl.le h2, h3⟩, h.own.2.1, hl.trans h.own.2.2⟩, h.ok, h.away⟩
theorem OwnPs.other {g : Nat} (h : OwnPs e w0 w v xs) (hg : Turned g w w') (hv : v.ownBlock ≠ some g) (ha : ∀ x ∈ xs, Away g x) (hl : Later w0 w') : OwnPs e w0 w' v xs :=
  ⟨⟨h.own.1.kept hg (by
    cases hb : v.ownBlock with
    | none => exact .inl rfl
    | some b => right; rw [hb] at hv; exact hv), h.own.2.1, hl⟩, fun x hx => (h.ok x hx).off hg (ha x hx), h.away⟩
end

section
variable {P : Program} {e : TypeId} {w0 w : World} {v : Value} {xs : List PrC}
theorem run_append_ps5 (t ty : TypeId) (i : TypeInfo) (z : Value) (bytes : Nat) (ht : P.underlying t = some (.slice e)) (hi : P.info? e = some i) (hz : i.zero = some z) (hsize : i.size = 6) (hby : i.bytes = bytes) (hzs : z.cells.size = 6)
    (hown : OwnPs e w0 w v xs) (A : Option Addr) (m c : Nat) (ys : List PrC) (hr : RowK 6 w A m (ys.map prL)) (hok : ∀ y ∈ ys, PrOk w y) (haw : ∀ y ∈ ys, ∀ g, v.ownBlock = some g -> Away g y) (hb : xs.length + m <= 1000000) (hbb : bytes <= 1000) :
    ∃ v' w', (Builtin.append_ #[t, t] ty #[v, .slice A m c]).run P w = .ok v' w' /\ OwnPs e w0 w' v' (xs ++ ys) /\ w.grownBy w' v.ownBlock /\ (v'.ownBlock = v.ownBlock ∨ v'.ownBlock = some w.heap.size) := by
  have hone : ∀ cs ∈ ys.map prL, ∀ u ∈ cs, u.oneCell' = true := by
    intro cs hcs u hu
    obtain ⟨y, _, rfl⟩ := List.mem_map.1 hcs
    simp only [prL, List.mem_cons, List.not_mem_nil, or_false] at hu
    rcases hu with rfl | rfl | rfl | rfl | rfl | rfl <;> rfl
  have hl := hr.len
  simp only [List.length_map] at hl
  have hbig : (xs.length + m) * bytes <= 140737488355328 := Nat.le_trans (Nat.mul_le_mul hb hbb) (by omega)
  have hkeep : ∀ (w' : World), w.grownBy w' v.ownBlock -> ∀ x ∈ xs ++ ys, PrOk w' x := by
    intro w' hg x hx
    have h1 : PrOk w x := by
      rcases List.mem_append.1 hx with h | h
      · exact hown.ok x h
      · exact hok x h
    have h2 : ∀ g, v.ownBlock = some g -> Away g x := by
      rcases List.mem_append.1 hx with h | h
      · exact hown.away x h
      · exact haw x h
    cases hv : v.ownBlock with
    | none => rw [hv] at hg; exact h1.later ⟨hg.os, hg.tape, hg.output, hg.size, fun i hi => hg.block i hi (by simp)⟩
    | some g => rw [hv] at hg; exact h1.off (g := g) hg (h2 g hv)
  have haway : ∀ v' : Value, (v'.ownBlock = v.ownBlock ∨ v'.ownBlock = some w.heap.size) -> ∀ x ∈ xs ++ ys, ∀ g, v'.ownBlock = some g -> Away g x := by
    intro v' hv x hx g hg
    rcases hv with hv | hv
    · rw [hv] at hg
      rcases List.mem_append.1 hx with h | h
      · exact hown.away x h g hg
      · exact haw x h g hg
    · rw [hv] at hg
      cases hg
      rcases List.mem_append.1 hx with h | h
      · exact (hown.ok x h).away (Nat.le_refl _)
      · exact (hok x h).away (Nat.le_refl _)
  rcases Nat.eq_zero_or_pos m with h0 | h0
  · subst h0
    have hn : ys = [] := List.eq_nil_of_length_eq_zero hl
    subst hn
    rw [List.append_nil]
    rcases A with _ | ad
    · refine ⟨v, w, ?_, hown, ⟨rfl, rfl, rfl, Nat.le_refl _, fun _ _ _ => rfl⟩, .inl rfl⟩
      rcases hown.own.1.2 with ⟨rfl, _⟩ | ⟨g, cap, cur, rfl, _, _, hnc, _⟩
      · simp [Builtin.append_, run_underlying ht, sizeOf, typeInfo, hi, Builtin.lenOf, Builtin.firstCells]
      · simp only [List.length_map] at hnc
        simp [Builtin.append_, run_underlying ht, sizeOf, typeInfo, hi, Builtin.lenOf, Builtin.firstCells, hnc, storeCells]
    · obtain ⟨v', w', hrun, h2, h3, _, h5⟩ := run_append_own_at (P := P) w w0.heap.size t ty e i z 6 bytes ht hi hz hsize hby hzs (by decide) v xs.length (xs.map prL).flatten (by simpa using hown.own.1) ad 0 c [] (by simp)
        (fun j u hu => by simp at hu) (fun u hu => by simp at hu) (by simp only [maxLen]; omega) hbig hown.own.2.2.size
      refine ⟨v', w', hrun, ⟨⟨by simpa using h2, hown.own.2.1, Below.grown hown.own.2.2 h3 hown.own.2.2.size hown.own.block⟩, by simpa using hkeep w' h3, by simpa using haway v' h5⟩, h3, h5⟩
  · obtain ⟨b, o, rfl, hc⟩ := hr.2.2 h0
    obtain ⟨v', w', hrun, h2, h3, _, h5⟩ := run_append_own_at (P := P) w w0.heap.size t ty e i z 6 bytes ht hi hz hsize hby hzs (by decide) v xs.length (xs.map prL).flatten (by simpa using hown.own.1) ⟨b, o, none⟩ m c (ys.map prL).flatten
      (by rw [flat_length hr.2.1]; simp [hl])
      (fun j u hu => by
        have hjl := (List.getElem?_eq_some_iff.1 hu).1
        rw [flat_length hr.2.1] at hjl
        have hq : j / 6 < (ys.map prL).length := (Nat.div_lt_iff_lt_mul (by decide)).2 hjl
        have hjk : j / 6 * 6 + j % 6 = j := by omega
        have hat := flat_at (i := j % 6) hr.2.1 (List.getElem?_eq_getElem hq) (Nat.mod_lt _ (by decide))
        rw [hjk, hu] at hat
        have := hc (j / 6) (j % 6) _ u (List.getElem?_eq_getElem hq) hat.symm
        rw [plain_add, ← hjk, ← Nat.add_assoc]
        exact this)
      (fun u hu => by
        obtain ⟨cs, hcs, hu⟩ := List.mem_flatten.1 hu
        exact hone cs hcs u hu)
      (by simp only [maxLen]; omega) hbig hown.own.2.2.size
    refine ⟨v', w', hrun, ⟨⟨?_, fun cs hcs => ?_, Below.grown hown.own.2.2 h3 hown.own.2.2.size hown.own.block⟩, hkeep w' h3, haway v' h5⟩, h3, h5⟩
    · simp only [List.map_append, List.length_append, List.length_map, List.flatten_append, hl]
      exact h2
    · obtain ⟨y, _, rfl⟩ := List.mem_map.1 hcs
      rfl

theorem run_append_ps (t ty : TypeId) (i : TypeInfo) (z : Value) (bytes : Nat) (ht : P.underlying t = some (.slice e)) (hi : P.info? e = some i) (hz : i.zero = some z) (hsize : i.size = 6) (hby : i.bytes = bytes) (hzs : z.cells.size = 6)
    (hown : OwnPs e w0 w v xs) (A : Option Addr) (m c : Nat) (ys : List PrC) (hr : RowK 6 w A m (ys.map prL)) (hok : ∀ y ∈ ys, PrOk w y) (haw : ∀ y ∈ ys, ∀ g, v.ownBlock = some g -> Away g y) (hb : xs.length + m <= 1000000) (hbb : bytes <= 1000) :
    ∃ v' w', (Builtin.append_ #[t, t] ty #[v, .slice A m c]).run P w = .ok v' w' /\ OwnPs e w0 w' v' (xs ++ ys) /\ w.grownBy w' v.ownBlock := by
  obtain ⟨v', w', h1, h2, h3, _⟩ := run_append_ps5 (P := P) t ty i z bytes ht hi hz hsize hby hzs hown A m c ys hr hok haw hb hbb
  exact ⟨v', w', h1, h2, h3⟩
theorem wpList_append_ps {ops : Array Oper} {rest : List Oper} {o : Oper} {a : Act} {Q : Exit -> Act -> World -> Prop} (hgd : o.guard = none) (s x : Operand) (t : TypeId)
    (ho : o.op = .call { callee := .builtin .append, args := #[s, x], argTypes := #[t, t] }) (i : TypeInfo) (z : Value) (bytes : Nat)
    (ht : P.underlying t = some (.slice e)) (hi : P.info? e = some i) (hz : i.zero = some z) (hsize : i.size = 6) (hby : i.bytes = bytes) (hzs : z.cells.size = 6)
    (hown : OwnPs e w0 w v xs) (hs : a.eval s = v) (A : Option Addr) (m c : Nat) (ys : List PrC) (hx : a.eval x = .slice A m c) (hr : RowK 6 w A m (ys.map prL)) (hok : ∀ y ∈ ys, PrOk w y) (haw : ∀ y ∈ ys, ∀ g, v.ownBlock = some g -> Away g y) (hb : xs.length + m <= 1000000) (hbb : bytes <= 1000)
    (h : ∀ v' w', OwnPs e w0 w' v' (xs ++ ys) -> w.grownBy w' v.ownBlock -> wpList P ops Q rest (a.put o.dst v') w') : wpList P ops Q (o :: rest) a w := by
  refine wpList_plain hgd fun K hK => ?_
  obtain ⟨v', w', hrun, h2, h3⟩ := run_append_ps (P := P) t o.type i z bytes ht hi hz hsize hby hzs hown A m c ys hr hok haw hb hbb
  unfold Oper.wp execOp
  simp only [ho, resolve, invoke, builtin, Sem.run_bind, Sem.run_pure, Result.andThen_ok, List.map_toArray, List.map_cons, List.map_nil, hs, hx, hrun]
  exact hK _ _ (h v' w' h2 h3)
theorem wpList_append_ps5 {ops : Array Oper} {rest : List Oper} {o : Oper} {a : Act} {Q : Exit -> Act -> World -> Prop} (hgd : o.guard = none) (s x : Operand) (t : TypeId)
    (ho : o.op = .call { callee := .builtin .append, args := #[s, x], argTypes := #[t, t] }) (i : TypeInfo) (z : Value) (bytes : Nat)
    (ht : P.underlying t = some (.slice e)) (hi : P.info? e = some i) (hz : i.zero = some z) (hsize : i.size = 6) (hby : i.bytes = bytes) (hzs : z.cells.size = 6)
    (hown : OwnPs e w0 w v xs) (hs : a.eval s = v) (A : Option Addr) (m c : Nat) (ys : List PrC) (hx : a.eval x = .slice A m c) (hr : RowK 6 w A m (ys.map prL)) (hok : ∀ y ∈ ys, PrOk w y) (haw : ∀ y ∈ ys, ∀ g, v.ownBlock = some g -> Away g y) (hb : xs.length + m <= 1000000) (hbb : bytes <= 1000)
    (h : ∀ v' w', OwnPs e w0 w' v' (xs ++ ys) -> w.grownBy w' v.ownBlock -> (v'.ownBlock = v.ownBlock ∨ v'.ownBlock = some w.heap.size) -> wpList P ops Q rest (a.put o.dst v') w') : wpList P ops Q (o :: rest) a w := by
  refine wpList_plain hgd fun K hK => ?_
  obtain ⟨v', w', hrun, h2, h3, h5⟩ := run_append_ps5 (P := P) t o.type i z bytes ht hi hz hsize hby hzs hown A m c ys hr hok haw hb hbb
  unfold Oper.wp execOp
  simp only [ho, resolve, invoke, builtin, Sem.run_bind, Sem.run_pure, Result.andThen_ok, List.map_toArray, List.map_cons, List.map_nil, hs, hx, hrun]
  exact hK _ _ (h v' w' h2 h3 h5)
end

theorem PrOk.later6 {w : World} {x : PrC} (h : PrOk w x) (o : Obj) : PrOk (w.alloc o) x := h.later ((Later.refl w).alloc o)
theorem row_one (w : World) (x : PrC) (t : TypeId) : RowK 6 (w.alloc (.cells #[.int .i64 x.v.kind, .string x.v.name, .string x.v.to, .int .i64 x.v.place, .slice x.A x.n x.c, .slice x.B x.m x.d] t)) (some ⟨w.heap.size, 0, .none⟩) 1 ([x].map prL) := RowK.one w (prL x) t

end Go.Proofs.YtlnjhimbgckdcaaGreat

/-
  What the document's Right comes to, as a call.
-/
namespace Go.Proofs.YtlnjhimbgckdcaaGreat
open Go.RowKit

set_option maxHeartbeats 400000 in
theorem refRight_any (s : ByteArray) (w : World) (hs : s.size <= maxLen) :
    Calls Tryz.prog 36 #[.string s] w fun e w' => e = .returned (.bool (rightB s)) /\ w = w' := by
  unfold maxLen at hs
  go_enter Tryz.func36, Tryz.ntmps36
  go_wp2
  go_loop [3] (fun i => ∃ k : Nat, k <= s.size /\ i = .int .i64 k /\ Hid (∀ j : Nat, j < k -> s.data.toList[j]? ≠ some 10)) (fun i => s.size - (intOf i).toNat)
  case atStart => exact ⟨0, Nat.zero_le _, rfl, fun j hj => absurd hj (Nat.not_lt_zero _)⟩
  case round =>
    obtain ⟨k, hk, rfl, hno⟩ := hrel
    by_cases hlt : k < s.size
    · go_wp2
      · have h10 := byte_is (c := s[k]) ‹_›
        have e : rightB s = false := by
          unfold rightB
          rw [hasEnd_yes (k := k) (by rw [byte_at hlt, h10])]; simp
        have E := Lib.hid e
        go_ret
        exact ⟨ret_bool E.out.symm, rfl⟩
      · have h10 := byte_isnt (c := s[k]) ‹_›
        refine ⟨⟨k + 1, by omega, by go_num, fun j hj => ?_⟩, by simp [intOf]; omega⟩
        by_cases e : j = k
        · subst e; rw [byte_at hlt]; simpa using h10
        · exact hno.out j (by omega)
    · have e : rightB s = decide (s.size <= 60) := by
        unfold rightB
        rw [hasEnd_no (fun j => ?_)]; simp
        by_cases hj : j < k
        · exact hno.out j hj
        · rw [List.getElem?_eq_none (by simp; omega)]; simp
      have E := Lib.hid e; clear e hno
      go_wp2
      go_ret
      exact ⟨ret_bool (by rw [E.out]; simp; omega), rfl⟩

end Go.Proofs.YtlnjhimbgckdcaaGreat

/-
  What the document's All comes to, as a call.
-/
namespace Go.Proofs.YtlnjhimbgckdcaaGreat
open Go.RowKit

set_option maxHeartbeats 400000 in
theorem refAll_any (A : Option Addr) (n c : Nat) (l : List ByteArray) (w : World) (hx : Row w A n l) (hn : n <= 65536) (hs : ∀ x ∈ l, x.size <= maxLen) :
    Calls Tryz.prog 68 #[.slice A n c] w fun e w' => e = .returned (.bool (allB l)) /\ w = w' := by
  have HX := Lib.hid hx; clear hx
  have HS := Lib.hid hs; clear hs
  go_enter Tryz.func68, Tryz.ntmps68
  go_wp2
  go_loop [3] (fun i => ∃ k : Nat, k <= n /\ i = .int .i64 k /\ Hid (∀ j : Nat, j < k -> rightB (l.getD j ByteArray.empty) = true)) (fun i => n - (intOf i).toNat)
  case atStart => exact ⟨0, Nat.zero_le _, rfl, fun j hj => absurd hj (Nat.not_lt_zero _)⟩
  case round =>
    obtain ⟨k, hk, rfl, hall⟩ := hrel
    by_cases hlt : k < n
    · obtain ⟨b1, o1, rfl, g1⟩ := HX.out.get hlt
      have hkl : k < l.length := by rw [HX.out.len]; exact hlt
      have hsz : (l.getD k ByteArray.empty).size <= maxLen := by
        simp only [List.getD, List.getElem?_eq_getElem hkl, Option.getD_some]
        exact HS.out _ (List.getElem_mem hkl)
      have hr := refRight_any (l.getD k ByteArray.empty) w hsz
      cases hb : rightB (l.getD k ByteArray.empty)
      · rw [hb] at hr
        have e := allB_get hkl hb
        have E := Lib.hid e
        have HR := Lib.hid hr; clear hr hb hsz e hkl hall
        generalize l.getD k ByteArray.empty = x at g1 HR
        go_wp2_with (go_at_call 36; refine HR.out.mono ?_; rintro e w' ⟨rfl, rfl⟩)
        go_ret
        exact ⟨ret_bool E.out.symm, rfl⟩
      · rw [hb] at hr
        have HA : Hid (∀ j : Nat, j < k + 1 -> rightB (l.getD j ByteArray.empty) = true) := fun j hj => by
          by_cases e : j = k
          · rw [e]; exact hb
          · exact hall.out j (by omega)
        have HR := Lib.hid hr; clear hr hb hsz hkl hall
        generalize l.getD k ByteArray.empty = x at g1 HR
        go_wp2_with (go_at_call 36; refine HR.out.mono ?_; rintro e w' ⟨rfl, rfl⟩)
        exact ⟨⟨k + 1, by omega, by go_num, HA⟩, by simp [intOf]; omega⟩
    · have e : allB l = true := allB_all fun j hj => hall.out j (by rw [HX.out.len] at hj; omega)
      have E := Lib.hid e; clear e hall
      go_wp2
      go_ret
      exact ⟨ret_bool E.out.symm, rfl⟩

end Go.Proofs.YtlnjhimbgckdcaaGreat

/-
  What the document's Same comes to, as a call.
-/
namespace Go.Proofs.YtlnjhimbgckdcaaGreat
open Go.RowKit

set_option maxHeartbeats 400000 in
theorem refSame_any (A B : Option Addr) (n c m d : Nat) (xs ys : List ByteArray) (w : World) (hx : Row w A n xs) (hy : Row w B m ys) (hn : n <= 65536) (hm : m <= 65536) :
    Calls Tryz.prog 66 #[.slice A n c, .slice B m d] w fun e w' => e = .returned (.bool (sameB xs ys)) /\ ∃ q, w' = w.drewN q := by
  by_cases hnm : n = m
  · subst hnm
    have HX := Lib.hid hx; clear hx
    have HY := Lib.hid hy; clear hy
    go_enter Tryz.func66, Tryz.ntmps66
    go_wp2
    go_loopg [5] n (fun g s5 wr => ∃ k q : Nat, k <= n /\ n - k <= g /\ s5 = .int .i64 k /\ wr = w.drewN q /\ Hid (xs.take k = ys.take k))
    case atStart => exact ⟨0, 0, Nat.zero_le _, by omega, rfl, rfl, by simp [Hid]⟩
    case round =>
      obtain ⟨k, q, hk, hg, rfl, rfl, heq⟩ := hrel
      by_cases hlt : k < n
      · obtain ⟨b1, o1, rfl, g1⟩ := HX.out.get hlt
        obtain ⟨b2, o2, rfl, g2⟩ := HY.out.get hlt
        generalize hxk : xs.getD k ByteArray.empty = x at g1
        generalize hyk : ys.getD k ByteArray.empty = y at g2
        have X := Lib.hid hxk; clear hxk
        have Y := Lib.hid hyk; clear hyk
        by_cases hxy : x = y
        · subst hxy
          go_wp2_with fail
          go_quiet (fail)
          go_wp2
          go_roundg (n - (k + 1))
          case measure => omega
          case rel => exact ⟨k + 1, _, by omega, by omega, by go_num, rfl, take_same (by rw [HX.out.len]; exact hlt) (by rw [HY.out.len]; exact hlt) heq.out (X.out.trans Y.out.symm)⟩
        · have hb := text_ne hxy
          go_wp2_with fail
          go_quiet (fail)
          go_wp2
          go_ret
          exact ⟨ret_bool (beq_of_other (by rw [X.out, Y.out]; exact hxy)).symm, _, World.drewN_drewN _ _ _⟩
      · have hkn : k = n := by omega
        have e : sameB xs ys = true := by
          rw [hkn, List.take_of_length_le (by rw [HX.out.len]; omega), List.take_of_length_le (by rw [HY.out.len]; omega)] at heq
          exact sameB_yes heq.out
        have E := Lib.hid e; clear e heq
        go_wp2
        go_ret
        exact ⟨ret_bool E.out.symm, _, rfl⟩
  · have e : sameB xs ys = false := by
      refine sameB_no fun h => ?_; rw [h] at hx; exact hnm (hx.len.symm.trans hy.len)
    have E := Lib.hid e; clear e hx hy
    have hnm' : ¬ (n : Int) = (m : Int) := by omega
    go_enter Tryz.func66, Tryz.ntmps66
    go_wp2
    go_ret
    exact ⟨ret_bool E.out.symm, 0, rfl⟩

end Go.Proofs.YtlnjhimbgckdcaaGreat

/-
  What the document's Right comes to, as a call.
-/
namespace Go.Proofs.YtlnjhimbgckdcaaGreat
open Go.RowKit

set_option maxRecDepth 100000 in
set_option maxHeartbeats 800000 in
theorem refRightP_any (x : PrC) (w : World) (hx : PrOk w x) :
    Calls Tryz.prog 54 #[prV x] w (Says (rightP x.v) w) := by
  obtain ⟨⟨kd, nm, to, pl, old, new⟩, A, n, c, B, m, d⟩ := x
  have hlb : Later w (w.alloc (.cells #[.int .i64 kd, .string nm, .string to, .int .i64 pl, .slice A n c, .slice B m d] 89)) := (Later.refl w).alloc _
  have hn := refNamed_any nm (w.alloc (.cells #[.int .i64 kd, .string nm, .string to, .int .i64 pl, .slice A n c, .slice B m d] 89)) hx.name
  have ht := refNamed_any to (w.alloc (.cells #[.int .i64 kd, .string nm, .string to, .int .i64 pl, .slice A n c, .slice B m d] 89)) hx.to
  have H1 := Lib.hid (refAll_any A n c old _ (hx.old.later hlb) hx.omost hx.olds)
  have H2 := Lib.hid (refAll_any B m d new _ (hx.new.later hlb) hx.nmost hx.news)
  have H3 := Lib.hid (refSame_any A B n c m d old new _ (hx.old.later hlb) (hx.new.later hlb) hx.omost hx.nmost)
  have hnl := hx.old.len
  have hml := hx.new.len
  have hn1 := hx.omost
  have hm1 := hx.nmost
  have HLB := Lib.hid hlb
  unfold prV
  dsimp only at hnl hml hn1 hm1 ⊢
  clear hx hlb
  cases h1 : namedB nm
  · rw [h1] at hn
    have HN := Lib.hid hn
    rw [rightP_name kd nm to pl old new h1]
    clear hn ht h1
    go_enter Tryz.func54, Tryz.ntmps54
    go_wp2_with fail
    refine HN.out.mono ?_
    rintro e w1 ⟨rfl, rfl⟩
    go_wp2
    go_ret
    exact ⟨rfl, HLB.out⟩
  rw [h1] at hn
  have HN := Lib.hid hn
  have HT := Lib.hid ht
  clear hn ht
  by_cases k0 : kd = 0
  · subst k0
    rw [rightP_hunk nm to pl old new h1]
    clear h1
    by_cases h2 : to = ByteArray.empty
    · subst h2
      by_cases h3 : 0 <= pl
      · by_cases h4 : pl <= 1048576
        · rw [decide_eq_true (show 0 <= pl /\ pl <= 1048576 from ⟨h3, h4⟩), decide_eq_true (rfl : ByteArray.empty = ByteArray.empty), Bool.true_and, Bool.true_and]
          have d3 : ¬ pl < 0 := by omega
          have d4 : ¬ 1048576 < pl := by omega
          cases h5 : allB old
          · rw [h5] at H1
            go_enter Tryz.func54, Tryz.ntmps54
            go_wp2_with fail
            refine HN.out.mono ?_
            rintro e w1 ⟨rfl, rfl⟩
            go_wp2_with fail
            refine H1.out.mono ?_
            rintro e w1 ⟨rfl, rfl⟩
            go_wp2
            go_ret
            exact ⟨rfl, HLB.out⟩
          · rw [h5] at H1
            cases h6 : allB new
            · rw [h6] at H2
              go_enter Tryz.func54, Tryz.ntmps54
              go_wp2_with fail
              refine HN.out.mono ?_
              rintro e w1 ⟨rfl, rfl⟩
              go_wp2_with fail
              refine H1.out.mono ?_
              rintro e w1 ⟨rfl, rfl⟩
              go_wp2_with fail
              refine H2.out.mono ?_
              rintro e w1 ⟨rfl, rfl⟩
              go_wp2
              go_ret
              exact ⟨rfl, HLB.out⟩
            · rw [h6] at H2
              generalize sameB old new = b at H3 ⊢
              go_enter Tryz.func54, Tryz.ntmps54
              go_wp2_with fail
              refine HN.out.mono ?_
              rintro e w1 ⟨rfl, rfl⟩
              go_wp2_with fail
              refine H1.out.mono ?_
              rintro e w1 ⟨rfl, rfl⟩
              go_wp2_with fail
              refine H2.out.mono ?_
              rintro e w1 ⟨rfl, rfl⟩
              go_wp2_with fail
              refine H3.out.mono ?_
              rintro e w1 ⟨rfl, q, rfl⟩
              go_wp2
              go_ret
              exact ⟨rfl, HLB.out.drewN q⟩
        · have e : ¬ (0 <= pl /\ pl <= 1048576) := fun h => h4 h.2
          rw [decide_eq_false e, Bool.and_false, Bool.false_and]
          have d3 : ¬ pl < 0 := by omega
          have d4 : 1048576 < pl := by omega
          clear e
          go_enter Tryz.func54, Tryz.ntmps54
          go_wp2_with fail
          refine HN.out.mono ?_
          rintro e w1 ⟨rfl, rfl⟩
          go_wp2
          go_ret
          exact ⟨rfl, HLB.out⟩
      · have e : ¬ (0 <= pl /\ pl <= 1048576) := fun h => h3 h.1
        rw [decide_eq_false e, Bool.and_false, Bool.false_and]
        have d3 : pl < 0 := by omega
        clear e
        go_enter Tryz.func54, Tryz.ntmps54
        go_wp2_with fail
        refine HN.out.mono ?_
        rintro e w1 ⟨rfl, rfl⟩
        go_wp2
        go_ret
        exact ⟨rfl, HLB.out⟩
    · have hb := list_ne h2
      rw [decide_eq_false h2, Bool.false_and, Bool.false_and]
      go_enter Tryz.func54, Tryz.ntmps54
      go_wp2_with fail
      refine HN.out.mono ?_
      rintro e w1 ⟨rfl, rfl⟩
      go_wp2
      go_ret
      exact ⟨rfl, HLB.out⟩
  by_cases kb : kd < 0 ∨ 3 < kd
  · rw [rightP_none kd nm to pl old new (by omega) (by omega) (by omega) (by omega)]
    clear h1
    rcases kb with kb | kb
    · go_enter Tryz.func54, Tryz.ntmps54
      go_wp2_with fail
      refine HN.out.mono ?_
      rintro e w1 ⟨rfl, rfl⟩
      go_wp2
      go_ret
      exact ⟨rfl, HLB.out⟩
    · have kb' : ¬ kd < 0 := by omega
      go_enter Tryz.func54, Tryz.ntmps54
      go_wp2_with fail
      refine HN.out.mono ?_
      rintro e w1 ⟨rfl, rfl⟩
      go_wp2
      go_ret
      exact ⟨rfl, HLB.out⟩
  have kc : kd = 1 ∨ kd = 2 ∨ kd = 3 := by omega
  clear kb
  by_cases hbare : pl = 0 /\ n = 0 /\ m = 0
  · obtain ⟨rfl, rfl, rfl⟩ := hbare
    obtain rfl : old = [] := List.eq_nil_of_length_eq_zero hnl
    obtain rfl : new = [] := List.eq_nil_of_length_eq_zero hml
    rcases kc with rfl | rfl | rfl
    · by_cases h2 : to = ByteArray.empty
      · subst h2
        have E : Hid (rightP ⟨1, nm, ByteArray.empty, 0, [], []⟩ = true) := by simp [Hid, rightP, h1]
        clear h1
        go_enter Tryz.func54, Tryz.ntmps54
        go_wp2_with fail
        refine HN.out.mono ?_
        rintro e w1 ⟨rfl, rfl⟩
        go_wp2
        go_ret
        exact ⟨ret_bool E.out.symm, HLB.out⟩
      · have hb := list_ne h2
        have E : Hid (rightP ⟨1, nm, to, 0, [], []⟩ = false) := by simp [Hid, rightP, h1, h2]
        clear h1
        go_enter Tryz.func54, Tryz.ntmps54
        go_wp2_with fail
        refine HN.out.mono ?_
        rintro e w1 ⟨rfl, rfl⟩
        go_wp2
        go_ret
        exact ⟨by rw [E.out]; first | rfl | simp [hb], HLB.out⟩
    · by_cases h2 : to = ByteArray.empty
      · subst h2
        have E : Hid (rightP ⟨2, nm, ByteArray.empty, 0, [], []⟩ = true) := by simp [Hid, rightP, h1]
        clear h1
        go_enter Tryz.func54, Tryz.ntmps54
        go_wp2_with fail
        refine HN.out.mono ?_
        rintro e w1 ⟨rfl, rfl⟩
        go_wp2
        go_ret
        exact ⟨ret_bool E.out.symm, HLB.out⟩
      · have hb := list_ne h2
        have E : Hid (rightP ⟨2, nm, to, 0, [], []⟩ = false) := by simp [Hid, rightP, h1, h2]
        clear h1
        go_enter Tryz.func54, Tryz.ntmps54
        go_wp2_with fail
        refine HN.out.mono ?_
        rintro e w1 ⟨rfl, rfl⟩
        go_wp2
        go_ret
        exact ⟨by rw [E.out]; first | rfl | simp [hb], HLB.out⟩
    · rw [rightP_move nm to 0 [] [] h1]
      have eb : bareP ⟨3, nm, to, 0, [], []⟩ = true := by simp [bareP]
      rw [eb, Bool.and_true]
      clear h1 eb
      cases h2 : namedB to
      · rw [h2] at HT
        rw [Bool.false_and]
        go_enter Tryz.func54, Tryz.ntmps54
        go_wp2_with fail
        refine HN.out.mono ?_
        rintro e w1 ⟨rfl, rfl⟩
        go_wp2_with fail
        refine HT.out.mono ?_
        rintro e w1 ⟨rfl, rfl⟩
        go_wp2
        go_ret
        exact ⟨rfl, HLB.out⟩
      · rw [h2] at HT
        rw [Bool.true_and]
        by_cases h3 : to = nm
        · subst h3
          rw [decide_eq_false (fun h : to ≠ to => h rfl)]
          go_enter Tryz.func54, Tryz.ntmps54
          go_wp2_with fail
          refine HN.out.mono ?_
          rintro e w1 ⟨rfl, rfl⟩
          go_wp2_with fail
          refine HT.out.mono ?_
          rintro e w1 ⟨rfl, rfl⟩
          go_wp2
          go_ret
          exact ⟨by simp, HLB.out⟩
        · rw [decide_eq_true h3]
          have hb := text_ne h3
          go_enter Tryz.func54, Tryz.ntmps54
          go_wp2_with fail
          refine HN.out.mono ?_
          rintro e w1 ⟨rfl, rfl⟩
          go_wp2_with fail
          refine HT.out.mono ?_
          rintro e w1 ⟨rfl, rfl⟩
          go_wp2
          go_ret
          exact ⟨by first | rfl | simp [hb], HLB.out⟩
  · have E : Hid (rightP ⟨kd, nm, to, pl, old, new⟩ = false) := by
      have hb : bareP ⟨kd, nm, to, pl, old, new⟩ = false := by
        cases hq : bareP ⟨kd, nm, to, pl, old, new⟩
        · rfl
        · simp only [bareP, Bool.and_eq_true, decide_eq_true_eq] at hq
          obtain ⟨⟨rfl, rfl⟩, rfl⟩ := hq
          exact absurd ⟨rfl, hnl.symm, hml.symm⟩ hbare
      rcases kc with rfl | rfl | rfl
      · show _ = _
        rw [rightP_one 1 nm to pl old new h1 (.inl rfl), hb, Bool.and_false]
      · show _ = _
        rw [rightP_one 2 nm to pl old new h1 (.inr rfl), hb, Bool.and_false]
      · show _ = _
        rw [rightP_move nm to pl old new h1, hb, Bool.and_false, Bool.and_false]
    rw [E.out]
    clear h1 hnl hml E
    have c0 : ¬ kd < 0 := by omega
    have c3 : ¬ 3 < kd := by omega
    by_cases hp : pl = 0
    · subst hp
      by_cases hz : 0 < n
      · clear hbare kc
        go_enter Tryz.func54, Tryz.ntmps54
        go_wp2_with fail
        refine HN.out.mono ?_
        rintro e w1 ⟨rfl, rfl⟩
        go_wp2
        go_ret
        exact ⟨rfl, HLB.out⟩
      · obtain rfl : n = 0 := by omega
        have hq : 0 < m := by omega
        clear hbare kc
        go_enter Tryz.func54, Tryz.ntmps54
        go_wp2_with fail
        refine HN.out.mono ?_
        rintro e w1 ⟨rfl, rfl⟩
        go_wp2
        go_ret
        exact ⟨rfl, HLB.out⟩
    · clear hbare kc
      go_enter Tryz.func54, Tryz.ntmps54
      go_wp2_with fail
      refine HN.out.mono ?_
      rintro e w1 ⟨rfl, rfl⟩
      go_wp2
      go_ret
      exact ⟨rfl, HLB.out⟩

end Go.Proofs.YtlnjhimbgckdcaaGreat

/-
  What the document's Same on prims comes to, as a call.
-/
namespace Go.Proofs.YtlnjhimbgckdcaaGreat
open Go.RowKit

set_option maxRecDepth 100000 in
set_option maxHeartbeats 800000 in
theorem refSameP_any (x y : PrC) (w : World) (hx : PrOk w x) (hy : PrOk w y) :
    Calls Tryz.prog 52 #[prV x, prV y] w (Says (sameP x.v y.v) w) := by
  obtain ⟨⟨kd, nm, to, pl, old, new⟩, A, n, c, B, m, d⟩ := x
  obtain ⟨⟨kd', nm', to', pl', old', new'⟩, A', n', c', B', m', d'⟩ := y
  have hlb : Later w ((w.alloc (.cells #[.int .i64 kd, .string nm, .string to, .int .i64 pl, .slice A n c, .slice B m d] 89)).alloc (.cells #[.int .i64 kd', .string nm', .string to', .int .i64 pl', .slice A' n' c', .slice B' m' d'] 89)) := ((Later.refl w).alloc _).alloc _
  have H1 := Lib.hid (refSame_any A A' n c n' c' old old' _ (hx.old.later hlb) (hy.old.later hlb) hx.omost hy.omost)
  have H2 := Lib.hid (fun (w1 : World) (h : Later w w1) => refSame_any B B' m d m' d' new new' w1 (hx.new.later h) (hy.new.later h) hx.nmost hy.nmost)
  have HLB := Lib.hid hlb
  have HX := Lib.hid hx; have HY := Lib.hid hy
  unfold prV
  dsimp only
  clear hx hy hlb
  by_cases h1 : kd = kd'
  · subst h1
    by_cases h2 : nm = nm'
    · subst h2
      by_cases h3 : to = to'
      · subst h3
        by_cases h4 : pl = pl'
        · subst h4
          have E : Hid (sameP ⟨kd, nm, to, pl, old, new⟩ ⟨kd, nm, to, pl, old', new'⟩ = (sameB old old' && sameB new new')) := by simp [Hid, sameP]
          rw [E.out]
          clear E
          cases h5 : sameB old old'
          · rw [h5] at H1
            rw [Bool.false_and]
            go_enter Tryz.func52, Tryz.ntmps52
            go_wp2_with fail
            refine H1.out.mono ?_
            rintro e w1 ⟨rfl, q, rfl⟩
            go_wp2
            go_ret
            exact ⟨rfl, HLB.out.drewN q⟩
          · rw [h5] at H1
            rw [Bool.true_and]
            generalize sameB new new' = b at H2 ⊢
            go_enter Tryz.func52, Tryz.ntmps52
            go_wp2_with fail
            refine H1.out.mono ?_
            rintro e w1 ⟨rfl, q, rfl⟩
            go_wp2_with fail
            refine (H2.out _ (HLB.out.drewN q)).mono ?_
            rintro e w1 ⟨rfl, q2, rfl⟩
            go_wp2
            go_ret
            exact ⟨rfl, HLB.out.drewN _⟩
        · have E : Hid (sameP ⟨kd, nm, to, pl, old, new⟩ ⟨kd, nm, to, pl', old', new'⟩ = false) := by simp [Hid, sameP, h4]
          rw [E.out]
          clear E
          go_enter Tryz.func52, Tryz.ntmps52
          go_wp2
          go_ret
          exact ⟨rfl, HLB.out⟩
      · have E : Hid (sameP ⟨kd, nm, to, pl, old, new⟩ ⟨kd, nm, to', pl', old', new'⟩ = false) := by simp [Hid, sameP, h3]
        rw [E.out]
        have hb := text_ne h3
        clear E
        go_enter Tryz.func52, Tryz.ntmps52
        go_wp2
        go_ret
        exact ⟨rfl, HLB.out⟩
    · have E : Hid (sameP ⟨kd, nm, to, pl, old, new⟩ ⟨kd, nm', to', pl', old', new'⟩ = false) := by simp [Hid, sameP, h2]
      rw [E.out]
      have hb := text_ne h2
      clear E
      go_enter Tryz.func52, Tryz.ntmps52
      go_wp2
      go_ret
      exact ⟨rfl, HLB.out⟩
  · have E : Hid (sameP ⟨kd, nm, to, pl, old, new⟩ ⟨kd', nm', to', pl', old', new'⟩ = false) := by simp [Hid, sameP, h1]
    rw [E.out]
    clear E
    go_enter Tryz.func52, Tryz.ntmps52
    go_wp2
    go_ret
    exact ⟨rfl, HLB.out⟩

end Go.Proofs.YtlnjhimbgckdcaaGreat

/-
  What calls of the library come to, laid at this program: the names of a map, sorted.
-/
namespace Go.Proofs
open Go.Shelf
def Tryz.laysSort_ren : Go.Shelf.Ren := ⟨fun | 6 => 99 | 8 => 103 | 9 => 102 | 19 => 113 | 20 => 114 | 21 => 104 | 22 => 105 | 23 => 106 | 24 => 107 | 25 => 108 | 26 => 109 | 27 => 110 | 28 => 111 | 29 => 112 | 36 => 115 | 31 => 116 | 32 => 117 | 37 => 118 | 38 => 119 | 39 => 120 | 41 => 121 | n => n, fun | 27 => 56 | 29 => 9 | 3 => 3 | 32 => 117 | 26 => 56 | 0 => 0 | 44 => 122 | 46 => 140 | 4 => 4 | 36 => 132 | 35 => 131 | 41 => 136 | 5 => 5 | 9 => 9 | 53 => 141 | 57 => 145 | 63 => 147 | 64 => 148 | n => n, fun | n => n⟩
theorem Tryz.laysSort : Go.Proofs.SlLaysM.n6 Tryz.prog Tryz.laysSort_ren := {
  mixed := by kernel_rfl
  f6 := ⟨Tryz.f99.name, by decide, Tryz.func99.trans (congrArg some (by kernel_rfl))⟩
  f8 := Tryz.func103.trans (congrArg some (by kernel_rfl))
  f9 := ⟨Tryz.f102.name, by decide, Tryz.func102.trans (congrArg some (by kernel_rfl))⟩
  f19 := Tryz.func113.trans (congrArg some (by kernel_rfl))
  f20 := Tryz.func114.trans (congrArg some (by kernel_rfl))
  f21 := ⟨Tryz.f104.name, by decide, Tryz.func104.trans (congrArg some (by kernel_rfl))⟩
  f22 := ⟨Tryz.f105.name, by decide, Tryz.func105.trans (congrArg some (by kernel_rfl))⟩
  f23 := ⟨Tryz.f106.name, by decide, Tryz.func106.trans (congrArg some (by kernel_rfl))⟩
  f24 := ⟨Tryz.f107.name, by decide, Tryz.func107.trans (congrArg some (by kernel_rfl))⟩
  f25 := ⟨Tryz.f108.name, by decide, Tryz.func108.trans (congrArg some (by kernel_rfl))⟩
  f26 := ⟨Tryz.f109.name, by decide, Tryz.func109.trans (congrArg some (by kernel_rfl))⟩
  f27 := ⟨Tryz.f110.name, by decide, Tryz.func110.trans (congrArg some (by kernel_rfl))⟩
  f28 := ⟨Tryz.f111.name, by decide, Tryz.func111.trans (congrArg some (by kernel_rfl))⟩
  f29 := ⟨Tryz.f112.name, by decide, Tryz.func112.trans (congrArg some (by kernel_rfl))⟩
  f31 := Tryz.func116.trans (congrArg some (by kernel_rfl))
  f32 := Tryz.func117.trans (congrArg some (by kernel_rfl))
  f36 := ⟨Tryz.f115.name, by decide, Tryz.func115.trans (congrArg some (by kernel_rfl))⟩
  f37 := ⟨Tryz.f118.name, by decide, Tryz.func118.trans (congrArg some (by kernel_rfl))⟩
  f38 := ⟨Tryz.f119.name, by decide, Tryz.func119.trans (congrArg some (by kernel_rfl))⟩
  f39 := ⟨Tryz.f120.name, by decide, Tryz.func120.trans (congrArg some (by kernel_rfl))⟩
  f41 := ⟨Tryz.f121.name, by decide, Tryz.func121.trans (congrArg some (by kernel_rfl))⟩
  t0 := Tryz.underlying0
  a0 := Tryz.isAgg0
  z0 := Tryz.sizeOf0
  v0 := Tryz.zeroValue0
  t3 := Tryz.underlying3
  a3 := Tryz.isAgg3
  z3 := Tryz.sizeOf3
  v3 := Tryz.zeroValue3
  t4 := Tryz.underlying4
  a4 := Tryz.isAgg4
  z4 := Tryz.sizeOf4
  v4 := Tryz.zeroValue4
  t5 := Tryz.underlying5
  a5 := Tryz.isAgg5
  z5 := Tryz.sizeOf5
  v5 := Tryz.zeroValue5
  t9 := Tryz.underlying9
  a9 := Tryz.isAgg9
  z9 := Tryz.sizeOf9
  v9 := Tryz.zeroValue9
  t26 := Tryz.underlying56
  a26 := Tryz.isAgg56
  z26 := Tryz.sizeOf56
  v26 := Tryz.zeroValue56
  t27 := Tryz.underlying56
  a27 := Tryz.isAgg56
  z27 := Tryz.sizeOf56
  v27 := Tryz.zeroValue56
  t29 := Tryz.underlying9
  a29 := Tryz.isAgg9
  z29 := Tryz.sizeOf9
  v29 := Tryz.zeroValue9
  t32 := Tryz.underlying117
  a32 := Tryz.isAgg117
  z32 := Tryz.sizeOf117
  v32 := Tryz.zeroValue117
  t35 := Tryz.underlying131
  a35 := Tryz.isAgg131
  z35 := Tryz.sizeOf131
  v35 := Tryz.zeroValue131
  t36 := Tryz.underlying132
  a36 := Tryz.isAgg132
  z36 := Tryz.sizeOf132
  v36 := Tryz.zeroValue132
  t41 := Tryz.underlying136
  a41 := Tryz.isAgg136
  z41 := Tryz.sizeOf136
  v41 := Tryz.zeroValue136
  t44 := Tryz.underlying122
  a44 := Tryz.isAgg122
  z44 := Tryz.sizeOf122
  v44 := Tryz.zeroValue122
  t46 := Tryz.underlying140
  a46 := Tryz.isAgg140
  z46 := Tryz.sizeOf140
  v46 := Tryz.zeroValue140
  t53 := Tryz.underlying141
  a53 := Tryz.isAgg141
  z53 := Tryz.sizeOf141
  v53 := Tryz.zeroValue141
  t57 := Tryz.underlying145
  a57 := Tryz.isAgg145
  z57 := Tryz.sizeOf145
  v57 := Tryz.zeroValue145
  t63 := Tryz.underlying147
  a63 := Tryz.isAgg147
  z63 := Tryz.sizeOf147
  v63 := Tryz.zeroValue147
  t64 := Tryz.underlying148
  a64 := Tryz.isAgg148
  z64 := Tryz.sizeOf148
  v64 := Tryz.zeroValue148 }
open Go.RowKit Go.Maps Go.Sort
end Go.Proofs

/-
  What tree's Names comes to, as a call.
-/
namespace Go.Proofs.YtlnjhimbgckdcaaGreat
open Go.RowKit Go.Maps Go.Sort

theorem before_lt : ∀ a b : List UInt8, bytesBefore a b = true ↔ a < b
  | [], [] => by simp [bytesBefore]
  | [], b :: s => by simp [bytesBefore]
  | a :: r, [] => by simp [bytesBefore]
  | a :: r, b :: s => by
    simp only [bytesBefore, Bool.or_eq_true, decide_eq_true_eq, Bool.and_eq_true, beq_iff_eq, List.cons_lt_cons_iff, before_lt r s]

end Go.Proofs.YtlnjhimbgckdcaaGreat
