import Derived.Test.YtomboeiaajggoaaGreatPk5
import Derived.Test.YtomboeiaajggoaaGreatPk10
import Derived.Test.YtomboeiaajggoaaGreatPk15
import Derived.Test.YtomboeiaajggoaaGreatPk17
import Derived.Lib.SliceRun
import Derived.Deep.LoopGhost
import Derived.Deep.QuietTactic
import Derived.BigQuiet
import Derived.Lib.Hide

/-
  Patches in memory: a structure of four cells, one of them a row of numbers, one a row of prims; rows of patches, and such a row of the call's own.
-/
namespace Go.Proofs.YtomboeiaajggoaaGreat
open Go.RowKit Go.Maps

/-- A patch, and where its rows stand. -/
structure PaC where
  v : Pa
  D : Option Addr
  nd : Nat
  cd : Nat
  L : Option Addr
  nl : Nat
  cl : Nat
  xs : List PrC
def paL (x : PaC) : List Value := [.int .i64 x.v.id, .string x.v.note, .slice x.D x.nd x.cd, .slice x.L x.nl x.cl]
def paV (x : PaC) : Value := .agg #[.int .i64 x.v.id, .string x.v.note, .slice x.D x.nd x.cd, .slice x.L x.nl x.cl]
/-- A number's cells. -/
def numL (d : Int) : List Value := [.int .i64 d]
/-- The rows stand there, and nothing is too great. -/
structure PaOk (w : World) (x : PaC) : Prop where
  deps : RowK 1 w x.D x.nd (x.v.deps.map numL)
  row : PsOk w x.L x.nl x.xs
  is : valsP x.xs = x.v.l
  droom : x.nd ≤ x.cd
  lroom : x.nl ≤ x.cl
  dmost : x.nd ≤ 65536
  lmost : x.nl ≤ 30000
  note : x.v.note.size ≤ maxLen
  lo : -9223372036854775808 ≤ x.v.id
  hi : x.v.id ≤ 9223372036854775807
  dlo : ∀ d ∈ x.v.deps, -9223372036854775808 ≤ d
  dhi : ∀ d ∈ x.v.deps, d ≤ 9223372036854775807

section
variable {k n g c l : Nat} {w w' : World} {A : Option Addr} {css : List (List Value)} {x : PaC}
theorem RowK.offK (h : RowK k w A n css) (hg : Turned g w w') (ho : css ≠ [] → Off g (.slice A n c)) : RowK k w' A n css :=
  ⟨h.1, h.2.1, fun hn => by
    obtain ⟨b, o, rfl, hc⟩ := h.2.2 hn
    have hne : css ≠ [] := by rintro rfl; have := h.1; simp at this; omega
    have hb : b ≠ g := fun e => ho hne (by rw [e]; rfl)
    exact ⟨b, o, rfl, fun j i cs v h1 h2 => hg.cell (hc j i cs v h1 h2) hb⟩⟩
theorem RowK.block0 (h : RowK k w A n css) (hk : 0 < k) (hne : css ≠ []) : ∃ b o v, A = some ⟨b, o, .none⟩ ∧ w.cell? ⟨b, o, .none⟩ = some v := by
  have hn : 0 < n := by
    have := h.1
    cases css with
    | nil => exact absurd rfl hne
    | cons s l => simp at this; omega
  obtain ⟨b, o, rfl, hc⟩ := h.2.2 hn
  cases css with
  | nil => exact absurd rfl hne
  | cons s css =>
    cases s with
    | nil => have := h.2.1 [] List.mem_cons_self; simp at this; omega
    | cons v s => exact ⟨b, o, v, rfl, by have := hc 0 0 _ v rfl rfl; simpa using this⟩
theorem RowK.awayK (h : RowK k w A n css) (hk : 0 < k) (hg : w.heap.size ≤ g) (hne : css ≠ []) : Off g (.slice A n c) := by
  obtain ⟨b, o, v, rfl, hc⟩ := h.block0 hk hne
  have h1 := lt_of_cell hc
  intro e
  simp only [Value.ownBlock, Option.some.injEq] at e
  dsimp only at h1
  omega
theorem RowK.shutK {o : Obj} (h : RowK k w A n css) (hk : 0 < k) (hl : w.heap[l]? = some o) (ho : o.isCells = false) (hne : css ≠ []) : Off l (.slice A n c) := by
  obtain ⟨b, o1, v, rfl, hc⟩ := h.block0 hk hne
  have := cell_off hl ho hc
  intro e
  simp only [Value.ownBlock, Option.some.injEq] at e
  exact this e
theorem map_ne {α β : Type} {f : α → β} {l : List α} (h : l.map f ≠ []) : l ≠ [] := fun e => h (by rw [e]; rfl)
theorem map_ne' {α β : Type} {f : α → β} {l : List α} (h : l ≠ []) : l.map f ≠ [] := fun e => h (by simpa using e)

/-- No row of the patch lies in block g. -/
def AwayN (g : Nat) (x : PaC) : Prop := (x.v.deps ≠ [] → Off g (.slice x.D x.nd x.cd)) ∧ (x.xs ≠ [] → Off g (.slice x.L x.nl x.cl)) ∧ ∀ y ∈ x.xs, Away g y
/-- Its rows lie behind all that was there. -/
def FreshN (w : World) (x : PaC) : Prop := (∀ k, (Value.slice x.D x.nd x.cd).ownBlock = some k → w.heap.size ≤ k) ∧ (∀ k, (Value.slice x.L x.nl x.cl).ownBlock = some k → w.heap.size ≤ k) ∧ ∀ y ∈ x.xs, Fresh w y
theorem PsOk.off {n c : Nat} {xs : List PrC} (h : PsOk w A n xs) (hg : Turned g w w') (ho : xs ≠ [] → Off g (.slice A n c)) (ha : ∀ y ∈ xs, Away g y) : PsOk w' A n xs :=
  ⟨h.row.offK hg (fun e => ho (map_ne e)), fun y hy => (h.each y hy).off hg (ha y hy)⟩
theorem PaOk.later (h : PaOk w x) (hl : Later w w') : PaOk w' x := ⟨h.deps.later hl, h.row.later hl, h.is, h.droom, h.lroom, h.dmost, h.lmost, h.note, h.lo, h.hi, h.dlo, h.dhi⟩
theorem PaOk.off (h : PaOk w x) (hg : Turned g w w') (ha : AwayN g x) : PaOk w' x :=
  ⟨h.deps.offK (c := x.cd) hg (fun e => ha.1 (map_ne e)), h.row.off (c := x.cl) hg ha.2.1 ha.2.2, h.is, h.droom, h.lroom, h.dmost, h.lmost, h.note, h.lo, h.hi, h.dlo, h.dhi⟩
theorem PaOk.away (h : PaOk w x) (hg : w.heap.size ≤ g) : AwayN g x :=
  ⟨fun e => h.deps.awayK (by decide) hg (map_ne' e), fun e => h.row.row.awayK (by decide) hg (map_ne' e), fun y hy => (h.row.each y hy).away hg⟩
theorem FreshN.away (h : FreshN w x) (hg : g < w.heap.size) : AwayN g x :=
  ⟨fun _ e => by have := h.1 g e; omega, fun _ e => by have := h.2.1 g e; omega, fun y hy => (h.2.2 y hy).away hg⟩
theorem FreshN.base {w0 : World} (h : FreshN w x) (hl : Later w0 w) : FreshN w0 x :=
  ⟨fun k hk => Nat.le_trans hl.le (h.1 k hk), fun k hk => Nat.le_trans hl.le (h.2.1 k hk), fun y hy => (h.2.2 y hy).base hl⟩
theorem FreshN.low {w0 : World} (h : FreshN w x) (hl : w0.heap.size ≤ w.heap.size) : FreshN w0 x :=
  ⟨fun k hk => Nat.le_trans hl (h.1 k hk), fun k hk => Nat.le_trans hl (h.2.1 k hk), fun y hy => ⟨fun k hk => Nat.le_trans hl ((h.2.2 y hy).1 k hk), fun k hk => Nat.le_trans hl ((h.2.2 y hy).2 k hk)⟩⟩
theorem PaOk.shutA {o : Obj} (h : PaOk w x) (hl : w.heap[l]? = some o) (ho : o.isCells = false) : AwayN l x :=
  ⟨fun e => h.deps.shutK (by decide) hl ho (map_ne' e), fun e => h.row.row.shutK (by decide) hl ho (map_ne' e), fun y hy => ⟨(h.row.each y hy).old.away_shut hl ho, (h.row.each y hy).new.away_shut hl ho⟩⟩
end
def zeroPa : Pa := ⟨0, ByteArray.empty, [], []⟩
def zeroN : PaC := ⟨zeroPa, none, 0, 0, none, 0, 0, []⟩
theorem zeroN_ok (w : World) : PaOk w zeroN :=
  ⟨RowK.none, PsOk.none _ _, rfl, Nat.le_refl _, Nat.le_refl _, Nat.zero_le _, Nat.zero_le _, (by show (ByteArray.empty).size ≤ maxLen; simp only [maxLen]; decide), (by show (-9223372036854775808 : Int) ≤ 0; omega), (by show (0 : Int) ≤ 9223372036854775807; omega), (fun d hd => by cases hd), (fun d hd => by cases hd)⟩
theorem zeroN_away (g : Nat) : AwayN g zeroN := ⟨fun h => absurd rfl h, fun h => absurd rfl h, fun y hy => by cases hy⟩
theorem zeroN_fresh (w : World) : FreshN w zeroN := ⟨(fun k h => by cases h), (fun k h => by cases h), fun y hy => by cases hy⟩

/-- The slice reads as these prims, whose rows stand there. -/
structure NsOk (w : World) (A : Option Addr) (n : Nat) (xs : List PaC) : Prop where
  row : RowK 4 w A n (xs.map paL)
  each : ∀ x ∈ xs, PaOk w x
section
variable {w w' : World} {A : Option Addr} {n : Nat} {xs : List PaC}
theorem NsOk.len (h : NsOk w A n xs) : xs.length = n := by have := h.row.len; simpa using this
theorem NsOk.later (h : NsOk w A n xs) (hl : Later w w') : NsOk w' A n xs := ⟨h.row.later hl, fun x hx => (h.each x hx).later hl⟩
theorem NsOk.none (w : World) (A : Option Addr) : NsOk w A 0 [] := ⟨RowK.none, fun x hx => by cases hx⟩
theorem RowK.getN (h : RowK 4 w A n (xs.map paL)) {j : Nat} (hj : j < n) : ∃ b o x, A = some ⟨b, o, .none⟩ ∧ xs[j]? = some x ∧ w.cell? ⟨b, o + j * 4, .none⟩ = some (.int .i64 x.v.id) ∧ w.cell? ⟨b, o + j * 4 + 1, .none⟩ = some (.string x.v.note) ∧ w.cell? ⟨b, o + j * 4 + 2, .none⟩ = some (.slice x.D x.nd x.cd) ∧ w.cell? ⟨b, o + j * 4 + 3, .none⟩ = some (.slice x.L x.nl x.cl) := by
  obtain ⟨b, o, e, cs, hcs, _, hc⟩ := h.get hj
  have hl : j < xs.length := by have := h.len; simp at this; omega
  have hz := List.getElem?_eq_getElem hl
  simp only [List.getElem?_map, hz, Option.map_some, Option.some.injEq] at hcs
  subst hcs
  exact ⟨b, o, xs[j], e, hz, hc 0 _ rfl, hc 1 _ rfl, hc 2 _ rfl, hc 3 _ rfl⟩
theorem NsOk.get (h : NsOk w A n xs) {j : Nat} (hj : j < n) : ∃ b o x, A = some ⟨b, o, .none⟩ ∧ xs[j]? = some x ∧ PaOk w x ∧ w.cell? ⟨b, o + j * 4, .none⟩ = some (.int .i64 x.v.id) ∧ w.cell? ⟨b, o + j * 4 + 1, .none⟩ = some (.string x.v.note) ∧ w.cell? ⟨b, o + j * 4 + 2, .none⟩ = some (.slice x.D x.nd x.cd) ∧ w.cell? ⟨b, o + j * 4 + 3, .none⟩ = some (.slice x.L x.nl x.cl) := by
  obtain ⟨b, o, x, e, hz, hc⟩ := h.row.getN hj
  exact ⟨b, o, x, e, hz, h.each x (List.mem_of_getElem? hz), hc⟩
end
/-- What the prims of a row are. -/
def valsN (xs : List PaC) : List Pa := xs.map (·.v)
theorem valsN_length (xs : List PaC) : (valsN xs).length = xs.length := by simp [valsN]
theorem valsN_take {xs : List PaC} {k : Nat} {x : PaC} (h : xs[k]? = some x) : (valsN xs).take (k + 1) = (valsN xs).take k ++ [x.v] := by
  obtain ⟨hk, rfl⟩ := List.getElem?_eq_some_iff.1 h
  unfold valsN
  rw [List.take_succ_eq_append_getElem (by simpa using hk)]
  simp
theorem valsN_at {xs : List PaC} {k : Nat} {x : PaC} (h : xs[k]? = some x) : (valsN xs)[k]? = some x.v := by simp [valsN, h]

/-- A row of the call's own (what it made since w0) of prims; none of their lines lies in its block. -/
structure OwnNs (e : TypeId) (w0 w : World) (v : Value) (xs : List PaC) : Prop where
  own : OwnK e 4 w0 w v (xs.map paL)
  ok : ∀ x ∈ xs, PaOk w x
  away : ∀ x ∈ xs, ∀ g, v.ownBlock = some g → AwayN g x
section
variable {e : TypeId} {w0 w w' : World} {v : Value} {xs : List PaC}
theorem OwnNs.later (h : OwnNs e w0 w v xs) : Later w0 w := h.own.later
theorem OwnNs.nil (hl : Later w0 w) : OwnNs e w0 w (.slice none 0 0) [] := ⟨OwnK.nil hl, (fun x hx => by cases hx), fun x hx => by cases hx⟩
theorem OwnNs.on (h : OwnNs e w0 w v xs) (hl : Later w w') : OwnNs e w0 w' v xs := ⟨h.own.on hl, fun x hx => (h.ok x hx).later hl, h.away⟩
theorem OwnNs.row (h : OwnNs e w0 w v xs) : ∃ A c, v = .slice A xs.length c ∧ xs.length ≤ c ∧ NsOk w A xs.length xs := by
  obtain ⟨A, c, hv, hc, hr⟩ := h.own.row
  simp only [List.length_map] at hv hc hr
  exact ⟨A, c, hv, hc, hr, h.ok⟩
theorem OwnNs.block (h : OwnNs e w0 w v xs) : ∀ b, v.ownBlock = some b → w0.heap.size ≤ b := h.own.block
theorem OwnNs.lt (h : OwnNs e w0 w v xs) : ∀ b, v.ownBlock = some b → b < w.heap.size := fun b hb => (h.own.1.lt b hb).2
theorem OwnNs.base {w1 : World} (h : OwnNs e w0 w v xs) (hl : Later w1 w0) : OwnNs e w1 w v xs :=
  ⟨⟨by
    refine ⟨h.own.1.1, ?_⟩
    rcases h.own.1.2 with h1 | ⟨g, cap, cur, h1, h2, h3⟩
    · exact .inl h1
    · exact .inr ⟨g, cap, cur, h1, Nat.le_trans hl.le h2, h3⟩, h.own.2.1, hl.trans h.own.2.2⟩, h.ok, h.away⟩
/-- Another block has turned. -/
theorem OwnNs.other {g : Nat} (h : OwnNs e w0 w v xs) (hg : Turned g w w') (hv : v.ownBlock ≠ some g) (ha : ∀ x ∈ xs, AwayN g x) (hl : Later w0 w') : OwnNs e w0 w' v xs :=
  ⟨⟨h.own.1.kept hg (by
    cases hb : v.ownBlock with
    | none => exact .inl rfl
    | some b => right; rw [hb] at hv; exact hv), h.own.2.1, hl⟩, fun x hx => (h.ok x hx).off hg (ha x hx), h.away⟩
end

section
variable {P : Program} {e : TypeId} {w0 w : World} {v : Value} {xs : List PaC}
/-- append onto such a row. -/
theorem run_append_ns5 (t ty : TypeId) (i : TypeInfo) (z : Value) (bytes : Nat) (ht : P.underlying t = some (.slice e)) (hi : P.info? e = some i) (hz : i.zero = some z) (hsize : i.size = 4) (hby : i.bytes = bytes) (hzs : z.cells.size = 4)
    (hown : OwnNs e w0 w v xs) (A : Option Addr) (m c : Nat) (ys : List PaC) (hr : RowK 4 w A m (ys.map paL)) (hok : ∀ y ∈ ys, PaOk w y) (haw : ∀ y ∈ ys, ∀ g, v.ownBlock = some g → AwayN g y) (hb : xs.length + m ≤ 1000000) (hbb : bytes ≤ 1000) :
    ∃ v' w', (Builtin.append_ #[t, t] ty #[v, .slice A m c]).run P w = .ok v' w' ∧ OwnNs e w0 w' v' (xs ++ ys) ∧ w.grownBy w' v.ownBlock ∧ (v'.ownBlock = v.ownBlock ∨ v'.ownBlock = some w.heap.size) := by
  have hone : ∀ cs ∈ ys.map paL, ∀ u ∈ cs, u.oneCell' = true := by
    intro cs hcs u hu
    obtain ⟨y, _, rfl⟩ := List.mem_map.1 hcs
    simp only [paL, List.mem_cons, List.not_mem_nil, or_false] at hu
    rcases hu with rfl | rfl | rfl | rfl <;> rfl
  have hl := hr.len
  simp only [List.length_map] at hl
  have hbig : (xs.length + m) * bytes ≤ 140737488355328 := Nat.le_trans (Nat.mul_le_mul hb hbb) (by omega)
  have hkeep : ∀ (w' : World), w.grownBy w' v.ownBlock → ∀ x ∈ xs ++ ys, PaOk w' x := by
    intro w' hg x hx
    have h1 : PaOk w x := by
      rcases List.mem_append.1 hx with h | h
      · exact hown.ok x h
      · exact hok x h
    have h2 : ∀ g, v.ownBlock = some g → AwayN g x := by
      rcases List.mem_append.1 hx with h | h
      · exact hown.away x h
      · exact haw x h
    cases hv : v.ownBlock with
    | none => rw [hv] at hg; exact h1.later ⟨hg.os, hg.tape, hg.output, hg.size, fun i hi => hg.block i hi (by simp)⟩
    | some g => rw [hv] at hg; exact h1.off (g := g) hg (h2 g hv)
  have haway : ∀ v' : Value, (v'.ownBlock = v.ownBlock ∨ v'.ownBlock = some w.heap.size) → ∀ x ∈ xs ++ ys, ∀ g, v'.ownBlock = some g → AwayN g x := by
    intro v' hv x hx g hg
    rcases hv with hv | hv
    · rw [hv] at hg
      rcases List.mem_append.1 hx with h | h
      · exact hown.away x h g hg
      · exact haw x h g hg
    · rw [hv] at hg
      cases hg
      rcases List.mem_append.1 hx with h | h
      · exact (hown.ok x h).away (Nat.le_refl _)
      · exact (hok x h).away (Nat.le_refl _)
  rcases Nat.eq_zero_or_pos m with h0 | h0
  · subst h0
    have hn : ys = [] := List.eq_nil_of_length_eq_zero hl
    subst hn
    rw [List.append_nil]
    rcases A with _ | ad
    · refine ⟨v, w, ?_, hown, ⟨rfl, rfl, rfl, Nat.le_refl _, fun _ _ _ => rfl⟩, .inl rfl⟩
      rcases hown.own.1.2 with ⟨rfl, _⟩ | ⟨g, cap, cur, rfl, _, _, hnc, _⟩
      · simp [Builtin.append_, run_underlying ht, sizeOf, typeInfo, hi, Builtin.lenOf, Builtin.firstCells]
      · simp only [List.length_map] at hnc
        simp [Builtin.append_, run_underlying ht, sizeOf, typeInfo, hi, Builtin.lenOf, Builtin.firstCells, hnc, storeCells]
    · obtain ⟨v', w', hrun, h2, h3, _, h5⟩ := run_append_own_at (P := P) w w0.heap.size t ty e i z 4 bytes ht hi hz hsize hby hzs (by decide) v xs.length (xs.map paL).flatten (by simpa using hown.own.1) ad 0 c [] (by simp)
        (fun j u hu => by simp at hu) (fun u hu => by simp at hu) (by simp only [maxLen]; omega) hbig hown.own.2.2.size
      refine ⟨v', w', hrun, ⟨⟨by simpa using h2, hown.own.2.1, Below.grown hown.own.2.2 h3 hown.own.2.2.size hown.own.block⟩, by simpa using hkeep w' h3, by simpa using haway v' h5⟩, h3, h5⟩
  · obtain ⟨b, o, rfl, hc⟩ := hr.2.2 h0
    obtain ⟨v', w', hrun, h2, h3, _, h5⟩ := run_append_own_at (P := P) w w0.heap.size t ty e i z 4 bytes ht hi hz hsize hby hzs (by decide) v xs.length (xs.map paL).flatten (by simpa using hown.own.1) ⟨b, o, none⟩ m c (ys.map paL).flatten
      (by rw [flat_length hr.2.1]; simp [hl])
      (fun j u hu => by
        have hjl := (List.getElem?_eq_some_iff.1 hu).1
        rw [flat_length hr.2.1] at hjl
        have hq : j / 4 < (ys.map paL).length := (Nat.div_lt_iff_lt_mul (by decide)).2 hjl
        have hjk : j / 4 * 4 + j % 4 = j := by omega
        have hat := flat_at (i := j % 4) hr.2.1 (List.getElem?_eq_getElem hq) (Nat.mod_lt _ (by decide))
        rw [hjk, hu] at hat
        have := hc (j / 4) (j % 4) _ u (List.getElem?_eq_getElem hq) hat.symm
        rw [plain_add, ← hjk, ← Nat.add_assoc]
        exact this)
      (fun u hu => by
        obtain ⟨cs, hcs, hu⟩ := List.mem_flatten.1 hu
        exact hone cs hcs u hu)
      (by simp only [maxLen]; omega) hbig hown.own.2.2.size
    refine ⟨v', w', hrun, ⟨⟨?_, fun cs hcs => ?_, Below.grown hown.own.2.2 h3 hown.own.2.2.size hown.own.block⟩, hkeep w' h3, haway v' h5⟩, h3, h5⟩
    · simp only [List.map_append, List.length_append, List.length_map, List.flatten_append, hl]
      exact h2
    · obtain ⟨y, _, rfl⟩ := List.mem_map.1 hcs
      rfl

theorem run_append_ns (t ty : TypeId) (i : TypeInfo) (z : Value) (bytes : Nat) (ht : P.underlying t = some (.slice e)) (hi : P.info? e = some i) (hz : i.zero = some z) (hsize : i.size = 4) (hby : i.bytes = bytes) (hzs : z.cells.size = 4)
    (hown : OwnNs e w0 w v xs) (A : Option Addr) (m c : Nat) (ys : List PaC) (hr : RowK 4 w A m (ys.map paL)) (hok : ∀ y ∈ ys, PaOk w y) (haw : ∀ y ∈ ys, ∀ g, v.ownBlock = some g → AwayN g y) (hb : xs.length + m ≤ 1000000) (hbb : bytes ≤ 1000) :
    ∃ v' w', (Builtin.append_ #[t, t] ty #[v, .slice A m c]).run P w = .ok v' w' ∧ OwnNs e w0 w' v' (xs ++ ys) ∧ w.grownBy w' v.ownBlock := by
  obtain ⟨v', w', h1, h2, h3, _⟩ := run_append_ns5 (P := P) t ty i z bytes ht hi hz hsize hby hzs hown A m c ys hr hok haw hb hbb
  exact ⟨v', w', h1, h2, h3⟩
theorem wpList_append_ns {ops : Array Oper} {rest : List Oper} {o : Oper} {a : Act} {Q : Exit → Act → World → Prop} (hgd : o.guard = none) (s x : Operand) (t : TypeId)
    (ho : o.op = .call { callee := .builtin .append, args := #[s, x], argTypes := #[t, t] }) (i : TypeInfo) (z : Value) (bytes : Nat)
    (ht : P.underlying t = some (.slice e)) (hi : P.info? e = some i) (hz : i.zero = some z) (hsize : i.size = 4) (hby : i.bytes = bytes) (hzs : z.cells.size = 4)
    (hown : OwnNs e w0 w v xs) (hs : a.eval s = v) (A : Option Addr) (m c : Nat) (ys : List PaC) (hx : a.eval x = .slice A m c) (hr : RowK 4 w A m (ys.map paL)) (hok : ∀ y ∈ ys, PaOk w y) (haw : ∀ y ∈ ys, ∀ g, v.ownBlock = some g → AwayN g y) (hb : xs.length + m ≤ 1000000) (hbb : bytes ≤ 1000)
    (h : ∀ v' w', OwnNs e w0 w' v' (xs ++ ys) → w.grownBy w' v.ownBlock → wpList P ops Q rest (a.put o.dst v') w') : wpList P ops Q (o :: rest) a w := by
  refine wpList_plain hgd fun K hK => ?_
  obtain ⟨v', w', hrun, h2, h3⟩ := run_append_ns (P := P) t o.type i z bytes ht hi hz hsize hby hzs hown A m c ys hr hok haw hb hbb
  unfold Oper.wp execOp
  simp only [ho, resolve, invoke, builtin, Sem.run_bind, Sem.run_pure, Result.andThen_ok, List.map_toArray, List.map_cons, List.map_nil, hs, hx, hrun]
  exact hK _ _ (h v' w' h2 h3)
theorem wpList_append_ns5 {ops : Array Oper} {rest : List Oper} {o : Oper} {a : Act} {Q : Exit → Act → World → Prop} (hgd : o.guard = none) (s x : Operand) (t : TypeId)
    (ho : o.op = .call { callee := .builtin .append, args := #[s, x], argTypes := #[t, t] }) (i : TypeInfo) (z : Value) (bytes : Nat)
    (ht : P.underlying t = some (.slice e)) (hi : P.info? e = some i) (hz : i.zero = some z) (hsize : i.size = 4) (hby : i.bytes = bytes) (hzs : z.cells.size = 4)
    (hown : OwnNs e w0 w v xs) (hs : a.eval s = v) (A : Option Addr) (m c : Nat) (ys : List PaC) (hx : a.eval x = .slice A m c) (hr : RowK 4 w A m (ys.map paL)) (hok : ∀ y ∈ ys, PaOk w y) (haw : ∀ y ∈ ys, ∀ g, v.ownBlock = some g → AwayN g y) (hb : xs.length + m ≤ 1000000) (hbb : bytes ≤ 1000)
    (h : ∀ v' w', OwnNs e w0 w' v' (xs ++ ys) → w.grownBy w' v.ownBlock → (v'.ownBlock = v.ownBlock ∨ v'.ownBlock = some w.heap.size) → wpList P ops Q rest (a.put o.dst v') w') : wpList P ops Q (o :: rest) a w := by
  refine wpList_plain hgd fun K hK => ?_
  obtain ⟨v', w', hrun, h2, h3, h5⟩ := run_append_ns5 (P := P) t o.type i z bytes ht hi hz hsize hby hzs hown A m c ys hr hok haw hb hbb
  unfold Oper.wp execOp
  simp only [ho, resolve, invoke, builtin, Sem.run_bind, Sem.run_pure, Result.andThen_ok, List.map_toArray, List.map_cons, List.map_nil, hs, hx, hrun]
  exact hK _ _ (h v' w' h2 h3 h5)
end

theorem PaOk.later4 {w : World} {x : PaC} (h : PaOk w x) (o : Obj) : PaOk (w.alloc o) x := h.later ((Later.refl w).alloc o)
/-- A new row of one patch. -/
theorem rowN_one (w : World) (x : PaC) (t : TypeId) : RowK 4 (w.alloc (.cells #[.int .i64 x.v.id, .string x.v.note, .slice x.D x.nd x.cd, .slice x.L x.nl x.cl] t)) (some ⟨w.heap.size, 0, .none⟩) 1 ([x].map paL) := RowK.one w (paL x) t

theorem flat_set4 (v0 v1 v2 v3 : Value) : ∀ {css : List (List Value)}, (∀ cs ∈ css, cs.length = 4) → ∀ {i : Nat}, i < css.length → ((((css.flatten.set (i * 4) v0).set (i * 4 + 1) v1).set (i * 4 + 2) v2).set (i * 4 + 3) v3) = (css.set i [v0, v1, v2, v3]).flatten
  | [], _, _, h => absurd h (Nat.not_lt_zero _)
  | c :: css, hk, i, hi => by
    match c, hk c List.mem_cons_self with
    | [a0, a1, a2, a3], _ =>
      cases i with
      | zero => simp
      | succ i =>
        have ih := flat_set4 v0 v1 v2 v3 (css := css) (fun cs h => hk cs (List.mem_cons_of_mem _ h)) (i := i) (by simpa using hi)
        rw [List.set_cons_succ, List.flatten_cons, List.flatten_cons, ← ih]
        simp only [show (i + 1) * 4 = i * 4 + 4 by omega, show i * 4 + 4 + 1 = i * 4 + 1 + 4 by omega, show i * 4 + 4 + 2 = i * 4 + 2 + 4 by omega, show i * 4 + 4 + 3 = i * 4 + 3 + 4 by omega]
        rfl
theorem turned_sets4 (w : World) (g o i : Nat) (v0 v1 v2 v3 : Value) : Turned g w ((((w.setCell ⟨g, o + i * 4, none⟩ v0).setCell ⟨g, o + i * 4 + 1, none⟩ v1).setCell ⟨g, o + i * 4 + 2, none⟩ v2).setCell ⟨g, o + i * 4 + 3, none⟩ v3) :=
  (((turned_set w g _ v0).trans (turned_set _ g _ v1)).trans (turned_set _ g _ v2)).trans (turned_set _ g _ v3)

section
variable {e : TypeId} {w0 w w' : World} {A : Option Addr} {n c g o : Nat} {xs : List PaC}
theorem OwnNs.ns (h : OwnNs e w0 w (.slice A n c) xs) : NsOk w A n xs := by
  obtain ⟨A', c', hv, _, hr⟩ := h.row
  cases hv
  exact hr
theorem OwnNs.size (h : OwnNs e w0 w (.slice A n c) xs) : xs.length = n := h.ns.len
/-- The block of such a row. -/
theorem OwnNs.at (h : OwnNs e w0 w (.slice (some ⟨g, o, none⟩) n c) xs) : o = 0 ∧ ∃ cur, w.heap[g]? = some (.cells cur e (0, 0)) ∧ cur.size = c * 4 ∧ n ≤ c ∧ c ≤ maxLen ∧ cur.toList.take (n * 4) = (xs.map paL).flatten := by
  have hs := h.size
  rcases h.own.1.2 with ⟨hv, _⟩ | ⟨g', cap, cur, hv, _, hh, hnc, hm, hc, ht⟩
  · cases hv
  · simp only [List.length_map] at hv hnc ht
    rw [hs] at hv hnc ht
    cases hv
    exact ⟨rfl, cur, hh, hc, hnc, hm, ht⟩
theorem OwnNs.frozen (h : OwnNs e w0 w (.slice (some ⟨g, o, none⟩) n c) xs) (i : Nat) : w.frozen? ⟨g, i, none⟩ = false := by
  obtain ⟨_, cur, hh, _⟩ := h.at
  exact frozen_no hh i
/-- Written at place i. -/
theorem OwnNs.set (h : OwnNs e w0 w (.slice (some ⟨g, o, none⟩) n c) xs) {i : Nat} (hi : i < n) (x : PaC) (hx : PaOk w x) (ha : AwayN g x) :
    OwnNs e w0 ((((w.setCell ⟨g, o + i * 4, none⟩ (.int .i64 x.v.id)).setCell ⟨g, o + i * 4 + 1, none⟩ (.string x.v.note)).setCell ⟨g, o + i * 4 + 2, none⟩ (.slice x.D x.nd x.cd)).setCell ⟨g, o + i * 4 + 3, none⟩ (.slice x.L x.nl x.cl)) (.slice (some ⟨g, o, none⟩) n c) (xs.set i x) := by
  have hsz := h.size
  obtain ⟨rfl, cur, hh, hcs, hnc, hm, ht⟩ := h.at
  have hb := h.block g rfl
  have htn := turned_sets4 w g 0 i (.int .i64 x.v.id) (.string x.v.note) (.slice x.D x.nd x.cd) (.slice x.L x.nl x.cl)
  have hl := h.later.turn htn hb
  have hbox := (((BoxAt.set (show BoxAt w g cur e from hh) (0 + i * 4) (.int .i64 x.v.id)).set (0 + i * 4 + 1) (.string x.v.note)).set (0 + i * 4 + 2) (.slice x.D x.nd x.cd)).set (0 + i * 4 + 3) (.slice x.L x.nl x.cl)
  have hlen : (xs.map paL).length = n := by simp [hsz]
  refine ⟨⟨⟨?_, .inr ⟨g, c, _, ?_, hb, hbox, ?_, hm, ?_, ?_⟩⟩, ?_, hl⟩, ?_, ?_⟩
  · rw [flat_length (k := 4) (by intro cs hcs; obtain ⟨y, _, rfl⟩ := List.mem_map.1 hcs; rfl)]
  · simp [hsz]
  · simp [hsz]; exact hnc
  · simpa using hcs
  · simp only [List.length_map, List.length_set, Array.toList_setIfInBounds, List.take_set, hsz, ht, Nat.zero_add]
    rw [flat_set4 _ _ _ _ (by intro cs hcs; obtain ⟨y, _, rfl⟩ := List.mem_map.1 hcs; rfl) (by simp [hsz]; exact hi), List.map_set]
    rfl
  · intro cs hcs
    obtain ⟨y, _, rfl⟩ := List.mem_map.1 hcs
    rfl
  · intro y hy
    have h1 : PaOk w y ∧ AwayN g y := by
      rcases List.mem_or_eq_of_mem_set hy with h2 | rfl
      · exact ⟨h.ok y h2, h.away y h2 g rfl⟩
      · exact ⟨hx, ha⟩
    exact h1.1.off htn h1.2
  · intro y hy g' hg'
    cases hg'
    rcases List.mem_or_eq_of_mem_set hy with h2 | rfl
    · exact h.away y h2 _ rfl
    · exact ha
end

/-- A row of patches lies in no block of another kind. -/
theorem OwnNs.noBox {e t : TypeId} {w0 w : World} {v : Value} {xs : List PaC} {g : Nat} {cs : Array Value} (h : OwnNs e w0 w v xs) (hb : BoxAt w g cs t) (hne : t ≠ e) : v.ownBlock ≠ some g := by
  rcases h.own.1.2 with ⟨rfl, _⟩ | ⟨g', cap, cur, rfl, _, hh, _⟩
  · simp [Value.ownBlock]
  · intro e
    simp only [Value.ownBlock, Option.some.injEq] at e
    subst e
    unfold BoxAt at hb
    rw [hb] at hh
    simp at hh
    exact hne hh.2
theorem OwnNs.shut {e : TypeId} {w V : World} {l : Nat} {o o' : Obj} {v : Value} {xs : List PaC} (h : OwnNs e w V v xs) (hw : w.heap.size ≤ l) (hl : V.heap[l]? = some o) (ho : o.isCells = false) : OwnNs e w (V.putObj l o') v xs := by
  refine h.other (shut_turned V l o') ?_ (fun x hx => (h.ok x hx).shutA hl ho) (h.later.turn (shut_turned V l o') hw)
  rcases h.own.1.2 with ⟨rfl, _⟩ | ⟨g, cap, cur, rfl, _, hh, _⟩
  · simp [Value.ownBlock]
  · intro e
    simp only [Value.ownBlock, Option.some.injEq] at e
    subst e
    rw [hh] at hl
    cases hl
    cases ho
theorem paV_is (x : PaC) : paV x = .agg (paL x).toArray := rfl
theorem paL_one (x : PaC) : (paL x).toArray.all (·.oneCell') = true := by simp [paL, Value.oneCell']

/-- The value is a patch that stands there. -/
def NAt (w : World) (v : Value) (p : Pa) : Prop := ∃ x : PaC, v = paV x ∧ x.v = p ∧ PaOk w x
/-- The value is a slice that reads as these patches. -/
def NsAt (w : World) (v : Value) (l : List Pa) : Prop := ∃ A n c xs, v = .slice A n c ∧ n ≤ c ∧ NsOk w A n xs ∧ valsN xs = l
section
variable {w w' : World} {v u : Value} {l m : List Pa} {p : Pa}
theorem NAt.later (h : NAt w v p) (hl : Later w w') : NAt w' v p := by obtain ⟨x, h1, h2, h3⟩ := h; exact ⟨x, h1, h2, h3.later hl⟩
theorem NsAt.later (h : NsAt w v l) (hl : Later w w') : NsAt w' v l := by obtain ⟨A, n, c, xs, rfl, hc, hp, hv⟩ := h; exact ⟨A, n, c, xs, rfl, hc, hp.later hl, hv⟩
theorem NsAt.nil (w : World) : NsAt w (.slice none 0 0) [] := ⟨none, 0, 0, [], rfl, Nat.le_refl _, NsOk.none _ _, rfl⟩
theorem NsAt.open (h : NsAt w v l) : ∃ A c xs, v = .slice A l.length c ∧ l.length ≤ c ∧ NsOk w A l.length xs ∧ valsN xs = l := by
  obtain ⟨A, n, c, xs, rfl, hc, hp, rfl⟩ := h
  have := hp.len
  rw [← valsN_length] at this
  subst this
  exact ⟨A, c, xs, rfl, hc, hp, rfl⟩
theorem OwnNs.val {e : TypeId} {w0 : World} {xs : List PaC} (h : OwnNs e w0 w v xs) (hv : valsN xs = l) : NsAt w v l := by
  obtain ⟨A, c, hs, hc, hp⟩ := h.row
  exact ⟨A, _, c, xs, hs, hc, hp, hv⟩
end

end Go.Proofs.YtomboeiaajggoaaGreat

/-
  More of patches as plain values: numbers that rise, told one by one; Past and Group, round by round. Nothing of any program.
-/
namespace Go.Proofs.YtomboeiaajggoaaGreat
open Go.RowKit

def farN : Int := 1000000000
/-- What is wrong with a number, behind another one. -/
def wrongN (id last d : Int) : Bool := decide (d ≤ last) || !decide (1 ≤ d ∧ d ≤ 1000000000) || decide (d = id)
def anyWrong (id : Int) : Int → List Int → Bool
  | _, [] => false
  | last, d :: r => wrongN id last d || anyWrong id d r
/-- The number ahead of place k; 0 ahead of all. -/
def lastN (l : List Int) (k : Nat) : Int := if k = 0 then 0 else l.getD (k - 1) 0

theorem anyWrong_rising (id : Int) : ∀ (l : List Int) (last : Int), anyWrong id last l = !((l.all fun d => decide (1 ≤ d ∧ d ≤ 1000000000) && decide (d ≠ id)) && risingI l && (l.head?.all fun d => decide (last < d)))
  | [], last => by simp [anyWrong, risingI]
  | [d], last => by
    simp only [anyWrong, wrongN, risingI, List.all_cons, List.all_nil, List.head?_cons, Option.all_some, Bool.or_false, Bool.and_true]
    rw [Bool.eq_iff_iff]
    simp only [Bool.or_eq_true, Bool.not_eq_true', Bool.and_eq_false_iff, decide_eq_true_eq, decide_eq_false_iff_not]
    omega
  | d :: e :: r, last => by
    rw [anyWrong, anyWrong_rising id (e :: r) d]
    simp only [wrongN, risingI, List.all_cons, List.head?_cons, Option.all_some]
    generalize (r.all fun d => decide (1 ≤ d ∧ d ≤ 1000000000) && decide (d ≠ id)) = A
    generalize risingI (e :: r) = B
    cases A <;> cases B <;> rw [Bool.eq_iff_iff] <;> simp <;> omega
theorem anyWrong_zero (id : Int) (l : List Int) : anyWrong id 0 l = !((l.all fun d => decide (1 ≤ d ∧ d ≤ 1000000000) && decide (d ≠ id)) && risingI l) := by
  rw [anyWrong_rising]
  cases l with
  | nil => simp [risingI]
  | cons d r =>
    simp only [List.all_cons, List.head?_cons, Option.all_some]
    generalize (r.all fun d => decide (1 ≤ d ∧ d ≤ 1000000000) && decide (d ≠ id)) = A
    generalize risingI (d :: r) = B
    cases A <;> cases B <;> rw [Bool.eq_iff_iff] <;> simp <;> omega
/-- Told by places. -/
theorem anyWrong_at (id : Int) : ∀ (l : List Int) (last : Int), anyWrong id last l = true ↔ ∃ k d, l[k]? = some d ∧ wrongN id (if k = 0 then last else l.getD (k - 1) 0) d = true
  | [], last => by simp [anyWrong]
  | d :: r, last => by
    rw [anyWrong, Bool.or_eq_true, anyWrong_at id r d]
    constructor
    · rintro (h | ⟨k, e, h1, h2⟩)
      · exact ⟨0, d, rfl, by simpa using h⟩
      · refine ⟨k + 1, e, by simpa using h1, ?_⟩
        cases k with
        | zero => simpa using h2
        | succ k => simpa using h2
    · rintro ⟨k, e, h1, h2⟩
      cases k with
      | zero => left; simp at h1; subst h1; simpa using h2
      | succ k =>
        right
        refine ⟨k, e, by simpa using h1, ?_⟩
        cases k with
        | zero => simpa using h2
        | succ k => simpa using h2
theorem rightN_parts (p : Pa) : rightN p = (decide (1 ≤ p.id ∧ p.id ≤ 1000000000) && (rightB p.note && ((decide (p.deps.length ≤ 8) && !anyWrong p.id 0 p.deps) && (decide (1 ≤ p.l.length) && (decide (p.l.length ≤ 24) && p.l.all rightP))))) := by
  rw [anyWrong_zero, rightN]
  generalize (p.deps.all fun d => decide (1 ≤ d ∧ d ≤ 1000000000) && decide (d ≠ p.id)) = A
  generalize risingI p.deps = B
  generalize p.l.all rightP = C
  generalize rightB p.note = E
  rw [show decide (1 ≤ p.l.length ∧ p.l.length ≤ 24) = (decide (1 ≤ p.l.length) && decide (p.l.length ≤ 24)) from Bool.decide_and _ _]
  generalize decide (1 ≤ p.id ∧ p.id ≤ 1000000000) = a
  generalize decide (p.deps.length ≤ 8) = b
  generalize decide (1 ≤ p.l.length) = c
  generalize decide (p.l.length ≤ 24) = d
  cases A <;> cases B <;> cases C <;> cases E <;> cases a <;> cases b <;> cases c <;> cases d <;> rfl

section
variable {ls : List Pa} {p q q' a b : Pa} {rest : List Pa} {j : Nat}
theorem pastN_step (h : pastN (ls.drop (j + 1)) q = some (q', rest)) (hp : ls[j]? = some p) (hs : swapN p q' = some (a, b)) : pastN (ls.drop j) q = some (a, b :: rest) := by
  obtain ⟨hj, rfl⟩ := List.getElem?_eq_some_iff.1 hp
  rw [List.drop_eq_getElem_cons hj]
  exact pastN_cons.2 ⟨q', rest, a, b, h, hs, rfl⟩
theorem pastN_none : ∀ (j : Nat) {ls : List Pa}, pastN (ls.drop j) q = none → pastN ls q = none
  | 0, _, h => h
  | j + 1, [], h => h
  | j + 1, p :: ls, h => by
    have := pastN_none j (ls := ls) (by simpa using h)
    simp [pastN, this]
theorem pastN_stop (h : pastN (ls.drop (j + 1)) q = some (q', rest)) (hp : ls[j]? = some p) (hs : swapN p q' = none) : pastN ls q = none := by
  obtain ⟨hj, rfl⟩ := List.getElem?_eq_some_iff.1 hp
  refine pastN_none j ?_
  rw [List.drop_eq_getElem_cons hj]
  simp [pastN, h, hs]
theorem groupN_one (hp : ls[0]? = some p) : groupN (ls.take 1) = ([p], []) := by
  cases ls with
  | nil => simp at hp
  | cons x ls => simp at hp; subst hp; rfl
theorem groupN_step {k : Nat} (hp : ls[k]? = some p) (hk : 0 < k) : groupN (ls.take (k + 1)) = groupStep (groupN (ls.take k)) p := by
  obtain ⟨hj, rfl⟩ := List.getElem?_eq_some_iff.1 hp
  cases ls with
  | nil => simp at hj
  | cons x ls =>
    obtain ⟨m, rfl⟩ : ∃ m, k = m + 1 := ⟨k - 1, by omega⟩
    simp only [List.length_cons] at hj
    rw [List.take_succ_cons, List.take_succ_cons, groupN, groupN, List.take_succ_eq_append_getElem (by omega : m < ls.length), List.foldl_append]
    rfl
theorem groupN_pos {k : Nat} (hl : k ≤ ls.length) : (groupN (ls.take k)).1.length + (groupN (ls.take k)).2.length = k := by
  rw [groupN_length, List.length_take]
  omega
end

end Go.Proofs.YtomboeiaajggoaaGreat

/-
  What slices.Clone, Equal, Index and Contains at rows of numbers come to, as calls.
-/
namespace Go.Proofs.YtomboeiaajggoaaGreat
open Go.RowKit Go.Maps

/-- A row of numbers. -/
def RowI (w : World) (A : Option Addr) (n : Nat) (l : List Int) : Prop := RowK 1 w A n (l.map numL)
section
variable {w w' : World} {A : Option Addr} {n : Nat} {l : List Int}
theorem RowI.len (h : RowI w A n l) : l.length = n := by have := RowK.len h; simpa using this
theorem RowI.later (h : RowI w A n l) (hl : Later w w') : RowI w' A n l := RowK.later h hl
theorem RowI.get (h : RowI w A n l) {j : Nat} (hj : j < n) : ∃ b o, A = some ⟨b, o, none⟩ ∧ w.cell? ⟨b, o + j, none⟩ = some (.int .i64 (l.getD j 0)) := by
  obtain ⟨b, o, e, cs, hcs, _, hc⟩ := RowK.get h hj
  have hl : j < l.length := by rw [h.len]; exact hj
  have hz := List.getElem?_eq_getElem hl
  simp only [List.getElem?_map, hz, Option.map_some, Option.some.injEq] at hcs
  subst hcs
  have h0 := hc 0 _ rfl
  rw [Nat.mul_one, Nat.add_zero] at h0
  refine ⟨b, o, e, ?_⟩
  simp only [List.getD, hz, Option.getD_some]
  exact h0
theorem RowI.nil (h : RowI w none n l) : l = [] := by
  rcases Nat.eq_zero_or_pos n with h0 | h0
  · exact List.eq_nil_of_length_eq_zero (h.len.trans h0)
  · obtain ⟨_, _, e, _⟩ := RowK.get h h0; cases e
end
theorem memI_getD {l : List Int} {k : Nat} (h : k < l.length) : l.getD k 0 ∈ l := by
  simp only [List.getD, List.getElem?_eq_getElem h, Option.getD_some]
  exact List.getElem_mem h
theorem not_memI {l : List Int} {p : Int → Prop} (h : ∀ j : Nat, j < l.length → ¬ p (l.getD j 0)) : ¬ ∃ s ∈ l, p s := by
  rintro ⟨s, hs, hp⟩
  obtain ⟨j, hj, rfl⟩ := List.getElem_of_mem hs
  refine h j hj ?_
  simpa only [List.getD, List.getElem?_eq_getElem hj, Option.getD_some] using hp
theorem Tryz.intInfo : (Tryz.prog.info? 3).map (fun i => (i.zero, i.size, i.bytes)) = some (some (.int .i64 0), 1, 8) := by kernel_rfl

set_option maxHeartbeats 400000 in
theorem indexI_any (A : Option Addr) (n c : Nat) (l : List Int) (s : Int) (w : World) (hx : RowI w A n l) (hn : n ≤ 65536) (Q : Prop) (hQ : Q ↔ ∃ x ∈ l, s = x) :
    Calls Tryz.prog 87 #[.slice A n c, .int .i64 s] w (FindsAt Q w) := by
  have HX := Lib.hid hx; have HQ := Lib.hid hQ; clear hx hQ
  go_enter Tryz.func87, Tryz.ntmps87
  go_wp2
  go_loop [5, 8] (fun _ i => ∃ k : Nat, k ≤ n ∧ i = .int .i64 k ∧ Hid (∀ j : Nat, j < k → ¬ s = (l.getD j 0))) (fun _ i => n - (intOf i).toNat)
  case atStart => exact ⟨0, Nat.zero_le _, rfl, fun j hj => absurd hj (Nat.not_lt_zero _)⟩
  case round =>
    obtain ⟨k, hk, rfl, hall⟩ := hrel
    by_cases hlt : k < n
    · obtain ⟨b1, o1, rfl, g1⟩ := HX.out.get hlt
      have hkl : k < l.length := by rw [HX.out.len]; exact hlt
      have HM := Lib.hid (memI_getD hkl)
      generalize hy : l.getD k 0 = y at g1 HM
      have HY := Lib.hid hy
      clear hkl hy
      by_cases he : s = y
      · subst he
        clear hall HY
        go_wp2
        go_ret
        exact ⟨⟨k, rfl, fun _ => HQ.out.2 ⟨s, HM.out, rfl⟩, fun _ => by omega⟩, rfl⟩
      · have HA : Hid (∀ j : Nat, j < k + 1 → ¬ s = (l.getD j 0)) := fun j hj => by
          by_cases e : j = k
          · rw [e, HY.out]; exact he
          · exact hall.out j (by omega)
        clear hall HY HM
        have he' : ¬ y = s := fun e => he e.symm
        go_wp2
        exact ⟨⟨k + 1, by omega, by go_num, HA⟩, by simp [intOf]; omega⟩
    · have E : Hid (¬ ∃ x ∈ l, s = x) := not_memI fun j hj => hall.out j (by rw [HX.out.len] at hj; omega)
      clear hall
      go_wp2
      go_ret
      exact ⟨⟨-1, rfl, fun h => absurd h (by omega), fun h => absurd (HQ.out.1 h) E.out⟩, rfl⟩

theorem containsI_any (A : Option Addr) (n c : Nat) (l : List Int) (s : Int) (w : World) (hx : RowI w A n l) (hn : n ≤ 65536) :
    Calls Tryz.prog 59 #[.slice A n c, .int .i64 s] w fun e w' => e = .returned (.bool (decide (s ∈ l))) ∧ w = w' := by
  have HI := Lib.hid (indexI_any A n c l s w hx hn (decide (s ∈ l) = true) (by simp))
  clear hx
  generalize decide (s ∈ l) = b at HI ⊢
  go_enter Tryz.func59, Tryz.ntmps59
  go_wp2_with fail
  refine HI.out.mono ?_
  rintro e w' ⟨⟨k, rfl, hk⟩, rfl⟩
  have e1 : decide (0 ≤ k) = b := by
    rw [Bool.eq_iff_iff, decide_eq_true_eq, hk]
  have E1 := Lib.hid e1
  clear e1 hk HI
  go_wp2
  go_ret
  refine ⟨?_, rfl⟩
  first | exact ret_bool E1.out | (rw [← E1.out]; rfl) | (rw [← E1.out]; simp)

theorem takeI {xs ys : List Int} {k : Nat} (hx : k < xs.length) (hy : k < ys.length) (h : xs.take k = ys.take k) (e : xs.getD k 0 = ys.getD k 0) : xs.take (k + 1) = ys.take (k + 1) := by
  simp only [List.getD, List.getElem?_eq_getElem hx, List.getElem?_eq_getElem hy, Option.getD_some] at e
  rw [List.take_succ_eq_append_getElem hx, List.take_succ_eq_append_getElem hy, h, e]

set_option maxHeartbeats 400000 in
theorem equalI_any (A B : Option Addr) (n c m d : Nat) (xs ys : List Int) (w : World) (hx : RowI w A n xs) (hy : RowI w B m ys) (hn : n ≤ 65536) (hm : m ≤ 65536) :
    Calls Tryz.prog 53 #[.slice A n c, .slice B m d] w (Says (decide (xs = ys)) w) := by
  by_cases hnm : n = m
  · subst hnm
    have HX := Lib.hid hx; clear hx
    have HY := Lib.hid hy; clear hy
    go_enter Tryz.func53, Tryz.ntmps53
    go_wp2
    go_loopg [13] n (fun g s13 wr => ∃ k q : Nat, k ≤ n ∧ n - k ≤ g ∧ s13 = .int .i64 k ∧ wr = w.drewN q ∧ Hid (xs.take k = ys.take k))
    case atStart => exact ⟨0, 0, Nat.zero_le _, by omega, rfl, rfl, by simp [Hid]⟩
    case round =>
      obtain ⟨k, q, hk, hg, rfl, rfl, heq⟩ := hrel
      by_cases hlt : k < n
      · obtain ⟨b1, o1, rfl, g1⟩ := HX.out.get hlt
        obtain ⟨b2, o2, rfl, g2⟩ := HY.out.get hlt
        generalize hxk : xs.getD k 0 = x at g1
        generalize hyk : ys.getD k 0 = y at g2
        have X := Lib.hid hxk; clear hxk
        have Y := Lib.hid hyk; clear hyk
        by_cases hxy : x = y
        · subst hxy
          go_wp2_with fail
          go_quiet (fail)
          go_wp2
          go_roundg (n - (k + 1))
          case measure => omega
          case rel => exact ⟨k + 1, _, by omega, by omega, by go_num, rfl, takeI (by rw [HX.out.len]; exact hlt) (by rw [HY.out.len]; exact hlt) heq.out (X.out.trans Y.out.symm)⟩
        · go_wp2_with fail
          go_quiet (fail)
          go_wp2
          go_ret
          refine ⟨?_, ((Later.refl w).drewN _).drewN _⟩
          rw [decide_eq_false (fun e => hxy (by rw [← X.out, ← Y.out, e]))]
          rfl
      · have hkn : k = n := by omega
        have e : xs = ys := by
          rw [hkn, List.take_of_length_le (by rw [HX.out.len]; omega), List.take_of_length_le (by rw [HY.out.len]; omega)] at heq
          exact heq.out
        have E := Lib.hid e; clear e heq
        go_wp2
        go_ret
        exact ⟨by rw [decide_eq_true E.out]; rfl, (Later.refl w).drewN _⟩
  · have e : ¬ xs = ys := by
      intro h; rw [h] at hx; exact hnm (hx.len.symm.trans hy.len)
    have E := Lib.hid e; clear e hx hy
    have hnm' : ¬ (n : Int) = (m : Int) := by omega
    go_enter Tryz.func53, Tryz.ntmps53
    go_wp2
    go_ret
    exact ⟨by rw [decide_eq_false E.out]; rfl, Later.refl w⟩

/-- A row of numbers of new memory, the call's own. -/
def OwnI (w0 w : World) (v : Value) (l : List Int) : Prop := OwnK 3 1 w0 w v (l.map numL)
theorem OwnK.empty {e : TypeId} {k : Nat} {w0 w : World} (h : Later w0 w) : OwnK e k w0 (w.alloc (.cells #[] e)) (.slice (some ⟨w.heap.size, 0, none⟩) 0 0) [] :=
  ⟨World.ownsRow_made w #[] 0 h.size (Nat.zero_le _) (by simp), (fun _ h => by cases h), h.alloc _⟩

set_option maxHeartbeats 400000 in
theorem cloneI_any (A : Option Addr) (n c : Nat) (l : List Int) (w : World) (hx : RowI w A n l) (hn : n ≤ 65536) :
    Calls Tryz.prog 63 #[.slice A n c] w fun e w' => ∃ v, e = .returned v ∧ OwnI w w' v l := by
  have q29 : ∀ (w : World) (a : Option Addr) (n c n' c' : Nat), (binOp .eql 22 (.slice a n c) (.slice none n' c')).run Tryz.prog w = .ok (.bool a.isNone) w := fun w a n c n' c' => Lib.run_eql_slice_nil w _ _ a n c n' c' Tryz.underlying22
  cases A with
  | none =>
    have e := hx.nil
    subst e
    clear hx
    go_enter Tryz.func63, Tryz.ntmps63
    go_wp2
    go_ret
    exact ⟨_, rfl, OwnK.nil (Later.refl w)⟩
  | some a =>
    have HX := Lib.hid hx; clear hx
    obtain ⟨i0, hi, hz0, hz1, hz2⟩ := info_parts Tryz.intInfo
    go_enter Tryz.func63, Tryz.ntmps63
    go_wp2_with (at_builtin; refine wpList_append_rowK (w0 := w) rfl _ _ 22 rfl i0 _ 8 Tryz.underlying22 hi hz0 hz1 hz2 rfl (by decide) (OwnK.empty (Later.refl w)) rfl _ _ _ _ rfl (RowI.later HX.out ((Later.refl w).alloc _)) (by
      intro cs hcs u hu
      obtain ⟨d, _, rfl⟩ := List.mem_map.1 hcs
      simp only [numL, List.mem_cons, List.not_mem_nil, or_false] at hu
      subst hu; rfl) (by simp; omega) (by omega) ?_; intro v2 w2 hown2 hg2; have HO2 := Lib.hid hown2; clear hown2 hg2)
    go_ret
    exact ⟨_, rfl, by simpa [OwnI] using HO2.out⟩

end Go.Proofs.YtomboeiaajggoaaGreat
