import Derived.Test.YtlnjhimbgckdcaaGreatPk2
import Derived.Test.YtlnjhimbgckdcaaGreatPk6
import Derived.Test.YtlnjhimbgckdcaaGreatPk9
import Derived.Test.YtlnjhimbgckdcaaGreatPk11
import Derived.ChangeSlices

/-
  Patches in memory: a structure of four cells, one of them a row of numbers, one a row of prims; rows of patches, and such a row of the call's own.
-/
namespace Go.Proofs.YtlnjhimbgckdcaaGreat
open Go.RowKit Go.Maps

structure PaC where
  v : Pa
  D : Option Addr
  nd : Nat
  cd : Nat
  L : Option Addr
  nl : Nat
  cl : Nat
  xs : List PrC
def paL (x : PaC) : List Value := [.int .i64 x.v.id, .string x.v.note, .slice x.D x.nd x.cd, .slice x.L x.nl x.cl]
def paV (x : PaC) : Value := .agg #[.int .i64 x.v.id, .string x.v.note, .slice x.D x.nd x.cd, .slice x.L x.nl x.cl]
def numL (d : Int) : List Value := [.int .i64 d]
structure PaOk (w : World) (x : PaC) : Prop where
  deps : RowK 1 w x.D x.nd (x.v.deps.map numL)
  row : PsOk w x.L x.nl x.xs
  is : valsP x.xs = x.v.l
  droom : x.nd <= x.cd
  lroom : x.nl <= x.cl
  dmost : x.nd <= 65536
  lmost : x.nl <= 30000
  note : x.v.note.size <= maxLen
  lo : -9223372036854775808 <= x.v.id
  hi : x.v.id <= 9223372036854775807
  dlo : ∀ d ∈ x.v.deps, -9223372036854775808 <= d
  dhi : ∀ d ∈ x.v.deps, d <= 9223372036854775807

section
variable {k n g c l : Nat} {w w' : World} {A : Option Addr} {css : List (List Value)} {x : PaC}
theorem RowK.offK (h : RowK k w A n css) (hg : Turned g w w') (ho : css ≠ [] -> Off g (.slice A n c)) : RowK k w' A n css :=
  ⟨h.1, h.2.1, fun hn => by
    obtain ⟨b, o, rfl, hc⟩ := h.2.2 hn
    have hne : css ≠ [] := by rintro rfl; have := h.1; simp at this; omega
    have hb : b ≠ g := fun e => ho hne (by rw [e]; rfl)
    exact ⟨b, o, rfl, fun j i cs v h1 h2 => hg.cell (hc j i cs v h1 h2) hb⟩⟩
theorem RowK.block0 (h : RowK k w A n css) (hk : 0 < k) (hne : css ≠ []) : ∃ b o v, A = some ⟨b, o, .none⟩ /\ w.cell? ⟨b, o, .none⟩ = some v := by
  have hn : 0 < n := by
    have := h.1
    cases css with
    | nil => exact absurd rfl hne
    | cons s l => simp at this; omega
  obtain ⟨b, o, rfl, hc⟩ := h.2.2 hn
  cases css with
  | nil => exact absurd rfl hne
  | cons s css =>
    cases s with
    | nil => have := h.2.1 [] List.mem_cons_self; simp at this; omega
    | cons v s => exact ⟨b, o, v, rfl, by have := hc 0 0 _ v rfl rfl; simpa using this⟩
theorem RowK.awayK (h : RowK k w A n css) (hk : 0 < k) (hg : w.heap.size <= g) (hne : css ≠ []) : Off g (.slice A n c) := by
  obtain ⟨b, o, v, rfl, hc⟩ := h.block0 hk hne
  have h1 := lt_of_cell hc
  intro e
  simp only [Value.ownBlock, Option.some.injEq] at e
  dsimp only at h1
  omega
theorem RowK.shutK {o : Obj} (h : RowK k w A n css) (hk : 0 < k) (hl : w.heap[l]? = some o) (ho : o.isCells = false) (hne : css ≠ []) : Off l (.slice A n c) := by
  obtain ⟨b, o1, v, rfl, hc⟩ := h.block0 hk hne
  have := cell_off hl ho hc
  intro e
  simp only [Value.ownBlock, Option.some.injEq] at e
  exact this e
theorem map_ne {α β : Type} {f : α -> β} {l : List α} (h : l.map f ≠ []) : l ≠ [] := fun e => h (by rw [e]; rfl)
theorem map_ne' {α β : Type} {f : α -> β} {l : List α} (h : l ≠ []) : l.map f ≠ [] := fun e => h (by simpa using e)

def AwayN (g : Nat) (x : PaC) : Prop := (x.v.deps ≠ [] -> Off g (.slice x.D x.nd x.cd)) /\ (x.xs ≠ [] -> Off g (.slice x.L x.nl x.cl)) /\ ∀ y ∈ x.xs, Away g y
def FreshN (w : World) (x : PaC) : Prop := (∀ k, (Value.slice x.D x.nd x.cd).ownBlock = some k -> w.heap.size <= k) /\ (∀ k, (Value.slice x.L x.nl x.cl).ownBlock = some k -> w.heap.size <= k) /\ ∀ y ∈ x.xs, Fresh w y
theorem PsOk.off {n c : Nat} {xs : List PrC} (h : PsOk w A n xs) (hg : Turned g w w') (ho : xs ≠ [] -> Off g (.slice A n c)) (ha : ∀ y ∈ xs, Away g y) : PsOk w' A n xs :=
  ⟨h.row.offK hg (fun e => ho (map_ne e)), fun y hy => (h.each y hy).off hg (ha y hy)⟩
theorem PaOk.later (h : PaOk w x) (hl : Later w w') : PaOk w' x := ⟨h.deps.later hl, h.row.later hl, h.is, h.droom, h.lroom, h.dmost, h.lmost, h.note, h.lo, h.hi, h.dlo, h.dhi⟩
theorem PaOk.off (h : PaOk w x) (hg : Turned g w w') (ha : AwayN g x) : PaOk w' x :=
  ⟨h.deps.offK (c := x.cd) hg (fun e => ha.1 (map_ne e)), h.row.off (c := x.cl) hg ha.2.1 ha.2.2, h.is, h.droom, h.lroom, h.dmost, h.lmost, h.note, h.lo, h.hi, h.dlo, h.dhi⟩
theorem PaOk.away (h : PaOk w x) (hg : w.heap.size <= g) : AwayN g x :=
  ⟨fun e => h.deps.awayK (by decide) hg (map_ne' e), fun e => h.row.row.awayK (by decide) hg (map_ne' e), fun y hy => (h.row.each y hy).away hg⟩
theorem FreshN.away (h : FreshN w x) (hg : g < w.heap.size) : AwayN g x :=
  ⟨fun _ e => by have := h.1 g e; omega, fun _ e => by have := h.2.1 g e; omega, fun y hy => (h.2.2 y hy).away hg⟩
theorem FreshN.base {w0 : World} (h : FreshN w x) (hl : Later w0 w) : FreshN w0 x :=
  ⟨fun k hk => Nat.le_trans hl.le (h.1 k hk), fun k hk => Nat.le_trans hl.le (h.2.1 k hk), fun y hy => (h.2.2 y hy).base hl⟩
theorem FreshN.low {w0 : World} (h : FreshN w x) (hl : w0.heap.size <= w.heap.size) : FreshN w0 x :=
  ⟨fun k hk => Nat.le_trans hl (h.1 k hk), fun k hk => Nat.le_trans hl (h.2.1 k hk), fun y hy => ⟨fun k hk => Nat.le_trans hl ((h.2.2 y hy).1 k hk), fun k hk => Nat.le_trans hl ((h.2.2 y hy).2 k hk)⟩⟩
theorem PaOk.shutA {o : Obj} (h : PaOk w x) (hl : w.heap[l]? = some o) (ho : o.isCells = false) : AwayN l x :=
  ⟨fun e => h.deps.shutK (by decide) hl ho (map_ne' e), fun e => h.row.row.shutK (by decide) hl ho (map_ne' e), fun y hy => ⟨(h.row.each y hy).old.away_shut hl ho, (h.row.each y hy).new.away_shut hl ho⟩⟩
end
def zeroPa : Pa := ⟨0, ByteArray.empty, [], []⟩
def zeroN : PaC := ⟨zeroPa, none, 0, 0, none, 0, 0, []⟩
theorem zeroN_ok (w : World) : PaOk w zeroN :=
  ⟨RowK.none, PsOk.none _ _, rfl, Nat.le_refl _, Nat.le_refl _, Nat.zero_le _, Nat.zero_le _, (by show (ByteArray.empty).size <= maxLen; simp only [maxLen]; decide), (by show (-9223372036854775808 : Int) <= 0; omega), (by show (0 : Int) <= 9223372036854775807; omega), (fun d hd => by cases hd), (fun d hd => by cases hd)⟩
theorem zeroN_away (g : Nat) : AwayN g zeroN := ⟨fun h => absurd rfl h, fun h => absurd rfl h, fun y hy => by cases hy⟩
theorem zeroN_fresh (w : World) : FreshN w zeroN := ⟨(fun k h => by cases h), (fun k h => by cases h), fun y hy => by cases hy⟩

structure NsOk (w : World) (A : Option Addr) (n : Nat) (xs : List PaC) : Prop where
  row : RowK 4 w A n (xs.map paL)
  each : ∀ x ∈ xs, PaOk w x
section
variable {w w' : World} {A : Option Addr} {n : Nat} {xs : List PaC}
theorem NsOk.len (h : NsOk w A n xs) : xs.length = n := by have := h.row.len; simpa using this
theorem NsOk.later (h : NsOk w A n xs) (hl : Later w w') : NsOk w' A n xs := ⟨h.row.later hl, fun x hx => (h.each x hx).later hl⟩
theorem NsOk.none (w : World) (A : Option Addr) : NsOk w A 0 [] := ⟨RowK.none, fun x hx => by cases hx⟩
theorem RowK.getN (h : RowK 4 w A n (xs.map paL)) {j : Nat} (hj : j < n) : ∃ b o x, A = some ⟨b, o, .none⟩ /\ xs[j]? = some x /\ w.cell? ⟨b, o + j * 4, .none⟩ = some (.int .i64 x.v.id) /\ w.cell? ⟨b, o + j * 4 + 1, .none⟩ = some (.string x.v.note) /\ w.cell? ⟨b, o + j * 4 + 2, .none⟩ = some (.slice x.D x.nd x.cd) /\ w.cell? ⟨b, o + j * 4 + 3, .none⟩ = some (.slice x.L x.nl x.cl) := by
  obtain ⟨b, o, e, cs, hcs, _, hc⟩ := h.get hj
  have hl : j < xs.length := by have := h.len; simp at this; omega
  have hz := List.getElem?_eq_getElem hl
  simp only [List.getElem?_map, hz, Option.map_some, Option.some.injEq] at hcs
  subst hcs
  exact ⟨b, o, xs[j], e, hz, hc 0 _ rfl, hc 1 _ rfl, hc 2 _ rfl, hc 3 _ rfl⟩
theorem NsOk.get (h : NsOk w A n xs) {j : Nat} (hj : j < n) : ∃ b o x, A = some ⟨b, o, .none⟩ /\ xs[j]? = some x /\ PaOk w x /\ w.cell? ⟨b, o + j * 4, .none⟩ = some (.int .i64 x.v.id) /\ w.cell? ⟨b, o + j * 4 + 1, .none⟩ = some (.string x.v.note) /\ w.cell? ⟨b, o + j * 4 + 2, .none⟩ = some (.slice x.D x.nd x.cd) /\ w.cell? ⟨b, o + j * 4 + 3, .none⟩ = some (.slice x.L x.nl x.cl) := by
  obtain ⟨b, o, x, e, hz, hc⟩ := h.row.getN hj
  exact ⟨b, o, x, e, hz, h.each x (List.mem_of_getElem? hz), hc⟩
end
def valsN (xs : List PaC) : List Pa := xs.map (·.v)
theorem valsN_length (xs : List PaC) : (valsN xs).length = xs.length := by simp [valsN]
theorem valsN_take {xs : List PaC} {k : Nat} {x : PaC} (h : xs[k]? = some x) : (valsN xs).take (k + 1) = (valsN xs).take k ++ [x.v] := by
  obtain ⟨hk, rfl⟩ := List.getElem?_eq_some_iff.1 h
  unfold valsN
  rw [List.take_succ_eq_append_getElem (by simpa using hk)]
  simp
theorem valsN_at {xs : List PaC} {k : Nat} {x : PaC} (h : xs[k]? = some x) : (valsN xs)[k]? = some x.v := by simp [valsN, h]

structure OwnNs (e : TypeId) (w0 w : World) (v : Value) (xs : List PaC) : Prop where
  own : OwnK e 4 w0 w v (xs.map paL)
  ok : ∀ x ∈ xs, PaOk w x
  away : ∀ x ∈ xs, ∀ g, v.ownBlock = some g -> AwayN g x
section
variable {e : TypeId} {w0 w w' : World} {v : Value} {xs : List PaC}
theorem OwnNs.later (h : OwnNs e w0 w v xs) : Later w0 w := h.own.later
theorem OwnNs.nil (hl : Later w0 w) : OwnNs e w0 w (.slice none 0 0) [] := ⟨OwnK.nil hl, (fun x hx => by cases hx), fun x hx => by cases hx⟩
theorem OwnNs.on (h : OwnNs e w0 w v xs) (hl : Later w w') : OwnNs e w0 w' v xs := ⟨h.own.on hl, fun x hx => (h.ok x hx).later hl, h.away⟩
theorem OwnNs.row (h : OwnNs e w0 w v xs) : ∃ A c, v = .slice A xs.length c /\ xs.length <= c /\ NsOk w A xs.length xs := by
  obtain ⟨A, c, hv, hc, hr⟩ := h.own.row
  simp only [List.length_map] at hv hc hr
  exact ⟨A, c, hv, hc, hr, h.ok⟩
theorem OwnNs.block (h : OwnNs e w0 w v xs) : ∀ b, v.ownBlock = some b -> w0.heap.size <= b := h.own.block
theorem OwnNs.lt (h : OwnNs e w0 w v xs) : ∀ b, v.ownBlock = some b -> b < w.heap.size := fun b hb => (h.own.1.lt b hb).2
theorem OwnNs.base {w1 : World} (h : OwnNs e w0 w v xs) (hl : Later w1 w0) : OwnNs e w1 w v xs :=
  ⟨⟨by
    refine ⟨h.own.1.1, ?_⟩
    rcases h.own.1.2 with h1 | ⟨g, cap, cur, h1, h2, h3⟩
    · exact .inl h1
    · exact .inr ⟨g, cap, cur, h1, Nat.le_trans hl.le h2, h3⟩, h.own.2.1, hl.trans h.own.2.2⟩, h.ok, h.away⟩
theorem OwnNs.other {g : Nat} (h : OwnNs e w0 w v xs) (hg : Turned g w w') (hv : v.ownBlock ≠ some g) (ha : ∀ x ∈ xs, AwayN g x) (hl : Later w0 w') : OwnNs e w0 w' v xs :=
  ⟨⟨h.own.1.kept hg (by
    cases hb : v.ownBlock with
    | none => exact .inl rfl
    | some b => right; rw [hb] at hv; exact hv), h.own.2.1, hl⟩, fun x hx => (h.ok x hx).off hg (ha x hx), h.away⟩
end

section
variable {P : Program} {e : TypeId} {w0 w : World} {v : Value} {xs : List PaC}
theorem run_append_ns5 (t ty : TypeId) (i : TypeInfo) (z : Value) (bytes : Nat) (ht : P.underlying t = some (.slice e)) (hi : P.info? e = some i) (hz : i.zero = some z) (hsize : i.size = 4) (hby : i.bytes = bytes) (hzs : z.cells.size = 4)
    (hown : OwnNs e w0 w v xs) (A : Option Addr) (m c : Nat) (ys : List PaC) (hr : RowK 4 w A m (ys.map paL)) (hok : ∀ y ∈ ys, PaOk w y) (haw : ∀ y ∈ ys, ∀ g, v.ownBlock = some g -> AwayN g y) (hb : xs.length + m <= 1000000) (hbb : bytes <= 1000) :
    ∃ v' w', (Builtin.append_ #[t, t] ty #[v, .slice A m c]).run P w = .ok v' w' /\ OwnNs e w0 w' v' (xs ++ ys) /\ w.grownBy w' v.ownBlock /\ (v'.ownBlock = v.ownBlock ∨ v'.ownBlock = some w.heap.size) := by
  have hone : ∀ cs ∈ ys.map paL, ∀ u ∈ cs, u.oneCell' = true := by
    intro cs hcs u hu
    obtain ⟨y, _, rfl⟩ := List.mem_map.1 hcs
    simp only [paL, List.mem_cons, List.not_mem_nil, or_false] at hu
    rcases hu with rfl | rfl | rfl | rfl <;> rfl
  have hl := hr.len
  simp only [List.length_map] at hl
  have hbig : (xs.length + m) * bytes <= 140737488355328 := Nat.le_trans (Nat.mul_le_mul hb hbb) (by omega)
  have hkeep : ∀ (w' : World), w.grownBy w' v.ownBlock -> ∀ x ∈ xs ++ ys, PaOk w' x := by
    intro w' hg x hx
    have h1 : PaOk w x := by
      rcases List.mem_append.1 hx with h | h
      · exact hown.ok x h
      · exact hok x h
    have h2 : ∀ g, v.ownBlock = some g -> AwayN g x := by
      rcases List.mem_append.1 hx with h | h
      · exact hown.away x h
      · exact haw x h
    cases hv : v.ownBlock with
    | none => rw [hv] at hg; exact h1.later ⟨hg.os, hg.tape, hg.output, hg.size, fun i hi => hg.block i hi (by simp)⟩
    | some g => rw [hv] at hg; exact h1.off (g := g) hg (h2 g hv)
  have haway : ∀ v' : Value, (v'.ownBlock = v.ownBlock ∨ v'.ownBlock = some w.heap.size) -> ∀ x ∈ xs ++ ys, ∀ g, v'.ownBlock = some g -> AwayN g x := by
    intro v' hv x hx g hg
    rcases hv with hv | hv
    · rw [hv] at hg
      rcases List.mem_append.1 hx with h | h
      · exact hown.away x h g hg
      · exact haw x h g hg
    · rw [hv] at hg
      cases hg
      rcases List.mem_append.1 hx with h | h
      · exact (hown.ok x h).away (Nat.le_refl _)
      · exact (hok x h).away (Nat.le_refl _)
  rcases Nat.eq_zero_or_pos m with h0 | h0
  · subst h0
    have hn : ys = [] := List.eq_nil_of_length_eq_zero hl
    subst hn
    rw [List.append_nil]
    rcases A with _ | ad
    · refine ⟨v, w, ?_, hown, ⟨rfl, rfl, rfl, Nat.le_refl _, fun _ _ _ => rfl⟩, .inl rfl⟩
      rcases hown.own.1.2 with ⟨rfl, _⟩ | ⟨g, cap, cur, rfl, _, _, hnc, _⟩
      · simp [Builtin.append_, run_underlying ht, sizeOf, typeInfo, hi, Builtin.lenOf, Builtin.firstCells]
      · simp only [List.length_map] at hnc
        simp [Builtin.append_, run_underlying ht, sizeOf, typeInfo, hi, Builtin.lenOf, Builtin.firstCells, hnc, storeCells]
    · obtain ⟨v', w', hrun, h2, h3, _, h5⟩ := run_append_own_at (P := P) w w0.heap.size t ty e i z 4 bytes ht hi hz hsize hby hzs (by decide) v xs.length (xs.map paL).flatten (by simpa using hown.own.1) ad 0 c [] (by simp)
        (fun j u hu => by simp at hu) (fun u hu => by simp at hu) (by simp only [maxLen]; omega) hbig hown.own.2.2.size
      refine ⟨v', w', hrun, ⟨⟨by simpa using h2, hown.own.2.1, Below.grown hown.own.2.2 h3 hown.own.2.2.size hown.own.block⟩, by simpa using hkeep w' h3, by simpa using haway v' h5⟩, h3, h5⟩
  · obtain ⟨b, o, rfl, hc⟩ := hr.2.2 h0
    obtain ⟨v', w', hrun, h2, h3, _, h5⟩ := run_append_own_at (P := P) w w0.heap.size t ty e i z 4 bytes ht hi hz hsize hby hzs (by decide) v xs.length (xs.map paL).flatten (by simpa using hown.own.1) ⟨b, o, none⟩ m c (ys.map paL).flatten
      (by rw [flat_length hr.2.1]; simp [hl])
      (fun j u hu => by
        have hjl := (List.getElem?_eq_some_iff.1 hu).1
        rw [flat_length hr.2.1] at hjl
        have hq : j / 4 < (ys.map paL).length := (Nat.div_lt_iff_lt_mul (by decide)).2 hjl
        have hjk : j / 4 * 4 + j % 4 = j := by omega
        have hat := flat_at (i := j % 4) hr.2.1 (List.getElem?_eq_getElem hq) (Nat.mod_lt _ (by decide))
        rw [hjk, hu] at hat
        have := hc (j / 4) (j % 4) _ u (List.getElem?_eq_getElem hq) hat.symm
        rw [plain_add, ← hjk, ← Nat.add_assoc]
        exact this)
      (fun u hu => by
        obtain ⟨cs, hcs, hu⟩ := List.mem_flatten.1 hu
        exact hone cs hcs u hu)
      (by simp only [maxLen]; omega) hbig hown.own.2.2.size
    refine ⟨v', w', hrun, ⟨⟨?_, fun cs hcs => ?_, Below.grown hown.own.2.2 h3 hown.own.2.2.size hown.own.block⟩, hkeep w' h3, haway v' h5⟩, h3, h5⟩
    · simp only [List.map_append, List.length_append, List.length_map, List.flatten_append, hl]
      exact h2
    · obtain ⟨y, _, rfl⟩ := List.mem_map.1 hcs
      rfl

theorem run_append_ns (t ty : TypeId) (i : TypeInfo) (z : Value) (bytes : Nat) (ht : P.underlying t = some (.slice e)) (hi : P.info? e = some i) (hz : i.zero = some z) (hsize : i.size = 4) (hby : i.bytes = bytes) (hzs : z.cells.size = 4)
    (hown : OwnNs e w0 w v xs) (A : Option Addr) (m c : Nat) (ys : List PaC) (hr : RowK 4 w A m (ys.map paL)) (hok : ∀ y ∈ ys, PaOk w y) (haw : ∀ y ∈ ys, ∀ g, v.ownBlock = some g -> AwayN g y) (hb : xs.length + m <= 1000000) (hbb : bytes <= 1000) :
    ∃ v' w', (Builtin.append_ #[t, t] ty #[v, .slice A m c]).run P w = .ok v' w' /\ OwnNs e w0 w' v' (xs ++ ys) /\ w.grownBy w' v.ownBlock := by
  obtain ⟨v', w', h1, h2, h3, _⟩ := run_append_ns5 (P := P) t ty i z bytes ht hi hz hsize hby hzs hown A m c ys hr hok haw hb hbb
  exact ⟨v', w', h1, h2, h3⟩
theorem wpList_append_ns {ops : Array Oper} {rest : List Oper} {o : Oper} {a : Act} {Q : Exit -> Act -> World -> Prop} (hgd : o.guard = none) (s x : Operand) (t : TypeId)
    (ho : o.op = .call { callee := .builtin .append, args := #[s, x], argTypes := #[t, t] }) (i : TypeInfo) (z : Value) (bytes : Nat)
    (ht : P.underlying t = some (.slice e)) (hi : P.info? e = some i) (hz : i.zero = some z) (hsize : i.size = 4) (hby : i.bytes = bytes) (hzs : z.cells.size = 4)
    (hown : OwnNs e w0 w v xs) (hs : a.eval s = v) (A : Option Addr) (m c : Nat) (ys : List PaC) (hx : a.eval x = .slice A m c) (hr : RowK 4 w A m (ys.map paL)) (hok : ∀ y ∈ ys, PaOk w y) (haw : ∀ y ∈ ys, ∀ g, v.ownBlock = some g -> AwayN g y) (hb : xs.length + m <= 1000000) (hbb : bytes <= 1000)
    (h : ∀ v' w', OwnNs e w0 w' v' (xs ++ ys) -> w.grownBy w' v.ownBlock -> wpList P ops Q rest (a.put o.dst v') w') : wpList P ops Q (o :: rest) a w := by
  refine wpList_plain hgd fun K hK => ?_
  obtain ⟨v', w', hrun, h2, h3⟩ := run_append_ns (P := P) t o.type i z bytes ht hi hz hsize hby hzs hown A m c ys hr hok haw hb hbb
  unfold Oper.wp execOp
  simp only [ho, resolve, invoke, builtin, Sem.run_bind, Sem.run_pure, Result.andThen_ok, List.map_toArray, List.map_cons, List.map_nil, hs, hx, hrun]
  exact hK _ _ (h v' w' h2 h3)
theorem wpList_append_ns5 {ops : Array Oper} {rest : List Oper} {o : Oper} {a : Act} {Q : Exit -> Act -> World -> Prop} (hgd : o.guard = none) (s x : Operand) (t : TypeId)
    (ho : o.op = .call { callee := .builtin .append, args := #[s, x], argTypes := #[t, t] }) (i : TypeInfo) (z : Value) (bytes : Nat)
    (ht : P.underlying t = some (.slice e)) (hi : P.info? e = some i) (hz : i.zero = some z) (hsize : i.size = 4) (hby : i.bytes = bytes) (hzs : z.cells.size = 4)
    (hown : OwnNs e w0 w v xs) (hs : a.eval s = v) (A : Option Addr) (m c : Nat) (ys : List PaC) (hx : a.eval x = .slice A m c) (hr : RowK 4 w A m (ys.map paL)) (hok : ∀ y ∈ ys, PaOk w y) (haw : ∀ y ∈ ys, ∀ g, v.ownBlock = some g -> AwayN g y) (hb : xs.length + m <= 1000000) (hbb : bytes <= 1000)
    (h : ∀ v' w', OwnNs e w0 w' v' (xs ++ ys) -> w.grownBy w' v.ownBlock -> (v'.ownBlock = v.ownBlock ∨ v'.ownBlock = some w.heap.size) -> wpList P ops Q rest (a.put o.dst v') w') : wpList P ops Q (o :: rest) a w := by
  refine wpList_plain hgd fun K hK => ?_
  obtain ⟨v', w', hrun, h2, h3, h5⟩ := run_append_ns5 (P := P) t o.type i z bytes ht hi hz hsize hby hzs hown A m c ys hr hok haw hb hbb
  unfold Oper.wp execOp
  simp only [ho, resolve, invoke, builtin, Sem.run_bind, Sem.run_pure, Result.andThen_ok, List.map_toArray, List.map_cons, List.map_nil, hs, hx, hrun]
  exact hK _ _ (h v' w' h2 h3 h5)
end

theorem PaOk.later4 {w : World} {x : PaC} (h : PaOk w x) (o : Obj) : PaOk (w.alloc o) x := h.later ((Later.refl w).alloc o)
theorem rowN_one (w : World) (x : PaC) (t : TypeId) : RowK 4 (w.alloc (.cells #[.int .i64 x.v.id, .string x.v.note, .slice x.D x.nd x.cd, .slice x.L x.nl x.cl] t)) (some ⟨w.heap.size, 0, .none⟩) 1 ([x].map paL) := RowK.one w (paL x) t

theorem flat_set4 (v0 v1 v2 v3 : Value) : ∀ {css : List (List Value)}, (∀ cs ∈ css, cs.length = 4) -> ∀ {i : Nat}, i < css.length -> ((((css.flatten.set (i * 4) v0).set (i * 4 + 1) v1).set (i * 4 + 2) v2).set (i * 4 + 3) v3) = (css.set i [v0, v1, v2, v3]).flatten
  | [], _, _, h => absurd h (Nat.not_lt_zero _)
  | c :: css, hk, i, hi => by
    match c, hk c List.mem_cons_self with
    | [a0, a1, a2, a3], _ =>
      cases i with
      | zero => simp
      | succ i =>
        have ih := flat_set4 v0 v1 v2 v3 (css := css) (fun cs h => hk cs (List.mem_cons_of_mem _ h)) (i := i) (by simpa using hi)
        rw [List.set_cons_succ, List.flatten_cons, List.flatten_cons, ← ih]
        simp only [show (i + 1) * 4 = i * 4 + 4 by omega, show i * 4 + 4 + 1 = i * 4 + 1 + 4 by omega, show i * 4 + 4 + 2 = i * 4 + 2 + 4 by omega, show i * 4 + 4 + 3 = i * 4 + 3 + 4 by omega]
        rfl
theorem turned_sets4 (w : World) (g o i : Nat) (v0 v1 v2 v3 : Value) : Turned g w ((((w.setCell ⟨g, o + i * 4, none⟩ v0).setCell ⟨g, o + i * 4 + 1, none⟩ v1).setCell ⟨g, o + i * 4 + 2, none⟩ v2).setCell ⟨g, o + i * 4 + 3, none⟩ v3) :=
  (((turned_set w g _ v0).trans (turned_set _ g _ v1)).trans (turned_set _ g _ v2)).trans (turned_set _ g _ v3)

section
variable {e : TypeId} {w0 w w' : World} {A : Option Addr} {n c g o : Nat} {xs : List PaC}
theorem OwnNs.ns (h : OwnNs e w0 w (.slice A n c) xs) : NsOk w A n xs := by
  obtain ⟨A', c', hv, _, hr⟩ := h.row
  cases hv
  exact hr
theorem OwnNs.size (h : OwnNs e w0 w (.slice A n c) xs) : xs.length = n := h.ns.len
theorem OwnNs.at (h : OwnNs e w0 w (.slice (some ⟨g, o, none⟩) n c) xs) : o = 0 /\ ∃ cur, w.heap[g]? = some (.cells cur e (0, 0)) /\ cur.size = c * 4 /\ n <= c /\ c <= maxLen /\ cur.toList.take (n * 4) = (xs.map paL).flatten := by
  have hs := h.size
  rcases h.own.1.2 with ⟨hv, _⟩ | ⟨g', cap, cur, hv, _, hh, hnc, hm, hc, ht⟩
  · cases hv
  · simp only [List.length_map] at hv hnc ht
    rw [hs] at hv hnc ht
    cases hv
    exact ⟨rfl, cur, hh, hc, hnc, hm, ht⟩
theorem OwnNs.frozen (h : OwnNs e w0 w (.slice (some ⟨g, o, none⟩) n c) xs) (i : Nat) : w.frozen? ⟨g, i, none⟩ = false := by
  obtain ⟨_, cur, hh, _⟩ := h.at
  exact frozen_no hh i
theorem OwnNs.set (h : OwnNs e w0 w (.slice (some ⟨g, o, none⟩) n c) xs) {i : Nat} (hi : i < n) (x : PaC) (hx : PaOk w x) (ha : AwayN g x) :
    OwnNs e w0 ((((w.setCell ⟨g, o + i * 4, none⟩ (.int .i64 x.v.id)).setCell ⟨g, o + i * 4 + 1, none⟩ (.string x.v.note)).setCell ⟨g, o + i * 4 + 2, none⟩ (.slice x.D x.nd x.cd)).setCell ⟨g, o + i * 4 + 3, none⟩ (.slice x.L x.nl x.cl)) (.slice (some ⟨g, o, none⟩) n c) (xs.set i x) := by
  have hsz := h.size
  obtain ⟨rfl, cur, hh, hcs, hnc, hm, ht⟩ := h.at
  have hb := h.block g rfl
  have htn := turned_sets4 w g 0 i (.int .i64 x.v.id) (.string x.v.note) (.slice x.D x.nd x.cd) (.slice x.L x.nl x.cl)
  have hl := h.later.turn htn hb
  have hbox := (((BoxAt.set (show BoxAt w g cur e from hh) (0 + i * 4) (.int .i64 x.v.id)).set (0 + i * 4 + 1) (.string x.v.note)).set (0 + i * 4 + 2) (.slice x.D x.nd x.cd)).set (0 + i * 4 + 3) (.slice x.L x.nl x.cl)
  have hlen : (xs.map paL).length = n := by simp [hsz]
  refine ⟨⟨⟨?_, .inr ⟨g, c, _, ?_, hb, hbox, ?_, hm, ?_, ?_⟩⟩, ?_, hl⟩, ?_, ?_⟩
  · rw [flat_length (k := 4) (by intro cs hcs; obtain ⟨y, _, rfl⟩ := List.mem_map.1 hcs; rfl)]
  · simp [hsz]
  · simp [hsz]; exact hnc
  · simpa using hcs
  · simp only [List.length_map, List.length_set, Array.toList_setIfInBounds, List.take_set, hsz, ht, Nat.zero_add]
    rw [flat_set4 _ _ _ _ (by intro cs hcs; obtain ⟨y, _, rfl⟩ := List.mem_map.1 hcs; rfl) (by simp [hsz]; exact hi), List.map_set]
    rfl
  · intro cs hcs
    obtain ⟨y, _, rfl⟩ := List.mem_map.1 hcs
    rfl
  · intro y hy
    have h1 : PaOk w y /\ AwayN g y := by
      rcases List.mem_or_eq_of_mem_set hy with h2 | rfl
      · exact ⟨h.ok y h2, h.away y h2 g rfl⟩
      · exact ⟨hx, ha⟩
    exact h1.1.off htn h1.2
  · intro y hy g' hg'
    cases hg'
    rcases List.mem_or_eq_of_mem_set hy with h2 | rfl
    · exact h.away y h2 _ rfl
    · exact ha
end

theorem OwnNs.noBox {e t : TypeId} {w0 w : World} {v : Value} {xs : List PaC} {g : Nat} {cs : Array Value} (h : OwnNs e w0 w v xs) (hb : BoxAt w g cs t) (hne : t ≠ e) : v.ownBlock ≠ some g := by
  rcases h.own.1.2 with ⟨rfl, _⟩ | ⟨g', cap, cur, rfl, _, hh, _⟩
  · simp [Value.ownBlock]
  · intro e
    simp only [Value.ownBlock, Option.some.injEq] at e
    subst e
    unfold BoxAt at hb
    rw [hb] at hh
    simp at hh
    exact hne hh.2
theorem OwnNs.shut {e : TypeId} {w V : World} {l : Nat} {o o' : Obj} {v : Value} {xs : List PaC} (h : OwnNs e w V v xs) (hw : w.heap.size <= l) (hl : V.heap[l]? = some o) (ho : o.isCells = false) : OwnNs e w (V.putObj l o') v xs := by
  refine h.other (shut_turned V l o') ?_ (fun x hx => (h.ok x hx).shutA hl ho) (h.later.turn (shut_turned V l o') hw)
  rcases h.own.1.2 with ⟨rfl, _⟩ | ⟨g, cap, cur, rfl, _, hh, _⟩
  · simp [Value.ownBlock]
  · intro e
    simp only [Value.ownBlock, Option.some.injEq] at e
    subst e
    rw [hh] at hl
    cases hl
    cases ho
theorem paV_is (x : PaC) : paV x = .agg (paL x).toArray := rfl
theorem paL_one (x : PaC) : (paL x).toArray.all (·.oneCell') = true := by simp [paL, Value.oneCell']

def NAt (w : World) (v : Value) (p : Pa) : Prop := ∃ x : PaC, v = paV x /\ x.v = p /\ PaOk w x
def NsAt (w : World) (v : Value) (l : List Pa) : Prop := ∃ A n c xs, v = .slice A n c /\ n <= c /\ NsOk w A n xs /\ valsN xs = l
section
variable {w w' : World} {v u : Value} {l m : List Pa} {p : Pa}
theorem NAt.later (h : NAt w v p) (hl : Later w w') : NAt w' v p := by obtain ⟨x, h1, h2, h3⟩ := h; exact ⟨x, h1, h2, h3.later hl⟩
theorem NsAt.later (h : NsAt w v l) (hl : Later w w') : NsAt w' v l := by obtain ⟨A, n, c, xs, rfl, hc, hp, hv⟩ := h; exact ⟨A, n, c, xs, rfl, hc, hp.later hl, hv⟩
theorem NsAt.nil (w : World) : NsAt w (.slice none 0 0) [] := ⟨none, 0, 0, [], rfl, Nat.le_refl _, NsOk.none _ _, rfl⟩
end

end Go.Proofs.YtlnjhimbgckdcaaGreat

/-
  What is asked of patches that come in.
-/
namespace Go.Proofs.YtlnjhimbgckdcaaGreat
open Go.RowKit Go.Maps

def weightN (x : PaC) : Nat := x.v.note.size + x.nd + x.nl + weightPs x.xs
def weightNs (xs : List PaC) : Nat := (xs.map weightN).sum
theorem weightNs_take {xs : List PaC} {k : Nat} {x : PaC} (h : xs[k]? = some x) : weightNs (xs.take (k + 1)) = weightNs (xs.take k) + weightN x := by
  obtain ⟨hk, rfl⟩ := List.getElem?_eq_some_iff.1 h
  unfold weightNs
  rw [List.take_succ_eq_append_getElem hk, List.map_append, List.sum_append]
  simp
theorem weightNs_mem {xs : List PaC} {x : PaC} (h : x ∈ xs) : weightN x <= weightNs xs := by
  induction xs with
  | nil => cases h
  | cons y xs ih =>
    simp only [weightNs, List.map_cons, List.sum_cons] at ih ⊢
    rcases List.mem_cons.1 h with rfl | h
    · omega
    · have := ih h; omega
structure CameN (w : World) (x : PaC) : Prop where
  deps : RowK 1 w x.D x.nd (x.v.deps.map numL)
  droom : x.nd <= x.cd
  prims : Prims w x.L x.nl x.xs
  is : valsP x.xs = x.v.l
  lroom : x.nl <= x.cl
  lo : -9223372036854775808 <= x.v.id
  hi : x.v.id <= 9223372036854775807
  note : x.v.note.size <= maxLen
  dlo : ∀ d ∈ x.v.deps, -9223372036854775808 <= d
  dhi : ∀ d ∈ x.v.deps, d <= 9223372036854775807
  weigh : weightN x <= 1048576
theorem CameN.later {w w' : World} {x : PaC} (h : CameN w x) (hl : Later w w') : CameN w' x := ⟨h.deps.later hl, h.droom, h.prims.later hl, h.is, h.lroom, h.lo, h.hi, h.note, h.dlo, h.dhi, h.weigh⟩
theorem CameN.ok {w : World} {x : PaC} (h : CameN w x) (hw : weightN x <= 6000) : PaOk w x := by
  unfold weightN at hw
  exact ⟨h.deps, h.prims.ok (by omega), h.is, h.droom, h.lroom, by omega, by omega, h.note, h.lo, h.hi, h.dlo, h.dhi⟩
structure CameNs (w : World) (A : Option Addr) (n c : Nat) (xs : List PaC) : Prop where
  row : RowK 4 w A n (xs.map paL)
  room : n <= c
  each : ∀ x ∈ xs, CameN w x
  weigh : weightNs xs + n <= 1048576
theorem CameNs.later {w w' : World} {A : Option Addr} {n c : Nat} {xs : List PaC} (h : CameNs w A n c xs) (hl : Later w w') : CameNs w' A n c xs := ⟨h.row.later hl, h.room, fun x hx => (h.each x hx).later hl, h.weigh⟩
theorem CameNs.len {w : World} {A : Option Addr} {n c : Nat} {xs : List PaC} (h : CameNs w A n c xs) : xs.length = n := by have := h.row.len; simpa using this
theorem CameNs.ok {w : World} {A : Option Addr} {n c : Nat} {xs : List PaC} (h : CameNs w A n c xs) (hw : weightNs xs <= 6000) : NsOk w A n xs :=
  ⟨h.row, fun x hx => (h.each x hx).ok (by have := weightNs_mem hx; omega)⟩

end Go.Proofs.YtlnjhimbgckdcaaGreat

/-
  Patches that come in, and rows of them: from what is read as data to what the laws ask.
-/
namespace Go.Proofs.YtlnjhimbgckdcaaGreat
open Go.ChangeShapes Go.WideShapes Go.ChangeAt Go.RowKit Go.Deep

theorem bulk_lits {H : Type} (k : IntKind) (zs : List Int) : Rows.uptoBulkAll (lits (H := H) k zs) = zs.length := by
  induction zs with
  | nil => rfl
  | cons z zs ih =>
    simp only [lits, List.map_cons, Rows.uptoBulkAll, Rows.uptoBulk, List.length_cons] at ih ⊢
    rw [ih]
    omega
theorem Tryz.cells3 : Tryz.prog.cellsOf 3 = 1 := by kernel_rfl
theorem came_nums {H : Type} {enc : TypeId × Value -> H} {W : World} {v : Value} {fuel : Nat} {x : DataW H × List MemPlace}
    (hf : DataW.trod enc Tryz.prog W 0 (fun _ => true) true fuel 22 [v] = some x) : ∃ (A : Option Addr) (n c : Nat) (zs : List Int), v = .slice A n c /\ n <= c /\ RowK 1 W A n (zs.map numL) /\ n + 1 <= Rows.uptoBulk x.1 /\ ∀ z ∈ zs, -9223372036854775808 <= z /\ z <= 9223372036854775807 := by
  rcases open_ints Tryz.underlying22 Tryz.underlying3 Tryz.cells3 hf with ⟨hcs, hx⟩ | ⟨a, len, cap, zs, hcs, _, hl, hm, hz, hx, hcell, hwf⟩
  · simp at hcs
    subst hx
    exact ⟨none, 0, 0, [], hcs, Nat.le_refl _, RowK.none, by simp [Rows.uptoBulk], fun z hz => by cases hz⟩
  · simp at hcs
    subst hx
    simp only [if_true] at hz
    obtain ⟨b, off, spot⟩ := a
    refine ⟨_, len, cap, zs.take len, hcs, hl, ⟨by rw [List.length_map, List.length_take]; omega, (fun cs hcs => by obtain ⟨d, _, rfl⟩ := List.mem_map.1 hcs; rfl), fun h0 => ?_⟩, ?_, fun z hz => ?_⟩
    · have hspot : spot = none := by simpa [Addr.add] using World.cell?_spot (hcell 0 (by omega))
      subst hspot
      refine ⟨b, off, rfl, fun j i cs v hj hi => ?_⟩
      rw [List.getElem?_map] at hj
      obtain ⟨d, hd, rfl⟩ := Option.map_eq_some_iff.1 hj
      have hjl : j < len := by
        have := (List.getElem?_eq_some_iff.1 hd).1
        rw [List.length_take] at this; omega
      rw [List.getElem?_take_of_lt hjl] at hd
      match i, hi with
      | 0, hi =>
        simp only [numL, List.getElem?_cons_zero, Option.some.injEq] at hi
        subst hi
        have := hcell j (by omega)
        rw [plain_add] at this
        rw [Nat.mul_one, Nat.add_zero, this]
        simp [List.getD, hd]
      | i + 1, hi => simp [numL] at hi
    · simp only [Rows.uptoBulk]
      rw [bulk_lits, List.length_take]
      omega
    · have := hwf z (List.mem_of_mem_take hz)
      simp only [Lit.wf, Bool.and_eq_true, decide_eq_true_eq] at this
      exact this
theorem came_prims2 {H : Type} {enc : TypeId × Value -> H} {W : World} {v : Value} {fuel : Nat} {x : DataW H × List MemPlace}
    (hf : DataW.trod enc Tryz.prog W 0 (fun _ => true) true fuel 23 [v] = some x) (hb : Rows.uptoBulk x.1 <= 1048576) : ∃ A n c xs, v = .slice A n c /\ n <= c /\ Prims W A n xs /\ weightPs xs + n + 1 <= Rows.uptoBulk x.1 := by
  rcases open_slice_fields (fs := primFields) Tryz.underlying23 Tryz.underlying89 Tryz.primOne Tryz.primCells6 hf with ⟨hcs, hx⟩ | ⟨a, len, cap, m, D, Pl, hcs, hl, hm, hx, hi⟩
  · simp at hcs
    subst hx
    exact ⟨none, 0, 0, [], hcs, Nat.le_refl _, ⟨RowK.none, (fun o ho => by cases ho)⟩, by simp [weightPs, Rows.uptoBulk]⟩
  · simp only [if_true] at hm
    have hsz : primFields.size = 6 := rfl
    have hbk : Rows.uptoBulkAll ((List.range len).map D) + 1 <= Rows.uptoBulk x.1 := by
      subst hx
      simp only [Rows.uptoBulk]
      omega
    have hel : ∀ i, i < len -> ∃ x : PrC, (∀ (j : Nat) u, (prL x)[j]? = some u -> W.cell? (a.add (i * 6 + j)) = some u) /\ Row W x.A x.n x.v.old /\ Row W x.B x.m x.v.new /\ x.n <= x.c /\ x.m <= x.d /\ -9223372036854775808 <= x.v.place /\ x.v.place <= 9223372036854775807 /\ weightP x.v + 1 <= Rows.uptoBulk (D i) := fun i hil => by
      obtain ⟨ys, n, hD, hyl, hfld⟩ := hi i (by omega)
      rw [hsz] at hyl hfld
      rw [hD]
      exact prim_of hyl hfld
    obtain ⟨xs, hol, hoq⟩ := list_of len hel
    have hwt := bulkP_range D len xs hol fun i o ho => (hoq i o ho).2.2.2.2.2.2.2
    simp at hcs
    have hmem : ∀ x ∈ xs, CameP W x := fun x hx => by
      obtain ⟨i, hio⟩ := List.getElem?_of_mem hx
      obtain ⟨_, h2, h3, h4, h5, h6, h7, _⟩ := hoq i x hio
      have := weightPs_mem hx
      exact ⟨h2, h3, h4, h5, h6, h7, by omega⟩
    refine ⟨some a, len, cap, xs, hcs, hl, ⟨⟨by simp [hol], fun cs hcs => ?_, fun h0 => ?_⟩, hmem⟩, by omega⟩
    · obtain ⟨o, _, rfl⟩ := List.mem_map.1 hcs
      rfl
    · obtain ⟨b, off, spot⟩ := a
      have h00 := (hoq 0 (xs[0]'(by omega)) (List.getElem?_eq_getElem (by omega))).1 0 _ rfl
      have hspot : spot = none := by simpa [Addr.add] using World.cell?_spot h00
      subst hspot
      refine ⟨b, off, rfl, fun j i cs u hj hi => ?_⟩
      rw [List.getElem?_map] at hj
      obtain ⟨o, ho, rfl⟩ := Option.map_eq_some_iff.1 hj
      have := (hoq j o ho).1 i u hi
      rw [plain_add, ← Nat.add_assoc] at this
      exact this

def patchFields : Array Field := #[{ name := "Id", type := 3, offset := 0, embedded := false, tag := "", pkgPath := "", byteOffset := 0 }, { name := "Note", type := 9, offset := 1, embedded := false, tag := "", pkgPath := "", byteOffset := 8 }, { name := "Deps", type := 22, offset := 2, embedded := false, tag := "", pkgPath := "", byteOffset := 24 }, { name := "L", type := 23, offset := 3, embedded := false, tag := "", pkgPath := "", byteOffset := 48 }]
theorem Tryz.patchOne : oneCellFields Tryz.prog patchFields = true := by kernel_rfl
theorem Tryz.patchCells4 : Tryz.prog.cellsOf 25 = patchFields.size := by kernel_rfl

theorem patch_of {H : Type} {enc : TypeId × Value -> H} {W : World} {fuel : Nat} {ys : List (DataW H × List MemPlace)} {Q : Nat -> Value -> Prop} (hyl : ys.length = 4) (hb : Rows.uptoBulk (.agg (ys.map (·.1))) <= 1048576)
    (hfld : ∀ (j : Nat) (f : Field), patchFields[j]? = some f -> ∃ (v : Value) (y : DataW H × List MemPlace), Q j v /\ ys[j]? = some y /\ DataW.trod enc Tryz.prog W 0 (fun _ => true) true fuel f.type [v] = some y) :
    ∃ x : PaC, (∀ (j : Nat) u, (paL x)[j]? = some u -> Q j u) /\ CameN W x /\ weightN x + 1 <= Rows.uptoBulk (.agg (ys.map (·.1))) := by
  obtain ⟨v0, y0, c0, e0, t0⟩ := hfld 0 _ rfl
  obtain ⟨v1, y1, c1, e1, t1⟩ := hfld 1 _ rfl
  obtain ⟨v2, y2, c2, e2, t2⟩ := hfld 2 _ rfl
  obtain ⟨v3, y3, c3, e3, t3⟩ := hfld 3 _ rfl
  obtain ⟨kd, hk, _, hwf⟩ := DataW.trod_int Tryz.underlying3 t0
  obtain ⟨s1, hs1, hy1, hsm⟩ := DataW.trod_string Tryz.underlying9 t1
  obtain ⟨Dl, nd, cd, zs, hv2, hdc, hrow, hwd, hzs⟩ := came_nums t2
  match ys, hyl, e0, e1, e2, e3 with
  | [z0, z1, z2, z3], _, e0, e1, e2, e3 =>
    simp only [List.getElem?_cons_zero, List.getElem?_cons_succ, Option.some.injEq] at e0 e1 e2 e3
    subst e0 e1 e2 e3
    simp only [List.map_cons, List.map_nil, Rows.uptoBulk, Rows.uptoBulkAll] at hb ⊢
    obtain ⟨Ll, nl, cl, xs, hv3, hlc, hps, hwl⟩ := came_prims2 t3 (by omega)
    simp only [List.cons.injEq, and_true] at hk hs1
    subst hk hs1 hv2 hv3
    have hwf' : -9223372036854775808 <= kd /\ kd <= 9223372036854775807 := by
      simp only [Lit.wf, Bool.and_eq_true, decide_eq_true_eq] at hwf
      exact hwf
    rw [hy1] at hb ⊢
    have l1 : s1.data.toList.length = s1.size := by rw [Array.length_toList]; rfl
    simp only [Rows.uptoBulk] at hb ⊢
    have hzl : zs.length = nd := by have := hrow.len; simpa using this
    refine ⟨⟨⟨kd, s1, zs, valsP xs⟩, Dl, nd, cd, Ll, nl, cl, xs⟩, fun j u hj => ?_, ⟨hrow, hdc, hps, rfl, hlc, hwf'.1, hwf'.2, hsm, fun d hd => (hzs d hd).1, fun d hd => (hzs d hd).2, ?_⟩, ?_⟩
    · simp only [paL] at hj
      match j, hj with
      | 0, hj => simp at hj; subst hj; exact c0
      | 1, hj => simp at hj; subst hj; exact c1
      | 2, hj => simp at hj; subst hj; exact c2
      | 3, hj => simp at hj; subst hj; exact c3
      | j + 4, hj => simp at hj
    · simp only [weightN]; omega
    · simp only [weightN]; omega

theorem came_patch {H : Type} {enc : TypeId × Value -> H} {W : World} {cs : Array Value} {fuel : Nat} {x : DataW H × List MemPlace}
    (hf : DataW.trod enc Tryz.prog W 0 (fun _ => true) true fuel 25 (Value.agg cs).cells.toList = some x) (hb : Rows.uptoBulk x.1 <= 1048576) : ∃ y, Value.agg cs = paV y /\ CameN W y /\ weightN y + 1 <= Rows.uptoBulk x.1 := by
  obtain ⟨ys, n', _, hy, hcl, hyl, hfl⟩ := DataW.trod_struct (fs := patchFields) Tryz.underlying25 hf
  rw [Tryz.patchCells4] at hcl
  have hsz : patchFields.size = 4 := rfl
  rw [hsz] at hcl hyl
  have hcs : (Value.agg cs).cells.toList = cs.toList := rfl
  rw [hcs] at hcl hfl
  subst hy
  dsimp only at hb
  obtain ⟨y, h1, h2, h3⟩ := patch_of (W := W) (enc := enc) (fuel := n') (Q := fun j v => cs.toList[j]? = some v) hyl hb fun j f hj => by
    obtain ⟨ho, hk⟩ := hone_of Tryz.patchOne j f hj
    have hjl : j < 4 := (Array.getElem?_eq_some_iff.1 hj).1
    have hv : cs.toList[j]? = some (cs.toList[j]'(by omega)) := List.getElem?_eq_getElem (by omega)
    have h1 := hfl j f hj
    rw [ho, hk] at h1
    have hone' : (cs.toList.drop j).take 1 = [cs.toList[j]'(by omega)] := by
      rw [List.drop_eq_getElem_cons (by omega)]
      rfl
    rw [hone'] at h1
    have hys : ys[j]? = some (ys[j]'(by omega)) := List.getElem?_eq_getElem (by omega)
    exact ⟨_, _, hv, hys, h1.trans hys⟩
  refine ⟨y, ?_, h2, h3⟩
  have : cs.toList = paL y := by
    refine List.ext_getElem? fun j => ?_
    by_cases hj : j < 4
    · have hjl : (paL y)[j]? = some ((paL y)[j]'hj) := List.getElem?_eq_getElem hj
      rw [hjl, h1 j _ hjl]
    · rw [List.getElem?_eq_none (by omega), List.getElem?_eq_none (by show 4 <= j; omega)]
  unfold paV
  congr 1
  exact Array.ext' this

theorem bulkN_range {H : Type} (D : Nat -> DataW H) : ∀ (n : Nat) (xs : List PaC), xs.length = n -> (∀ (i : Nat) x, xs[i]? = some x -> weightN x + 1 <= Rows.uptoBulk (D i)) -> weightNs xs + n <= Rows.uptoBulkAll ((List.range n).map D)
  | 0, xs, h, _ => by
    have : xs = [] := List.eq_nil_of_length_eq_zero h
    subst this; simp [weightNs]
  | n + 1, xs, h, hw => by
    have key : ∀ (l r : List (DataW H)), Rows.uptoBulkAll (l ++ r) = Rows.uptoBulkAll l + Rows.uptoBulkAll r := fun l r => by
      induction l with
      | nil => simp [Rows.uptoBulkAll]
      | cons x l ih => simp only [List.cons_append, Rows.uptoBulkAll, ih]; omega
    have ih := bulkN_range D n (xs.take n) (by rw [List.length_take]; omega) (fun i x hx => hw i x (by
      have hi : i < n := by have := (List.getElem?_eq_some_iff.1 hx).1; rw [List.length_take] at this; omega
      rwa [List.getElem?_take_of_lt hi] at hx))
    have hz : xs[n]? = some (xs[n]'(by omega)) := List.getElem?_eq_getElem (by omega)
    have h1 := hw n _ hz
    have h2 := weightNs_take hz
    rw [show xs.take (n + 1) = xs from List.take_of_length_le (by omega)] at h2
    rw [List.range_succ, List.map_append, key]
    simp only [List.map_cons, List.map_nil, Rows.uptoBulkAll]
    omega
theorem bulk_range_mem {H : Type} (D : Nat -> DataW H) : ∀ (n i : Nat), i < n -> Rows.uptoBulk (D i) <= Rows.uptoBulkAll ((List.range n).map D)
  | 0, _, h => absurd h (Nat.not_lt_zero _)
  | n + 1, i, h => by
    have key : ∀ (l r : List (DataW H)), Rows.uptoBulkAll (l ++ r) = Rows.uptoBulkAll l + Rows.uptoBulkAll r := fun l r => by
      induction l with
      | nil => simp [Rows.uptoBulkAll]
      | cons x l ih => simp only [List.cons_append, Rows.uptoBulkAll, ih]; omega
    rw [List.range_succ, List.map_append, key]
    simp only [List.map_cons, List.map_nil, Rows.uptoBulkAll]
    rcases Nat.lt_or_ge i n with hi | hi
    · have := bulk_range_mem D n i hi; omega
    · obtain rfl : i = n := by omega
      omega

theorem came_patchesW {H : Type} {enc : TypeId × Value -> H} {W : World} {v : Value} {fuel : Nat} {x : DataW H × List MemPlace}
    (hf : DataW.trod enc Tryz.prog W 0 (fun _ => true) true fuel 39 [v] = some x) (hb : Rows.uptoBulk x.1 <= 1048576) : ∃ A n c xs, v = .slice A n c /\ CameNs W A n c xs /\ weightNs xs + n <= Rows.uptoBulk x.1 := by
  rcases open_slice_fields (fs := patchFields) Tryz.underlying39 Tryz.underlying25 Tryz.patchOne Tryz.patchCells4 hf with ⟨hcs, hx⟩ | ⟨a, len, cap, m, D, Pl, hcs, hl, hm, hx, hi⟩
  · simp at hcs
    exact ⟨none, 0, 0, [], hcs, ⟨RowK.none, Nat.le_refl _, (fun o ho => by cases ho), by simp [weightNs]⟩, by simp [weightNs]⟩
  · simp only [if_true] at hm
    have hsz : patchFields.size = 4 := rfl
    have hbk : Rows.uptoBulkAll ((List.range len).map D) + 1 <= 1048576 := by
      subst hx
      simp only [Rows.uptoBulk] at hb
      omega
    have hel : ∀ i, i < len -> ∃ x : PaC, (∀ (j : Nat) u, (paL x)[j]? = some u -> W.cell? (a.add (i * 4 + j)) = some u) /\ CameN W x /\ weightN x + 1 <= Rows.uptoBulk (D i) := fun i hil => by
      obtain ⟨ys, n, hD, hyl, hfld⟩ := hi i (by omega)
      rw [hsz] at hyl hfld
      have hbi := bulk_range_mem D len i hil
      rw [hD] at hbi ⊢
      exact patch_of hyl (by omega) hfld
    obtain ⟨xs, hol, hoq⟩ := list_of len hel
    have hwt := bulkN_range D len xs hol fun i o ho => (hoq i o ho).2.2
    simp at hcs
    have hmem : ∀ x ∈ xs, CameN W x := fun x hx => by
      obtain ⟨i, hio⟩ := List.getElem?_of_mem hx
      exact (hoq i x hio).2.1
    have hbw : weightNs xs + len <= Rows.uptoBulk x.1 := by
      subst hx
      simp only [Rows.uptoBulk]
      omega
    refine ⟨some a, len, cap, xs, hcs, ⟨⟨by simp [hol], fun cs hcs => ?_, fun h0 => ?_⟩, hl, hmem, by omega⟩, hbw⟩
    · obtain ⟨o, _, rfl⟩ := List.mem_map.1 hcs
      rfl
    · obtain ⟨b, off, spot⟩ := a
      have h00 := (hoq 0 (xs[0]'(by omega)) (List.getElem?_eq_getElem (by omega))).1 0 _ rfl
      have hspot : spot = none := by simpa [Addr.add] using World.cell?_spot h00
      subst hspot
      refine ⟨b, off, rfl, fun j i cs u hj hi => ?_⟩
      rw [List.getElem?_map] at hj
      obtain ⟨o, ho, rfl⟩ := Option.map_eq_some_iff.1 hj
      have := (hoq j o ho).1 i u hi
      rw [plain_add, ← Nat.add_assoc] at this
      exact this
end Go.Proofs.YtlnjhimbgckdcaaGreat
