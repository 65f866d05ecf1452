import Derived.WalkKit
import Derived.WalkSpells
import Derived.Deep.Draws
import Derived.Below
import Derived.Maps.AppendAt
import Derived.Laws.MakeOwn
import Derived.Test.YtlnjhimbgckdcaaGreatRows
import Derived.Test.YtlnjhimbgckdcaaGreatChecked
import Derived.ProofKit
import Derived.OpenShut
import Derived.SizedLaws
import Derived.SliceStrings
import Derived.Deep.Slices
import Derived.Deep.Fields
import Derived.ChangeSame
import Derived.Deep.DeepHandedRow
import Derived.Lib.LaidTab
import Derived.LaidSub
import Derived.Lib.IndexLaws
import Derived.Lib.Strings
import Derived.Lib.Bytealg
import Derived.WideShapes
import Derived.WideAt

/-
  Rows of lines in memory: what it means that a slice reads as a list of texts, and how that is kept while memory grows.
-/
namespace Go.Proofs.YtlnjhimbgckdcaaGreat
open Go.RowKit

def Row (w : World) (A : Option Addr) (n : Nat) (ss : List ByteArray) : Prop :=
  ss.length = n /\ (0 < n -> ∃ b o, A = some ⟨b, o, none⟩ /\ ∀ j s, ss[j]? = some s -> w.cell? ⟨b, o + j, none⟩ = some (.string s))

def Later (w w' : World) : Prop := Below w.heap.size w w'

theorem Later.refl (w : World) : Later w w := Below.refl _ _
theorem Later.trans {a b c : World} (h : Later a b) (k : Later b c) : Later a c := Below.trans h (Below.mono k h.size)
theorem Later.alloc {a w : World} (h : Later a w) (o : Obj) : Later a (w.alloc o) := Below.alloc h h.size o
theorem Later.drew {a w : World} (h : Later a w) : Later a w.drew := Below.drew h
theorem Later.drewN {a w : World} (h : Later a w) (n : Nat) : Later a (w.drewN n) := ⟨h.os, h.tape, h.output, h.size, h.block⟩
theorem Later.le {a w : World} (h : Later a w) : a.heap.size <= w.heap.size := h.size

theorem lt_of_cell {w : World} {p : Addr} {v : Value} (h : w.cell? p = some v) : p.block < w.heap.size := by
  rcases Nat.lt_or_ge p.block w.heap.size with hlt | hge
  · exact hlt
  · simp [World.cell?, Array.getElem?_eq_none hge] at h

theorem Later.cell {w w' : World} (h : Later w w') {p : Addr} {v : Value} (hc : w.cell? p = some v) : w'.cell? p = some v :=
  (Below.cell h (lt_of_cell hc)).trans hc

def Drew (w w' : World) : Prop := ∃ q, w' = w.drewN q
theorem Drew.refl (w : World) : Drew w w := ⟨0, rfl⟩
theorem Drew.more {w w' : World} (h : Drew w w') (n : Nat) : Drew w (w'.drewN n) := by
  obtain ⟨q, rfl⟩ := h; exact ⟨q + n, World.drewN_drewN _ _ _⟩
theorem Drew.one {w w' : World} (h : Drew w w') : Drew w w'.drew := by
  obtain ⟨q, rfl⟩ := h; exact ⟨q + 1, rfl⟩
theorem Drew.later {w w' : World} (h : Drew w w') : Later w w' := by
  obtain ⟨q, rfl⟩ := h; exact (Later.refl w).drewN q

section
variable {w w' : World} {A : Option Addr} {n : Nat} {ss : List ByteArray}

theorem Row.len (h : Row w A n ss) : ss.length = n := h.1

theorem Row.none : Row w A 0 [] := ⟨rfl, fun h => absurd h (by omega)⟩

theorem Row.later (h : Row w A n ss) (hl : Later w w') : Row w' A n ss :=
  ⟨h.1, fun hn => by
    obtain ⟨b, o, e, hc⟩ := h.2 hn
    exact ⟨b, o, e, fun j s hs => hl.cell (hc j s hs)⟩⟩

theorem Row.get (h : Row w A n ss) {k : Nat} (hk : k < n) :
    ∃ b o, A = some ⟨b, o, .none⟩ /\ w.cell? ⟨b, o + k, .none⟩ = some (.string (ss.getD k ByteArray.empty)) := by
  obtain ⟨b, o, e, hc⟩ := h.2 (by omega)
  have hl : k < ss.length := by rw [h.1]; exact hk
  refine ⟨b, o, e, ?_⟩
  rw [hc k ss[k] (List.getElem?_eq_getElem hl)]
  simp [List.getD, List.getElem?_eq_getElem hl]

theorem Row.take (h : Row w A n ss) {t : Nat} (ht : t <= n) : Row w A t (ss.take t) := by
  refine ⟨by rw [List.length_take, h.1]; omega, fun hn => ?_⟩
  obtain ⟨b, o, rfl, hc⟩ := h.2 (by omega)
  refine ⟨b, o, rfl, fun j s hs => ?_⟩
  rw [List.getElem?_take] at hs
  split at hs
  · exact hc _ s hs
  · cases hs

theorem Row.drop (h : Row w A n ss) {f : Nat} (hf : f < n) : Row w (A.map (·.add f)) (n - f) (ss.drop f) := by
  refine ⟨by rw [List.length_drop, h.1], fun hn => ?_⟩
  obtain ⟨b, o, rfl, hc⟩ := h.2 (by omega)
  refine ⟨b, o + f, ?_, fun j s hs => ?_⟩
  · simp only [Option.map_some, Addr.add]
    by_cases hf : f = 0 <;> simp [hf]
  · rw [List.getElem?_drop] at hs
    rw [Nat.add_assoc]
    exact hc _ s hs

end

theorem text_ne {x y : ByteArray} (h : x ≠ y) : (x.toList == y.toList) = false := by
  rw [beq_eq_false_iff_ne]
  intro e
  rw [ByteArray.toList_eq, ByteArray.toList_eq] at e
  exact h (ByteArray.ext (Array.ext' e))
theorem ret_bool {a b : Bool} (h : a = b) : Ending.returned (.bool a) = .returned (.bool b) := by rw [h]
theorem byte_at {s : ByteArray} {k : Nat} (h : k < s.size) : s.data.toList[k]? = some s[k] := by
  rw [List.getElem?_eq_getElem (by simpa using h)]; rfl
theorem byte_is {c : UInt8} (h : ((c.toNat : Int) == 10) = true) : c = 10 := by
  have : c.toNat = 10 := by simp at h; omega
  exact UInt8.toNat.inj this
theorem byte_isnt {c : UInt8} (h : ((c.toNat : Int) == 10) = false) : c ≠ 10 := by
  rintro rfl; simp at h
end Go.Proofs.YtlnjhimbgckdcaaGreat

/-
  Rows of lines as lists: with how many lines two rows begin and end alike; the first place at which lines stand. Nothing of any program.
-/
namespace Go.Proofs.YtlnjhimbgckdcaaGreat
open Go.RowKit

theorem take_same {xs ys : List ByteArray} {k : Nat} (hx : k < xs.length) (hy : k < ys.length) (h : xs.take k = ys.take k) (e : xs.getD k ByteArray.empty = ys.getD k ByteArray.empty) :
    Hid (xs.take (k + 1) = ys.take (k + 1)) := by
  show _ = _
  rw [List.take_succ_eq_append_getElem hx, List.take_succ_eq_append_getElem hy, h]
  simp [List.getD, List.getElem?_eq_getElem hx, List.getElem?_eq_getElem hy] at e
  rw [e]

def sameB (xs ys : List ByteArray) : Bool := decide (xs = ys)
theorem sameB_yes {xs ys : List ByteArray} (h : xs = ys) : sameB xs ys = true := by simp [sameB, h]
theorem sameB_no {xs ys : List ByteArray} (h : xs ≠ ys) : sameB xs ys = false := by simp [sameB, h]
theorem beq_of_other {xs ys : List ByteArray} {k : Nat} (h : xs.getD k ByteArray.empty ≠ ys.getD k ByteArray.empty) : sameB xs ys = false :=
  sameB_no fun e => h (by rw [e])

def standsB (l : List ByteArray) (k : Int) (part : List ByteArray) : Bool := decide (0 <= k /\ k + part.length <= l.length) && sameB ((l.drop k.toNat).take part.length) part

def spliced (l : List ByteArray) (k m : Nat) (with_ : List ByteArray) : List ByteArray := l.take k ++ with_ ++ l.drop (k + m)

end Go.Proofs.YtlnjhimbgckdcaaGreat

/-
  The lines of a text, and the text of lines, as lists of bytes. Nothing of any program.
-/
namespace Go.Proofs.YtlnjhimbgckdcaaGreat

def bytes (s : ByteArray) : List UInt8 := s.data.toList
def txt (l : List UInt8) : ByteArray := ⟨l.toArray⟩
theorem txt_bytes (s : ByteArray) : txt (bytes s) = s := by unfold txt bytes; simp
theorem bytes_length (s : ByteArray) : (bytes s).length = s.size := by unfold bytes; simp
end Go.Proofs.YtlnjhimbgckdcaaGreat

/-
  Rows of lines that a call makes itself: what it owns, how it grows by append, and how it reads behind that.
-/
namespace Go.Proofs.YtlnjhimbgckdcaaGreat
open Go.RowKit

theorem plain_add (b o j : Nat) : (⟨b, o, none⟩ : Addr).add j = ⟨b, o + j, none⟩ := by
  unfold Addr.add
  by_cases h : j = 0 <;> simp [h]

def Own (e : TypeId) (w0 w : World) (v : Value) (ss : List ByteArray) : Prop :=
  w.ownsRow w0.heap.size e 1 v ss.length (ss.map Value.string) /\ Later w0 w

section
variable {e : TypeId} {w0 w : World} {v : Value} {ss : List ByteArray}

theorem Own.later (h : Own e w0 w v ss) : Later w0 w := h.2
theorem Own.nil (h : Later w0 w) : Own e w0 w (.slice none 0 0) [] := ⟨World.ownsRow_nil _ _ _ _, h⟩
theorem Own.alloc (h : Own e w0 w v ss) (o : Obj) : Own e w0 (w.alloc o) v ss := ⟨h.1.alloc o, h.2.alloc o⟩
theorem Own.drew (h : Own e w0 w v ss) : Own e w0 w.drew v ss := ⟨h.1, h.2.drew⟩
theorem Own.drewN (h : Own e w0 w v ss) (n : Nat) : Own e w0 (w.drewN n) v ss := ⟨h.1, h.2.drewN n⟩

theorem Own.empty (h : Later w0 w) : Own e w0 (w.alloc (.cells #[] e)) (.slice (some ⟨w.heap.size, 0, none⟩) 0 0) [] :=
  ⟨World.ownsRow_made w #[] 0 h.size (Nat.zero_le _) rfl, h.alloc _⟩

theorem Own.row (h : Own e w0 w v ss) : ∃ A c, v = .slice A ss.length c /\ ss.length <= c /\ Row w A ss.length ss := by
  rcases h.1.2 with ⟨hv, h0⟩ | ⟨g, cap, cur, hv, hg, hh, hnc, hm, hs, ht⟩
  · have : ss = [] := List.eq_nil_of_length_eq_zero h0
    subst this
    exact ⟨none, 0, hv, Nat.le_refl _, Row.none⟩
  · refine ⟨some ⟨g, 0, none⟩, cap, hv, hnc, rfl, fun _ => ⟨g, 0, rfl, fun j s hj => ?_⟩⟩
    have hc := h.1.cells (g := g) (by rw [hv]; rfl) j (.string s) (by rw [List.getElem?_map, hj]; rfl)
    rw [plain_add] at hc
    exact hc

theorem Own.block (h : Own e w0 w v ss) : ∀ k, v.ownBlock = some k -> w0.heap.size <= k := fun k hk => (h.1.lt k hk).1

theorem oneCells (ss : List ByteArray) : ∀ u ∈ ss.map Value.string, u.oneCell' = true := by
  intro u hu
  obtain ⟨s, _, rfl⟩ := List.mem_map.1 hu
  rfl
end

section
variable {P : Program} {w0 w : World} {e : TypeId} {v : Value} {olds : List ByteArray}

theorem run_append_row (t ty : TypeId) (i : TypeInfo) (ht : P.underlying t = some (.slice e)) (hi : P.info? e = some i) (hz : i.zero = some (.string ByteArray.empty)) (hsize : i.size = 1) (hby : i.bytes = 16)
    (hown : Own e w0 w v olds) (A : Option Addr) (m c : Nat) (news : List ByteArray) (hr : Row w A m news) (hb : olds.length + m <= 1000000) :
    ∃ v' w', (Builtin.append_ #[t, t] ty #[v, .slice A m c]).run P w = .ok v' w' /\ Own e w0 w' v' (olds ++ news) /\ w.grownBy w' v.ownBlock := by
  have hl := hr.len
  rcases Nat.eq_zero_or_pos m with h0 | h0
  · subst h0
    have hn : news = [] := List.eq_nil_of_length_eq_zero hl
    subst hn
    rw [List.append_nil]
    rcases A with _ | ad
    · refine ⟨v, w, ?_, hown, ⟨rfl, rfl, rfl, Nat.le_refl _, fun _ _ _ => rfl⟩⟩
      rcases hown.1.2 with ⟨rfl, _⟩ | ⟨g, cap, cur, rfl, _, _, hnc, _⟩
      · simp [Builtin.append_, run_underlying ht, sizeOf, typeInfo, hi, Builtin.lenOf, Builtin.firstCells]
      · simp [Builtin.append_, run_underlying ht, sizeOf, typeInfo, hi, Builtin.lenOf, Builtin.firstCells, hnc, storeCells]
    · obtain ⟨v', w', hrun, h2, h3, _, _⟩ := run_append_own_at (P := P) w w0.heap.size t ty e i _ 1 16 ht hi hz hsize hby rfl (by omega) v olds.length (olds.map Value.string) hown.1 ad 0 c [] rfl
        (fun j u hu => by simp at hu) (fun u hu => by simp at hu) (by simp only [maxLen]; omega) (by omega) hown.2.size
      refine ⟨v', w', hrun, ⟨by simpa using h2, Below.grown hown.2 h3 hown.2.size hown.block⟩, h3⟩
  · obtain ⟨b, o, rfl, hc⟩ := hr.2 h0
    obtain ⟨v', w', hrun, h2, h3, _, _⟩ := run_append_own_at (P := P) w w0.heap.size t ty e i _ 1 16 ht hi hz hsize hby rfl (by omega) v olds.length (olds.map Value.string) hown.1 ⟨b, o, none⟩ m c (news.map Value.string)
      (by rw [List.length_map]; omega)
      (fun j u hu => by
        rw [List.getElem?_map] at hu
        obtain ⟨s, hs, rfl⟩ := Option.map_eq_some_iff.1 hu
        rw [plain_add]
        exact hc j s hs)
      (oneCells news) (by simp only [maxLen]; omega) (by omega) hown.2.size
    refine ⟨v', w', hrun, ⟨?_, Below.grown hown.2 h3 hown.2.size hown.block⟩, h3⟩
    rw [List.length_append, List.map_append, hl]
    exact h2

theorem wpList_append_row {ops : Array Oper} {rest : List Oper} {o : Oper} {a : Act} {Q : Exit -> Act -> World -> Prop} (hgd : o.guard = none) (s x : Operand) (t : TypeId)
    (ho : o.op = .call { callee := .builtin .append, args := #[s, x], argTypes := #[t, t] }) (i : TypeInfo)
    (ht : P.underlying t = some (.slice e)) (hi : P.info? e = some i) (hz : i.zero = some (.string ByteArray.empty)) (hsize : i.size = 1) (hby : i.bytes = 16)
    (hown : Own e w0 w v olds) (hs : a.eval s = v) (A : Option Addr) (m c : Nat) (news : List ByteArray) (hx : a.eval x = .slice A m c) (hr : Row w A m news) (hb : olds.length + m <= 1000000)
    (h : ∀ v' w', Own e w0 w' v' (olds ++ news) -> w.grownBy w' v.ownBlock -> wpList P ops Q rest (a.put o.dst v') w') : wpList P ops Q (o :: rest) a w := by
  refine wpList_plain hgd fun K hK => ?_
  obtain ⟨v', w', hrun, h2, h3⟩ := run_append_row (P := P) t o.type i ht hi hz hsize hby hown A m c news hr hb
  unfold Oper.wp execOp
  simp only [ho, resolve, invoke, builtin, Sem.run_bind, Sem.run_pure, Result.andThen_ok, List.map_toArray, List.map_cons, List.map_nil, hs, hx, hrun]
  exact hK _ _ (h v' w' h2 h3)

end

theorem Row.one (w : World) (s : ByteArray) (t : TypeId) : Row (w.alloc (.cells #[.string s] t)) (some ⟨w.heap.size, 0, .none⟩) 1 [s] := by
  refine ⟨rfl, fun _ => ⟨_, _, rfl, fun j x hj => ?_⟩⟩
  match j, hj with
  | 0, hj => simp at hj; subst hj; simp

theorem Row.lit (w : World) (ss : List ByteArray) (t : TypeId) : Row (w.alloc (.cells (ss.map Value.string).toArray t)) (some ⟨w.heap.size, 0, .none⟩) ss.length ss := by
  refine ⟨rfl, fun _ => ⟨_, _, rfl, fun j x hj => ?_⟩⟩
  have hb : (w.alloc (.cells (ss.map Value.string).toArray t)).heap[w.heap.size]? = some (.cells (ss.map Value.string).toArray t (0, 0)) := heap_alloc_new w _
  simp only [World.cell?, hb, Nat.zero_add]
  simp [hj]
end Go.Proofs.YtlnjhimbgckdcaaGreat

/-
  What calls on rows of lines come to, in words: a row, a row and a flag, a bool; what comes in.
-/
namespace Go.Proofs.YtlnjhimbgckdcaaGreat
open Go.RowKit

def GivesRow (ss : List ByteArray) (w : World) (e : Ending) (w' : World) : Prop :=
  ∃ A c, e = .returned (.slice A ss.length c) /\ ss.length <= c /\ Row w' A ss.length ss /\ Later w w'

structure Came (w : World) (A : Option Addr) (n c : Nat) (ss : List ByteArray) : Prop where
  row : Row w A n ss
  room : n <= c
  most : n <= 140737488355328
  size : ∀ s ∈ ss, s.size <= 140737488355328

theorem Came.later {w w' : World} {A : Option Addr} {n c : Nat} {ss : List ByteArray} (h : Came w A n c ss) (hl : Later w w') : Came w' A n c ss := ⟨h.row.later hl, h.room, h.most, h.size⟩

def Says (b : Bool) (w : World) (e : Ending) (w' : World) : Prop := e = .returned (.bool b) /\ Later w w'

end Go.Proofs.YtlnjhimbgckdcaaGreat

/-
  What comes in, read as data: rows of lines, rows of structures.
-/
namespace Go.Proofs.YtlnjhimbgckdcaaGreat
open Go.ChangeShapes Go.WideShapes Go.ChangeAt Go.RowKit Go.Deep

theorem Tryz.own : ownKnob Tryz.prog.godebug = none := by kernel_rfl
theorem Tryz.laidOut : laidOutB Tryz.prog = true := by kernel_rfl
theorem Tryz.cells9 : Tryz.prog.cellsOf 9 = 1 := by kernel_rfl

section
variable {H : Type} {enc : TypeId × Value -> H} {P : Program} {w : World} {base : Nat} {spare : Nat -> Bool} {held : Bool}
theorem open_slice_fields {t e : TypeId} {fs : Array Field} {fuel : Nat} {cs : List Value} {x : DataW H × List MemPlace} (ht : P.underlying t = some (.slice e)) (he : P.underlying e = some (.struct fs))
    (hone : oneCellFields P fs = true) (hC : P.cellsOf e = fs.size) (h : DataW.trod enc P w base spare held fuel t cs = some x) :
    (cs = [.slice none 0 0] /\ x = (.nil, [])) ∨
    ∃ (a : Addr) (len cap m : Nat) (D : Nat -> DataW H) (Pl : Nat -> List MemPlace), cs = [.slice (some a) len cap] /\ len <= cap /\ m = (if spare a.block then cap else len) ∧
      x = (.slice ((List.range len).map D) ((List.range (m - len)).map fun j => D (len + j)), MemPlace.row a (m * fs.size) ++ (List.range m).flatMap Pl) ∧
      ∀ i, i < m -> ∃ (ys : List (DataW H × List MemPlace)) (n : Nat), D i = .agg (ys.map (·.1)) /\ ys.length = fs.size ∧
        ∀ (j : Nat) (f : Field), fs[j]? = some f -> ∃ (v : Value) (y : DataW H × List MemPlace), w.cell? (a.add (i * fs.size + j)) = some v /\ ys[j]? = some y /\ DataW.trod enc P w base spare held n f.type [v] = some y := by
  rcases open_slice ht h with h0 | ⟨a, len, cap, m, n, D, Pl, hcs, _, hl, _, hmm, hx, hi⟩
  · exact .inl h0
  · refine .inr ⟨a, len, cap, m, D, Pl, hcs, hl, hmm, by rw [hC] at hx; exact hx, fun i him => ?_⟩
    obtain ⟨cs', hc, ht'⟩ := hi i him
    rw [hC] at hc
    obtain ⟨ys, n', _, hy, _, hyl, hf⟩ := DataW.trod_struct he ht'
    obtain ⟨_, _, hat⟩ := World.cells?_some hc
    simp only [Prod.mk.injEq] at hy
    have hcl : cs'.length = fs.size := by assumption
    refine ⟨ys, n', hy.1, hyl, fun j f hj => ?_⟩
    obtain ⟨ho, hk⟩ := hone_of hone j f hj
    have hjl : j < fs.size := (Array.getElem?_eq_some_iff.1 hj).1
    have hcell := hat j hjl
    have hv : cs'[j]? = some (cs'[j]'(by omega)) := List.getElem?_eq_getElem (by omega)
    have h1 := hf j f hj
    rw [ho, hk] at h1
    have hone' : (cs'.drop j).take 1 = [cs'[j]'(by omega)] := by
      rw [List.drop_eq_getElem_cons (by omega)]
      rfl
    rw [hone'] at h1
    have hys : ys[j]? = some (ys[j]'(by omega)) := List.getElem?_eq_getElem (by omega)
    refine ⟨_, _, ?_, hys, h1.trans hys⟩
    rw [← Go.Deep.add_add, hcell, hv]
end

theorem list_of {α : Type} {Q : Nat -> α -> Prop} : ∀ n : Nat, (∀ i, i < n -> ∃ x, Q i x) -> ∃ l : List α, l.length = n /\ ∀ (i : Nat) x, l[i]? = some x -> Q i x
  | 0, _ => ⟨[], rfl, fun i x h => by simp at h⟩
  | n + 1, h => by
    obtain ⟨l, hl, hq⟩ := list_of n fun i hi => h i (by omega)
    obtain ⟨x, hx⟩ := h n (by omega)
    refine ⟨l ++ [x], by simp [hl], fun i y hy => ?_⟩
    rcases Nat.lt_or_ge i n with hi | hi
    · rw [List.getElem?_append_left (by omega)] at hy
      exact hq i y hy
    · rw [List.getElem?_append_right (by omega), hl] at hy
      have hi0 : i - n = 0 := by
        rcases Nat.eq_zero_or_pos (i - n) with h0 | h0
        · exact h0
        · rw [List.getElem?_eq_none (by simp; omega)] at hy; cases hy
      rw [hi0] at hy
      simp at hy
      subst hy
      obtain rfl : i = n := by omega
      exact hx

theorem bulk_strs {H : Type} (ss : List ByteArray) : Rows.uptoBulkAll (strs (H := H) ss) = ss.length + (ss.map ByteArray.size).sum := by
  induction ss with
  | nil => rfl
  | cons s ss ih =>
    simp only [strs, List.map_cons, Rows.uptoBulkAll, Rows.uptoBulk, List.length_cons, List.sum_cons] at ih ⊢
    rw [ih]
    have : s.data.toList.length = s.size := by rw [Array.length_toList]; rfl
    omega

theorem came_lines {H : Type} {enc : TypeId × Value -> H} {W : World} {v : Value} {fuel : Nat} {x : DataW H × List MemPlace}
    (hf : DataW.trod enc Tryz.prog W 0 (fun _ => true) true fuel 56 [v] = some x) : ∃ A n c ss, v = .slice A n c /\ n <= c /\ Row W A n ss /\ ss.length + (ss.map ByteArray.size).sum <= Rows.uptoBulk x.1 := by
  rcases open_strings Tryz.underlying56 Tryz.underlying9 Tryz.cells9 hf with ⟨hcs, hx⟩ | ⟨a, len, cap, ss, hcs, _, hl, hm, hz, hx, hcell, _⟩
  · simp at hcs
    exact ⟨none, 0, 0, [], hcs, Nat.le_refl _, Row.none, by simp⟩
  · simp at hcs
    subst hx
    simp only [if_true] at hz
    obtain ⟨b, off, spot⟩ := a
    refine ⟨_, len, cap, ss.take len, hcs, hl, ⟨by rw [List.length_take]; omega, fun h0 => ?_⟩, ?_⟩
    · have hspot : spot = none := by simpa [Addr.add] using World.cell?_spot (hcell 0 (by omega))
      subst hspot
      refine ⟨b, off, rfl, fun j s hs => ?_⟩
      have hj : j < len := by
        have := (List.getElem?_eq_some_iff.1 hs).1
        rw [List.length_take] at this; omega
      rw [List.getElem?_take_of_lt hj] at hs
      have := hcell j (by omega)
      rw [plain_add] at this
      rw [this]
      simp [List.getD, hs]
    · simp only [Rows.uptoBulk]
      rw [bulk_strs (ss.take len)]
      omega

end Go.Proofs.YtlnjhimbgckdcaaGreat

/-
  Lines and texts as lists: which may be, how they are cut and put together, how many there are.
-/
namespace Go.Proofs.YtlnjhimbgckdcaaGreat
open Go.RowKit

def hasEnd (s : ByteArray) : Bool := decide (0 <= Lib.indexByte s.data.toList 10)

def rightB (s : ByteArray) : Bool := decide (s.size <= 60) && !hasEnd s

def allB (l : List ByteArray) : Bool := l.all rightB

theorem hasEnd_no {s : ByteArray} (h : ∀ k : Nat, s.data.toList[k]? ≠ some 10) : hasEnd s = false := by
  unfold hasEnd
  rw [decide_eq_false_iff_not]
  intro h0
  obtain ⟨o, ho⟩ := Int.eq_ofNat_of_zero_le h0
  exact h o (Lib.indexByte_some ho).1

theorem hasEnd_yes {s : ByteArray} {k : Nat} (h : s.data.toList[k]? = some 10) : hasEnd s = true := by
  unfold hasEnd
  rw [decide_eq_true_eq]
  have := Lib.indexByte_ge s.data.toList 10
  by_cases hlt : Lib.indexByte s.data.toList 10 < 0
  · exact absurd h (Lib.indexByte_none (by omega) k)
  · omega

theorem allB_get {l : List ByteArray} {k : Nat} (hk : k < l.length) (h : rightB (l.getD k ByteArray.empty) = false) : allB l = false := by
  unfold allB
  rw [List.all_eq_false]
  refine ⟨l[k], List.getElem_mem hk, ?_⟩
  simp only [List.getD, List.getElem?_eq_getElem hk, Option.getD_some] at h
  simp [h]

theorem allB_all {l : List ByteArray} (h : ∀ k : Nat, k < l.length -> rightB (l.getD k ByteArray.empty) = true) : allB l = true := by
  unfold allB
  rw [List.all_eq_true]
  intro x hx
  obtain ⟨k, hk, rfl⟩ := List.getElem_of_mem hx
  have := h k hk
  simpa [List.getD, List.getElem?_eq_getElem hk] using this

end Go.Proofs.YtlnjhimbgckdcaaGreat

/-
  Trees as rows of files, rising by name: what the calls on them come to. Nothing of any program.
-/
namespace Go.Proofs.YtlnjhimbgckdcaaGreat
open Go.RowKit

def ltN (a b : ByteArray) : Bool := bytesBefore (bytes a) (bytes b)
theorem bytes_inj {a b : ByteArray} (h : bytes a = bytes b) : a = b := by rw [← txt_bytes a, h, txt_bytes]
theorem ltN_irrefl (a : ByteArray) : ltN a a = false := WideAt.bytes_irrefl _
theorem ltN_total {a b : ByteArray} (h : a ≠ b) : ltN a b = true ∨ ltN b a = true := WideAt.bytes_total _ _ (fun e => h (bytes_inj e))
theorem ltN_trans {a b c : ByteArray} (h : ltN a b = true) (k : ltN b c = true) : ltN a c = true := WideShapes.bytes_trans _ _ _ h k
theorem ltN_asymm {a b : ByteArray} (h : ltN a b = true) : ltN b a = false := by
  cases k : ltN b a
  · rfl
  · have := ltN_trans h k; rw [ltN_irrefl] at this; cases this
theorem ltN_ne {a b : ByteArray} (h : ltN a b = true) : a ≠ b := by rintro rfl; rw [ltN_irrefl] at h; cases h

theorem less_before : ∀ a b : List UInt8, Op.bytesLess a b = bytesBefore a b
  | [], [] => rfl
  | [], _ :: _ => rfl
  | _ :: _, [] => rfl
  | a :: r, b :: s => by
    have ih := less_before r s
    unfold Op.bytesLess bytesBefore
    rw [← ih]
theorem less_is (a b : ByteArray) : Op.bytesLess a.toList b.toList = ltN a b := by
  rw [less_before, ByteArray.toList_eq, ByteArray.toList_eq]; rfl

abbrev Fl (α : Type) := List (ByteArray × α)
abbrev Tr := Fl (List ByteArray)

section
variable {α β : Type}

def getT (t : Fl α) (n : ByteArray) : Option α := (t.find? fun f => decide (f.1 = n)).map (·.2)
def withoutT (t : Fl α) (n : ByteArray) : Fl α := t.filter fun f => decide (f.1 ≠ n)
def withT (t : Fl α) (n : ByteArray) (x : α) : Fl α := (withoutT t n).filter (fun f => ltN f.1 n) ++ (n, x) :: (withoutT t n).filter (fun f => ltN n f.1)
def Rising (t : Fl α) : Prop := t.Pairwise fun a b => ltN a.1 b.1 = true
def mapT (g : α -> β) (t : Fl α) : Fl β := t.map fun f => (f.1, g f.2)

theorem mapT_length (g : α -> β) (t : Fl α) : (mapT g t).length = t.length := by simp [mapT]
theorem withoutT_map (g : α -> β) (t : Fl α) (n : ByteArray) : withoutT (mapT g t) n = mapT g (withoutT t n) := by
  simp [withoutT, mapT, List.filter_map, Function.comp_def]
theorem withT_map (g : α -> β) (t : Fl α) (n : ByteArray) (x : α) : withT (mapT g t) n (g x) = mapT g (withT t n x) := by
  simp only [withT, withoutT_map]
  simp [mapT, List.filter_map, Function.comp_def]
theorem rising_map {g : α -> β} {t : Fl α} : Rising (mapT g t) ↔ Rising t := by
  simp [Rising, mapT, List.pairwise_map]

theorem rising_tail {f : ByteArray × α} {t : Fl α} (h : Rising (f :: t)) : Rising t := (List.pairwise_cons.1 h).2
theorem rising_head {f g : ByteArray × α} {t : Fl α} (h : Rising (f :: t)) (hg : g ∈ t) : ltN f.1 g.1 = true := (List.pairwise_cons.1 h).1 g hg

theorem getT_mem {t : Fl α} {n : ByteArray} {x : α} (h : getT t n = some x) : (n, x) ∈ t := by
  simp only [getT, Option.map_eq_some_iff] at h
  obtain ⟨f, hf, rfl⟩ := h
  have h1 := List.find?_some hf
  have h2 := List.mem_of_find?_eq_some hf
  simp only [decide_eq_true_eq] at h1
  rw [← h1]; exact h2
theorem mem_without {t : Fl α} {n : ByteArray} {f : ByteArray × α} : f ∈ withoutT t n ↔ f ∈ t /\ f.1 ≠ n := by simp [withoutT]
theorem mem_with {t : Fl α} {n : ByteArray} {x : α} {f : ByteArray × α} : f ∈ withT t n x ↔ f = (n, x) ∨ (f ∈ t /\ f.1 ≠ n) := by
  simp only [withT, List.mem_append, List.mem_cons, List.mem_filter, mem_without]
  constructor
  · rintro (⟨h, _⟩ | h | ⟨h, _⟩)
    · exact .inr h
    · exact .inl h
    · exact .inr h
  · rintro (h | h)
    · exact .inr (.inl h)
    · rcases ltN_total h.2 with k | k
      · exact .inl ⟨h, k⟩
      · exact .inr (.inr ⟨h, k⟩)

theorem rising_without {t : Fl α} (h : Rising t) (n : ByteArray) : Rising (withoutT t n) := List.Pairwise.filter _ h
theorem rising_with {t : Fl α} (h : Rising t) (n : ByteArray) (x : α) : Rising (withT t n x) := by
  have hw := rising_without h n
  refine List.pairwise_append.2 ⟨List.Pairwise.filter _ hw, List.pairwise_cons.2 ⟨fun f hf => ?_, List.Pairwise.filter _ hw⟩, fun f hf g hg => ?_⟩
  · simpa using (List.mem_filter.1 hf).2
  · have h1 : ltN f.1 n = true := by simpa using (List.mem_filter.1 hf).2
    rcases List.mem_cons.1 hg with rfl | hg
    · exact h1
    · exact ltN_trans h1 (by simpa using (List.mem_filter.1 hg).2)
theorem rising_nil : Rising ([] : Fl α) := List.Pairwise.nil

theorem rising_ext : ∀ {a b : Fl α}, Rising a -> Rising b -> (∀ f, f ∈ a ↔ f ∈ b) -> a = b
  | [], [], _, _, _ => rfl
  | [], y :: b, _, _, h => absurd ((h y).2 List.mem_cons_self) (by simp)
  | x :: a, [], _, _, h => absurd ((h x).1 List.mem_cons_self) (by simp)
  | x :: a, y :: b, ha, hb, h => by
    have hxy : x = y := by
      rcases List.mem_cons.1 ((h x).1 List.mem_cons_self) with e | hx
      · exact e
      · rcases List.mem_cons.1 ((h y).2 List.mem_cons_self) with e | hy
        · exact e.symm
        · have h1 := rising_head hb hx
          have h2 := ltN_asymm (rising_head ha hy)
          rw [h1] at h2; cases h2
    subst hxy
    refine congrArg _ (rising_ext (rising_tail ha) (rising_tail hb) fun f => ⟨fun hf => ?_, fun hf => ?_⟩)
    · rcases List.mem_cons.1 ((h f).1 (List.mem_cons_of_mem _ hf)) with rfl | hf'
      · exact absurd rfl (ltN_ne (rising_head ha hf))
      · exact hf'
    · rcases List.mem_cons.1 ((h f).2 (List.mem_cons_of_mem _ hf)) with rfl | hf'
      · exact absurd rfl (ltN_ne (rising_head hb hf))
      · exact hf'

theorem with_length {t : Fl α} (n : ByteArray) (x : α) : (withT t n x).length <= t.length + 1 := by
  have h1 : ∀ u : Fl α, (u.filter (fun f => ltN f.1 n)).length + (u.filter (fun f => ltN n f.1)).length <= u.length := fun u => by
    induction u with
    | nil => simp
    | cons f u ih =>
      simp only [List.filter_cons, List.length_cons]
      by_cases h : ltN f.1 n = true
      · simp only [h, if_true, ltN_asymm h, List.length_cons]; simp; omega
      · rw [if_neg h]; split <;> (try simp only [List.length_cons]) <;> omega
  have h2 := h1 (withoutT t n)
  have h3 : (withoutT t n).length <= t.length := List.length_filter_le _ _
  simp only [withT, List.length_append, List.length_cons]; omega
end

def nameByte (c : UInt8) : Bool := (decide (97 <= c) && decide (c <= 122)) || (decide (48 <= c) && decide (c <= 57)) || c == 46 || c == 45 || c == 95 || c == 47
def namedB (s : ByteArray) : Bool := decide (1 <= s.size) && decide (s.size <= 24) && (bytes s).all nameByte

structure OpV where
  kind : Int
  name : ByteArray
  to : ByteArray
  l : List ByteArray

end Go.Proofs.YtlnjhimbgckdcaaGreat
