import Derived.Test.YtejkgkgjgojlkaaGreatDoorRows
import Derived.Test.YtejkgkgjgojlkaaGreatDoorChecked
import Derived.Test.YtejkgkgjgojlkaaGreatDoorPk3
import Derived.ProofKit
import Derived.OpenShut
import Derived.SizedLaws
import Derived.SliceStrings
import Derived.Deep.Slices
import Derived.Deep.Fields
import Derived.ChangeSame
import Derived.Deep.DeepHandedRow
import Derived.Lib.LaidTab
import Derived.LaidSub
import Derived.Test.YtejkgkgjgojlkaaGreatDoorPk1
import Derived.Deep.LoopGhost
import Derived.Lib.Hide
import Derived.Test.YtejkgkgjgojlkaaGreatDoorPk2
import Derived.Deep.QuietTactic
import Derived.BigQuiet

/-
  What comes in, read as data: rows of lines, rows of structures.
-/
namespace Go.Proofs.YtejkgkgjgojlkaaGreatDoor
open Go.ChangeShapes Go.WideShapes Go.ChangeAt Go.RowKit Go.Deep

theorem Tryz.own : ownKnob Tryz.prog.godebug = none := by kernel_rfl
theorem Tryz.laidOut : laidOutB Tryz.prog = true := by kernel_rfl
theorem Tryz.cells9 : Tryz.prog.cellsOf 9 = 1 := by kernel_rfl

section
variable {H : Type} {enc : TypeId × Value → H} {P : Program} {w : World} {base : Nat} {spare : Nat → Bool} {held : Bool}
/-- A slice of structures, each field one cell: the cells, and each field's reading. -/
theorem open_slice_fields {t e : TypeId} {fs : Array Field} {fuel : Nat} {cs : List Value} {x : DataW H × List MemPlace} (ht : P.underlying t = some (.slice e)) (he : P.underlying e = some (.struct fs))
    (hone : oneCellFields P fs = true) (hC : P.cellsOf e = fs.size) (h : DataW.trod enc P w base spare held fuel t cs = some x) :
    (cs = [.slice none 0 0] ∧ x = (.nil, [])) ∨
    ∃ (a : Addr) (len cap m : Nat) (D : Nat → DataW H) (Pl : Nat → List MemPlace), cs = [.slice (some a) len cap] ∧ len ≤ cap ∧ m = (if spare a.block then cap else len) ∧
      x = (.slice ((List.range len).map D) ((List.range (m - len)).map fun j => D (len + j)), MemPlace.row a (m * fs.size) ++ (List.range m).flatMap Pl) ∧
      ∀ i, i < m → ∃ (ys : List (DataW H × List MemPlace)) (n : Nat), D i = .agg (ys.map (·.1)) ∧ ys.length = fs.size ∧
        ∀ (j : Nat) (f : Field), fs[j]? = some f → ∃ (v : Value) (y : DataW H × List MemPlace), w.cell? (a.add (i * fs.size + j)) = some v ∧ ys[j]? = some y ∧ DataW.trod enc P w base spare held n f.type [v] = some y := by
  rcases open_slice ht h with h0 | ⟨a, len, cap, m, n, D, Pl, hcs, _, hl, _, hmm, hx, hi⟩
  · exact .inl h0
  · refine .inr ⟨a, len, cap, m, D, Pl, hcs, hl, hmm, by rw [hC] at hx; exact hx, fun i him => ?_⟩
    obtain ⟨cs', hc, ht'⟩ := hi i him
    rw [hC] at hc
    obtain ⟨ys, n', _, hy, _, hyl, hf⟩ := DataW.trod_struct he ht'
    obtain ⟨_, _, hat⟩ := World.cells?_some hc
    simp only [Prod.mk.injEq] at hy
    have hcl : cs'.length = fs.size := by assumption
    refine ⟨ys, n', hy.1, hyl, fun j f hj => ?_⟩
    obtain ⟨ho, hk⟩ := hone_of hone j f hj
    have hjl : j < fs.size := (Array.getElem?_eq_some_iff.1 hj).1
    have hcell := hat j hjl
    have hv : cs'[j]? = some (cs'[j]'(by omega)) := List.getElem?_eq_getElem (by omega)
    have h1 := hf j f hj
    rw [ho, hk] at h1
    have hone' : (cs'.drop j).take 1 = [cs'[j]'(by omega)] := by
      rw [List.drop_eq_getElem_cons (by omega)]
      rfl
    rw [hone'] at h1
    have hys : ys[j]? = some (ys[j]'(by omega)) := List.getElem?_eq_getElem (by omega)
    refine ⟨_, _, ?_, hys, h1.trans hys⟩
    rw [← Go.Deep.add_add, hcell, hv]
end

theorem list_of {α : Type} {Q : Nat → α → Prop} : ∀ n : Nat, (∀ i, i < n → ∃ x, Q i x) → ∃ l : List α, l.length = n ∧ ∀ (i : Nat) x, l[i]? = some x → Q i x
  | 0, _ => ⟨[], rfl, fun i x h => by simp at h⟩
  | n + 1, h => by
    obtain ⟨l, hl, hq⟩ := list_of n fun i hi => h i (by omega)
    obtain ⟨x, hx⟩ := h n (by omega)
    refine ⟨l ++ [x], by simp [hl], fun i y hy => ?_⟩
    rcases Nat.lt_or_ge i n with hi | hi
    · rw [List.getElem?_append_left (by omega)] at hy
      exact hq i y hy
    · rw [List.getElem?_append_right (by omega), hl] at hy
      have hi0 : i - n = 0 := by
        rcases Nat.eq_zero_or_pos (i - n) with h0 | h0
        · exact h0
        · rw [List.getElem?_eq_none (by simp; omega)] at hy; cases hy
      rw [hi0] at hy
      simp at hy
      subst hy
      obtain rfl : i = n := by omega
      exact hx

theorem bulk_strs {H : Type} (ss : List ByteArray) : Rows.uptoBulkAll (strs (H := H) ss) = ss.length + (ss.map ByteArray.size).sum := by
  induction ss with
  | nil => rfl
  | cons s ss ih =>
    simp only [strs, List.map_cons, Rows.uptoBulkAll, Rows.uptoBulk, List.length_cons, List.sum_cons] at ih ⊢
    rw [ih]
    have : s.data.toList.length = s.size := by rw [Array.length_toList]; rfl
    omega

/-- A row of lines that came in, nil or not, and what it weighs. -/
theorem came_lines {H : Type} {enc : TypeId × Value → H} {W : World} {v : Value} {fuel : Nat} {x : DataW H × List MemPlace}
    (hf : DataW.trod enc Tryz.prog W 0 (fun _ => true) true fuel 32 [v] = some x) : ∃ A n c ss, v = .slice A n c ∧ n ≤ c ∧ Row W A n ss ∧ ss.length + (ss.map ByteArray.size).sum ≤ Rows.uptoBulk x.1 := by
  rcases open_strings Tryz.underlying32 Tryz.underlying9 Tryz.cells9 hf with ⟨hcs, hx⟩ | ⟨a, len, cap, ss, hcs, _, hl, hm, hz, hx, hcell, _⟩
  · simp at hcs
    exact ⟨none, 0, 0, [], hcs, Nat.le_refl _, Row.none, by simp⟩
  · simp at hcs
    subst hx
    simp only [if_true] at hz
    obtain ⟨b, off, spot⟩ := a
    refine ⟨_, len, cap, ss.take len, hcs, hl, ⟨by rw [List.length_take]; omega, fun h0 => ?_⟩, ?_⟩
    · have hspot : spot = none := by simpa [Addr.add] using World.cell?_spot (hcell 0 (by omega))
      subst hspot
      refine ⟨b, off, rfl, fun j s hs => ?_⟩
      have hj : j < len := by
        have := (List.getElem?_eq_some_iff.1 hs).1
        rw [List.length_take] at this; omega
      rw [List.getElem?_take_of_lt hj] at hs
      have := hcell j (by omega)
      rw [plain_add] at this
      rw [this]
      simp [List.getD, hs]
    · simp only [Rows.uptoBulk]
      rw [bulk_strs (ss.take len)]
      omega

end Go.Proofs.YtejkgkgjgojlkaaGreatDoor

/-
  Rows of structures in memory, each of k cells: what a slice of them reads as, and one of the call's own that grows by append.
-/
namespace Go.Proofs.YtejkgkgjgojlkaaGreatDoor
open Go.RowKit

theorem flat_at {α : Type} {k : Nat} : ∀ {css : List (List α)}, (∀ cs ∈ css, cs.length = k) → ∀ {j i : Nat} {cs : List α}, css[j]? = some cs → i < k → css.flatten[j * k + i]? = cs[i]?
  | [], _, _, _, _, h, _ => by simp at h
  | c :: css, hk, 0, i, cs, h, hi => by
    simp at h; subst h
    rw [Nat.zero_mul, Nat.zero_add, List.flatten_cons, List.getElem?_append_left (by rw [hk _ List.mem_cons_self]; exact hi)]
  | c :: css, hk, j + 1, i, cs, h, hi => by
    have hc := hk _ (List.mem_cons_self (a := c) (l := css))
    rw [List.flatten_cons, List.getElem?_append_right (by rw [hc, Nat.add_mul]; omega), hc, show (j + 1) * k + i - k = j * k + i from by rw [Nat.add_mul]; omega]
    exact flat_at (fun cs hcs => hk cs (List.mem_cons_of_mem _ hcs)) (by simpa using h) hi
theorem flat_length {α : Type} {k : Nat} : ∀ {css : List (List α)}, (∀ cs ∈ css, cs.length = k) → css.flatten.length = css.length * k
  | [], _ => by simp
  | c :: css, hk => by
    rw [List.flatten_cons, List.length_append, hk _ List.mem_cons_self, flat_length (fun cs hcs => hk cs (List.mem_cons_of_mem _ hcs)), List.length_cons, Nat.add_mul]; omega

/-- The slice at A of n elements, of k cells each, holds the cells css. -/
def RowK (k : Nat) (w : World) (A : Option Addr) (n : Nat) (css : List (List Value)) : Prop :=
  css.length = n ∧ (∀ cs ∈ css, cs.length = k) ∧ (0 < n → ∃ b o, A = some ⟨b, o, none⟩ ∧ ∀ (j i : Nat) cs v, css[j]? = some cs → cs[i]? = some v → w.cell? ⟨b, o + j * k + i, none⟩ = some v)

section
variable {k n : Nat} {w w' : World} {A : Option Addr} {css : List (List Value)}

theorem RowK.len (h : RowK k w A n css) : css.length = n := h.1
theorem RowK.none : RowK k w A 0 [] := ⟨rfl, (fun _ h => by cases h), fun h => absurd h (by omega)⟩
theorem RowK.later (h : RowK k w A n css) (hl : Later w w') : RowK k w' A n css :=
  ⟨h.1, h.2.1, fun hn => by
    obtain ⟨b, o, e, hc⟩ := h.2.2 hn
    exact ⟨b, o, e, fun j i cs v h1 h2 => hl.cell (hc j i cs v h1 h2)⟩⟩
/-- The place of an element, and its cells. -/
theorem RowK.get (h : RowK k w A n css) {j : Nat} (hj : j < n) : ∃ b o, A = some ⟨b, o, .none⟩ ∧ ∃ cs, css[j]? = some cs ∧ cs.length = k ∧ ∀ (i : Nat) v, cs[i]? = some v → w.cell? ⟨b, o + j * k + i, .none⟩ = some v := by
  obtain ⟨b, o, e, hc⟩ := h.2.2 (by omega)
  have hl : j < css.length := by rw [h.1]; exact hj
  exact ⟨b, o, e, css[j], List.getElem?_eq_getElem hl, h.2.1 _ (List.getElem_mem hl), fun i v hi => hc j i _ v (List.getElem?_eq_getElem hl) hi⟩
end

/-- The value v is a row of the call's own (what it made since w0) of k cells an element. -/
def OwnK (e : TypeId) (k : Nat) (w0 w : World) (v : Value) (css : List (List Value)) : Prop :=
  w.ownsRow w0.heap.size e k v css.length css.flatten ∧ (∀ cs ∈ css, cs.length = k) ∧ Later w0 w

section
variable {e : TypeId} {k : Nat} {w0 w : World} {v : Value} {css : List (List Value)}

theorem OwnK.later (h : OwnK e k w0 w v css) : Later w0 w := h.2.2
theorem OwnK.nil (h : Later w0 w) : OwnK e k w0 w (.slice none 0 0) [] := ⟨World.ownsRow_nil _ _ _ _, (fun _ h => by cases h), h⟩
theorem OwnK.alloc (h : OwnK e k w0 w v css) (o : Obj) : OwnK e k w0 (w.alloc o) v css := ⟨h.1.alloc o, h.2.1, h.2.2.alloc o⟩
theorem OwnK.drew (h : OwnK e k w0 w v css) : OwnK e k w0 w.drew v css := ⟨h.1, h.2.1, h.2.2.drew⟩
theorem OwnK.drewN (h : OwnK e k w0 w v css) (n : Nat) : OwnK e k w0 (w.drewN n) v css := ⟨h.1, h.2.1, h.2.2.drewN n⟩
/-- Nothing that is there has turned since. -/
theorem OwnK.on {w' : World} (h : OwnK e k w0 w v css) (hl : Later w w') : OwnK e k w0 w' v css :=
  ⟨h.1.kept (row := none) ⟨hl.os, hl.tape, hl.output, hl.size, fun i hi _ => hl.block i hi⟩ (by cases v.ownBlock <;> simp), h.2.1, h.2.2.trans hl⟩
theorem OwnK.row (h : OwnK e k w0 w v css) : ∃ A c, v = .slice A css.length c ∧ css.length ≤ c ∧ RowK k w A css.length css := by
  rcases h.1.2 with ⟨hv, h0⟩ | ⟨g, cap, cur, hv, hg, hh, hnc, hm, hs, ht⟩
  · have : css = [] := List.eq_nil_of_length_eq_zero h0
    subst this
    exact ⟨none, 0, hv, Nat.le_refl _, RowK.none⟩
  · refine ⟨some ⟨g, 0, none⟩, cap, hv, hnc, rfl, h.2.1, fun _ => ⟨g, 0, rfl, fun j i cs u hj hi => ?_⟩⟩
    have hik : i < k := by rw [← h.2.1 cs (List.mem_of_getElem? hj)]; exact (List.getElem?_eq_some_iff.1 hi).1
    have hc := h.1.cells (g := g) (by rw [hv]; rfl) (j * k + i) u (by rw [flat_at h.2.1 hj hik]; exact hi)
    rw [plain_add] at hc
    rw [Nat.zero_add] at hc ⊢
    exact hc
theorem OwnK.block (h : OwnK e k w0 w v css) : ∀ b, v.ownBlock = some b → w0.heap.size ≤ b := fun b hb => (h.1.lt b hb).1
end

section
variable {P : Program} {w0 w : World} {e : TypeId} {k : Nat} {v : Value} {olds : List (List Value)}

theorem run_append_rowK (t ty : TypeId) (i : TypeInfo) (z : Value) (bytes : Nat) (ht : P.underlying t = some (.slice e)) (hi : P.info? e = some i) (hz : i.zero = some z) (hsize : i.size = k) (hby : i.bytes = bytes) (hzs : z.cells.size = k) (hk : 0 < k)
    (hown : OwnK e k w0 w v olds) (A : Option Addr) (m c : Nat) (news : List (List Value)) (hr : RowK k w A m news) (hone : ∀ cs ∈ news, ∀ u ∈ cs, u.oneCell' = true) (hb : olds.length + m ≤ 1000000) (hbb : bytes ≤ 1000) :
    ∃ v' w', (Builtin.append_ #[t, t] ty #[v, .slice A m c]).run P w = .ok v' w' ∧ OwnK e k w0 w' v' (olds ++ news) ∧ w.grownBy w' v.ownBlock := by
  have hl := hr.len
  have hbig : (olds.length + m) * bytes ≤ 140737488355328 := Nat.le_trans (Nat.mul_le_mul hb hbb) (by omega)
  rcases Nat.eq_zero_or_pos m with h0 | h0
  · subst h0
    have hn : news = [] := List.eq_nil_of_length_eq_zero hl
    subst hn
    rw [List.append_nil]
    rcases A with _ | ad
    · refine ⟨v, w, ?_, hown, ⟨rfl, rfl, rfl, Nat.le_refl _, fun _ _ _ => rfl⟩⟩
      rcases hown.1.2 with ⟨rfl, _⟩ | ⟨g, cap, cur, rfl, _, _, hnc, _⟩
      · simp [Builtin.append_, run_underlying ht, sizeOf, typeInfo, hi, Builtin.lenOf, Builtin.firstCells]
      · simp [Builtin.append_, run_underlying ht, sizeOf, typeInfo, hi, Builtin.lenOf, Builtin.firstCells, hnc, storeCells]
    · obtain ⟨v', w', hrun, h2, h3, _, _⟩ := run_append_own_at (P := P) w w0.heap.size t ty e i z k bytes ht hi hz hsize hby hzs hk v olds.length olds.flatten hown.1 ad 0 c [] (by simp)
        (fun j u hu => by simp at hu) (fun u hu => by simp at hu) (by simp only [maxLen]; omega) hbig hown.2.2.size
      refine ⟨v', w', hrun, ⟨by simpa using h2, hown.2.1, Below.grown hown.2.2 h3 hown.2.2.size hown.block⟩, h3⟩
  · obtain ⟨b, o, rfl, hc⟩ := hr.2.2 h0
    obtain ⟨v', w', hrun, h2, h3, _, _⟩ := run_append_own_at (P := P) w w0.heap.size t ty e i z k bytes ht hi hz hsize hby hzs hk v olds.length olds.flatten hown.1 ⟨b, o, none⟩ m c news.flatten
      (by rw [flat_length hr.2.1, hl])
      (fun j u hu => by
        have hjl := (List.getElem?_eq_some_iff.1 hu).1
        rw [flat_length hr.2.1] at hjl
        have hq : j / k < news.length := (Nat.div_lt_iff_lt_mul hk).2 hjl
        have hjk : j / k * k + j % k = j := by rw [Nat.mul_comm]; exact Nat.div_add_mod j k
        have hat := flat_at (i := j % k) hr.2.1 (List.getElem?_eq_getElem hq) (Nat.mod_lt _ hk)
        rw [hjk, hu] at hat
        have := hc (j / k) (j % k) _ u (List.getElem?_eq_getElem hq) hat.symm
        rw [plain_add, ← hjk, ← Nat.add_assoc]
        exact this)
      (fun u hu => by
        obtain ⟨cs, hcs, hu⟩ := List.mem_flatten.1 hu
        exact hone cs hcs u hu)
      (by simp only [maxLen]; omega) hbig hown.2.2.size
    refine ⟨v', w', hrun, ⟨?_, fun cs hcs => ?_, Below.grown hown.2.2 h3 hown.2.2.size hown.block⟩, h3⟩
    · rw [List.length_append, List.flatten_append, hl]
      exact h2
    · rcases List.mem_append.1 hcs with h | h
      · exact hown.2.1 cs h
      · exact hr.2.1 cs h

/-- append onto a row of the call's own, whatever the source. -/
theorem wpList_append_rowK {ops : Array Oper} {rest : List Oper} {o : Oper} {a : Act} {Q : Exit → Act → World → Prop} (hgd : o.guard = none) (s x : Operand) (t : TypeId)
    (ho : o.op = .call { callee := .builtin .append, args := #[s, x], argTypes := #[t, t] }) (i : TypeInfo) (z : Value) (bytes : Nat)
    (ht : P.underlying t = some (.slice e)) (hi : P.info? e = some i) (hz : i.zero = some z) (hsize : i.size = k) (hby : i.bytes = bytes) (hzs : z.cells.size = k) (hk : 0 < k)
    (hown : OwnK e k w0 w v olds) (hs : a.eval s = v) (A : Option Addr) (m c : Nat) (news : List (List Value)) (hx : a.eval x = .slice A m c) (hr : RowK k w A m news) (hone : ∀ cs ∈ news, ∀ u ∈ cs, u.oneCell' = true) (hb : olds.length + m ≤ 1000000) (hbb : bytes ≤ 1000)
    (h : ∀ v' w', OwnK e k w0 w' v' (olds ++ news) → w.grownBy w' v.ownBlock → wpList P ops Q rest (a.put o.dst v') w') : wpList P ops Q (o :: rest) a w := by
  refine wpList_plain hgd fun K hK => ?_
  obtain ⟨v', w', hrun, h2, h3⟩ := run_append_rowK (P := P) t o.type i z bytes ht hi hz hsize hby hzs hk hown A m c news hr hone hb hbb
  unfold Oper.wp execOp
  simp only [ho, resolve, invoke, builtin, Sem.run_bind, Sem.run_pure, Result.andThen_ok, List.map_toArray, List.map_cons, List.map_nil, hs, hx, hrun]
  exact hK _ _ (h v' w' h2 h3)
end

/-- A new row of one element. -/
theorem RowK.one (w : World) (cs : List Value) (t : TypeId) : RowK cs.length (w.alloc (.cells cs.toArray t)) (some ⟨w.heap.size, 0, .none⟩) 1 [cs] := by
  refine ⟨rfl, fun c hc => by simp at hc; rw [hc], fun _ => ⟨_, _, rfl, fun j i c v hj hi => ?_⟩⟩
  match j, hj with
  | 0, hj =>
    simp at hj; subst hj
    have hb : (w.alloc (.cells cs.toArray t)).heap[w.heap.size]? = some (.cells cs.toArray t (0, 0)) := heap_alloc_new w _
    simp only [World.cell?, hb, Nat.zero_mul, Nat.zero_add]
    simpa using hi

end Go.Proofs.YtejkgkgjgojlkaaGreatDoor

/-
  The document's trees in memory: rows of files, each a name and a row of lines; Get.
-/
namespace Go.Proofs.YtejkgkgjgojlkaaGreatDoor
open Go.RowKit Go.Maps

def cellsF (z : Fl Held) : List (List Value) := z.map fun f => [.string f.1, f.2.1]
theorem cellsF_length (z : Fl Held) : (cellsF z).length = z.length := by simp [cellsF]

/-- The slice reads as these files. -/
structure RefRow (w : World) (A : Option Addr) (n : Nat) (z : Fl Held) : Prop where
  row : RowK 2 w A n (cellsF z)
  reads : ∀ f ∈ z, Reads w f.2.1 f.2.2

/-- The value is a tree of the document's. -/
def RefAt (w : World) (v : Value) (t : Tr) : Prop := ∃ A n c z, v = .slice A n c ∧ n ≤ c ∧ RefRow w A n z ∧ mapT (·.2) z = t

section
variable {w w' : World} {A : Option Addr} {n : Nat} {z : Fl Held} {v : Value} {t : Tr}
theorem RefRow.len (h : RefRow w A n z) : z.length = n := by rw [← cellsF_length]; exact h.row.len
theorem RefRow.later (h : RefRow w A n z) (hl : Later w w') : RefRow w' A n z := ⟨h.row.later hl, fun f hf => (h.reads f hf).later hl⟩
theorem RefAt.later (h : RefAt w v t) (hl : Later w w') : RefAt w' v t := by
  obtain ⟨A, n, c, z, e, hc, hr, ht⟩ := h; exact ⟨A, n, c, z, e, hc, hr.later hl, ht⟩
theorem RefRow.none : RefRow w A 0 [] := ⟨RowK.none, fun f hf => by cases hf⟩
theorem RefAt.nil (w : World) : RefAt w (.slice none 0 0) [] := ⟨Option.none, 0, 0, [], rfl, Nat.le_refl _, RefRow.none, rfl⟩
theorem RowK.turned {k B : Nat} {css : List (List Value)} (h : RowK k w A n css) (hg : Turned B w w') {es : Array MapEntry} {c : Nat} (hm : w.heap[B]? = some (.map es c)) : RowK k w' A n css :=
  ⟨h.1, h.2.1, fun hn => by
    obtain ⟨b, o, e, hc⟩ := h.2.2 hn
    exact ⟨b, o, e, fun j i cs v h1 h2 => hg.cell (hc j i cs v h1 h2) (not_map hm (hc j i cs v h1 h2))⟩⟩
/-- A map has turned: the document's tree stands. -/
theorem RefAt.turned {B : Nat} (h : RefAt w v t) (hg : Turned B w w') {es : Array MapEntry} {c : Nat} (hm : w.heap[B]? = some (.map es c)) : RefAt w' v t := by
  obtain ⟨A, n, c, z, e, hc, hr, ht⟩ := h
  exact ⟨A, n, c, z, e, hc, ⟨hr.row.turned hg hm, fun f hf => (hr.reads f hf).turned hg hm⟩, ht⟩
theorem RefRow.get (h : RefRow w A n z) {j : Nat} (hj : j < n) : ∃ b o f, A = some ⟨b, o, .none⟩ ∧ z[j]? = some f ∧ w.cell? ⟨b, o + j * 2, .none⟩ = some (.string f.1) ∧ w.cell? ⟨b, o + j * 2 + 1, .none⟩ = some f.2.1 := by
  obtain ⟨b, o, e, cs, hcs, _, hc⟩ := h.row.get hj
  have hl : j < z.length := by rw [h.len]; exact hj
  have hz := List.getElem?_eq_getElem hl
  simp only [cellsF, List.getElem?_map, hz, Option.map_some, Option.some.injEq] at hcs
  subst hcs
  exact ⟨b, o, z[j], e, hz, hc 0 _ rfl, hc 1 _ rfl⟩
end

section
variable {α : Type}
theorem get_at {t : Fl α} {n : ByteArray} {k : Nat} {f : ByteArray × α} (hk : t[k]? = some f) (hf : f.1 = n) (hno : ∀ (j : Nat) g, j < k → t[j]? = some g → g.1 ≠ n) : getT t n = some f.2 := by
  unfold getT
  have : t.find? (fun f => decide (f.1 = n)) = some f := by
    obtain ⟨hlt, rfl⟩ := List.getElem?_eq_some_iff.1 hk
    rw [List.find?_eq_some_iff_getElem]
    refine ⟨by simpa using hf, k, hlt, rfl, fun j hj => ?_⟩
    have := hno j _ hj (List.getElem?_eq_getElem (by omega))
    simpa using this
  rw [this]; rfl
theorem get_none_at {t : Fl α} {n : ByteArray} (hno : ∀ (j : Nat) g, t[j]? = some g → g.1 ≠ n) : getT t n = none := getT_none.2 fun f hf => by
  obtain ⟨j, hj⟩ := List.getElem?_of_mem hf
  exact hno j f hj
end

/-- What Get tells of a row of files. -/
def got (o : Option Held) : Value := match o with | some x => x.1 | none => .slice none 0 0

set_option maxHeartbeats 400000 in
theorem refGet_any (A : Option Addr) (n c : Nat) (z : Fl Held) (nm : ByteArray) (w : World) (hx : RefRow w A n z) (hn : n ≤ 65536) :
    Calls Tryz.prog 91 #[.slice A n c, .string nm] w fun e w' => e = .returned (.tuple #[got (getT z nm), .bool (hasT z nm)]) ∧ w = w' := by
  have HX := Lib.hid hx; clear hx
  go_enter Tryz.func91, Tryz.ntmps91
  go_wp2
  go_loop [6] (fun i => ∃ k : Nat, k ≤ n ∧ i = .int .i64 k ∧ Hid (∀ (j : Nat) g, j < k → z[j]? = some g → g.1 ≠ nm)) (fun i => n - (intOf i).toNat)
  case atStart => exact ⟨0, Nat.zero_le _, rfl, fun j g hj => absurd hj (Nat.not_lt_zero _)⟩
  case round =>
    obtain ⟨k, hk, rfl, hno⟩ := hrel
    by_cases hlt : k < n
    · obtain ⟨b, o, f, rfl, hz, g1, g2⟩ := HX.out.get hlt
      by_cases he : f.1 = nm
      · have hg := get_at hz he hno.out
        have E : Hid (got (getT z nm) = f.2.1 ∧ hasT z nm = true) := ⟨by rw [hg]; rfl, getT_has hg⟩
        rw [he] at g1
        generalize f.2.1 = v at g2 E
        clear hg hno hz he
        go_wp2
        go_ret2
        exact ⟨by rw [E.out.1, E.out.2]; rfl, rfl⟩
      · have hb := text_ne he
        have HN : Hid (∀ (j : Nat) g, j < k + 1 → z[j]? = some g → g.1 ≠ nm) := fun j g hj hg => by
          by_cases e : j = k
          · subst e; rw [hz] at hg; cases hg; exact he
          · exact hno.out j g (by omega) hg
        generalize f.1 = fn at g1 hb
        clear hno hz he
        go_wp2
        exact ⟨⟨k + 1, by omega, by go_num, HN⟩, by simp [intOf]; omega⟩
    · have hg : getT z nm = none := get_none_at fun j g hj => hno.out j g (by have := (List.getElem?_eq_some_iff.1 hj).1; rw [HX.out.len] at this; omega) hj
      have E : Hid (got (getT z nm) = .slice none 0 0 ∧ hasT z nm = false) := ⟨by rw [hg]; rfl, by unfold hasT; rw [hg]; rfl⟩
      clear hg hno
      go_wp2
      go_ret2
      exact ⟨by rw [E.out.1, E.out.2]; rfl, rfl⟩

end Go.Proofs.YtejkgkgjgojlkaaGreatDoor

/-
  What the document's Without and With come to, as calls.
-/
namespace Go.Proofs.YtejkgkgjgojlkaaGreatDoor
open Go.RowKit Go.Maps

theorem RowK.two (w : World) (a b : Value) (t : TypeId) : RowK 2 (w.alloc (.cells #[a, b] t)) (some ⟨w.heap.size, 0, .none⟩) 1 [[a, b]] := RowK.one w [a, b] t

theorem Tryz.fileInfo : (Tryz.prog.info? 106).map (fun i => (i.zero, i.size, i.bytes)) = some (some (.agg #[.string ByteArray.empty, .slice none 0 0]), 2, 40) := by kernel_rfl

/-- A row of files of new memory. -/
def GivesRef (z : Fl Held) (w : World) (e : Ending) (w' : World) : Prop := ∃ A n c, e = .returned (.slice A n c) ∧ n ≤ c ∧ RefRow w' A n z ∧ Later w w'

theorem file_one (fn : ByteArray) (A : Option Addr) (n c : Nat) : ∀ cs ∈ [[Value.string fn, Value.slice A n c]], ∀ u ∈ cs, u.oneCell' = true := by
  intro cs hcs u hu
  simp at hcs; subst hcs
  simp at hu
  rcases hu with rfl | rfl <;> rfl

theorem filter_next {α : Type} {z : List α} {k : Nat} {f : α} (h : z[k]? = some f) (p : α → Bool) : (z.take (k + 1)).filter p = (z.take k).filter p ++ (if p f then [f] else []) := by
  obtain ⟨hk, rfl⟩ := List.getElem?_eq_some_iff.1 h
  rw [List.take_succ_eq_append_getElem hk, List.filter_append, List.filter_cons, List.filter_nil]

theorem gives_own {z : Fl Held} {w wr : World} {v : Value} (h : OwnK 106 2 w wr v (cellsF z)) (hr : ∀ f ∈ z, Reads wr f.2.1 f.2.2) : GivesRef z w (.returned v) wr := by
  obtain ⟨A, c, hv, hcc, hrow⟩ := h.row
  rw [cellsF_length] at hv hcc hrow
  exact ⟨A, _, c, by rw [hv], hcc, ⟨hrow, hr⟩, h.later⟩

set_option maxHeartbeats 400000 in
theorem refWithout_any (A : Option Addr) (n c : Nat) (z : Fl Held) (nm : ByteArray) (w : World) (hx : RefRow w A n z) (hn : n ≤ 65536) :
    Calls Tryz.prog 93 #[.slice A n c, .string nm] w (GivesRef (withoutT z nm) w) := by
  have HX := Lib.hid hx; clear hx
  obtain ⟨i0, hi, hz0, hz1, hz2⟩ := info_parts Tryz.fileInfo
  go_enter Tryz.func93, Tryz.ntmps93
  go_wp2
  go_loopg [5, 6] (n + 1) (fun g s5 s6 wr => ∃ (k : Nat) (v : Value), k ≤ n ∧ n - k ≤ g ∧ s6 = .int .i64 k ∧ s5 = v ∧ Hid (OwnK 106 2 w wr v (cellsF ((z.take k).filter fun f => decide (f.1 ≠ nm)))))
  case atStart => exact ⟨0, _, Nat.zero_le _, by omega, rfl, rfl, OwnK.nil (Later.refl w)⟩
  case round =>
    obtain ⟨k, v, hk, hg, rfl, rfl, ho⟩ := hrel
    by_cases hlt : k < n
    · obtain ⟨b, o, f, rfl, hz, g1, g2⟩ := (HX.out.later ho.out.later).get hlt
      obtain ⟨A2, n2, c2, hv2, -, -⟩ := HX.out.reads f (List.mem_of_getElem? hz)
      have hstep := filter_next hz (fun f => decide (f.1 ≠ nm))
      have hlen : (cellsF ((z.take k).filter fun f => decide (f.1 ≠ nm))).length ≤ 65536 := by
        rw [cellsF_length]
        have h1 := List.length_filter_le (fun f : ByteArray × Held => decide (f.1 ≠ nm)) (z.take k)
        rw [List.length_take] at h1; omega
      by_cases he : f.1 = nm
      · have HE : Hid ((z.take (k + 1)).filter (fun f => decide (f.1 ≠ nm)) = (z.take k).filter fun f => decide (f.1 ≠ nm)) := by rw [hstep]; simp [Hid, he]
        rw [he] at g1
        clear hstep hz he hv2 g2
        go_wp2
        go_roundg (n - (k + 1))
        case measure => omega
        case rel => exact ⟨k + 1, _, by omega, Nat.le_refl _, by go_num, rfl, by rw [HE.out]; exact ho.out⟩
      · have HE : Hid ((z.take (k + 1)).filter (fun f => decide (f.1 ≠ nm)) = (z.take k).filter (fun f => decide (f.1 ≠ nm)) ++ [f]) := by rw [hstep]; simp [Hid, he]
        have hb := text_ne he
        have HF : Hid (f = (f.1, (Value.slice A2 n2 c2, f.2.2))) := by show f = _; rw [← hv2]
        rw [hv2] at g2
        generalize f.1 = fn at g1 hb HF
        generalize f.2.2 = fl at HF
        clear hstep hz he hv2
        go_wp2_with (at_builtin; refine wpList_append_rowK rfl _ _ 45 rfl i0 _ 40 Tryz.underlying45 hi hz0 hz1 hz2 rfl (by decide) (ho.out.alloc _) rfl _ _ _ _ rfl (RowK.two _ _ _ _) (file_one _ _ _ _) (by omega) (by omega) ?_; intro v2 w2 hown2 hg2; have HO2 := Lib.hid hown2; clear hown2 hg2)
        go_roundg (n - (k + 1))
        case measure => omega
        case rel =>
          refine ⟨k + 1, _, by omega, Nat.le_refl _, by go_num, rfl, ?_⟩
          rw [HE.out, HF.out]
          have := HO2.out
          simpa [cellsF, Hid] using this
    · have e : z.take k = z := List.take_of_length_le (by rw [HX.out.len]; omega)
      rw [e] at ho
      clear e
      go_wp2
      go_ret
      exact gives_own ho.out fun f hf => (HX.out.reads f (List.mem_filter.1 hf).1).later ho.out.later

theorem run_gtr (a b : ByteArray) (w : World) : (binOp .gtr 9 (.string a) (.string b)).run Tryz.prog w = .ok (.bool (ltN b a)) w := by
  have e : (!(Op.bytesLess a.toList b.toList || a.toList == b.toList)) = ltN b a := by
    rw [less_is, text_beq]
    by_cases h : a = b
    · subst h; simp [ltN_irrefl]
    · rcases ltN_total h with k | k
      · simp [k, ltN_asymm k]
      · simp [k, ltN_asymm k, h]
  rw [← e]
  simp [binOp, Op.stringOp]

set_option maxRecDepth 100000 in
set_option maxHeartbeats 1000000 in
theorem refWith_any (A : Option Addr) (n c : Nat) (z : Fl Held) (nm : ByteArray) (Al : Option Addr) (nl cl : Nat) (l : List ByteArray) (w : World) (hx : RefRow w A n z) (hl : Reads w (.slice Al nl cl) l) (hn : n ≤ 65536) :
    Calls Tryz.prog 92 #[.slice A n c, .string nm, .slice Al nl cl] w (GivesRef (withT z nm (.slice Al nl cl, l)) w) := by
  have HX := Lib.hid hx; have HL := Lib.hid hl; clear hl
  obtain ⟨i0, hi, hz0, hz1, hz2⟩ := info_parts Tryz.fileInfo
  have HC := Lib.hid (refWithout_any A n c z nm w hx hn)
  have hzn := without_length z nm
  rw [hx.len] at hzn
  clear hx
  go_enter Tryz.func92, Tryz.ntmps92
  go_wp2_with fail
  refine HC.out.mono ?_
  rintro e w1 ⟨A1, n1, c1, rfl, hnc1, hr1, hl1⟩
  have hn1 : n1 ≤ 65536 := by rw [← hr1.len]; omega
  have HR1 := Lib.hid hr1; have HL1 := Lib.hid hl1; clear hr1 hl1
  generalize hu : withoutT z nm = u at HR1 hzn
  have HU := Lib.hid hu; clear hu
  go_wp2
  go_loopg [7, 9] (n1 + 1) (fun g s7 s9 wr => ∃ (k : Nat) (v : Value), k ≤ n1 ∧ n1 - k ≤ g ∧ s9 = .int .i64 k ∧ s7 = v ∧ Hid (OwnK 106 2 w1 wr v (cellsF ((u.take k).filter fun f => ltN f.1 nm))))
  case atStart => exact ⟨0, _, Nat.zero_le _, by omega, rfl, rfl, OwnK.nil (Later.refl w1)⟩
  case round =>
    obtain ⟨k, v, hk, hg, rfl, rfl, ho⟩ := hrel
    by_cases hlt : k < n1
    · obtain ⟨b, o, f, rfl, hz, g1, g2⟩ := (HR1.out.later ho.out.later).get hlt
      obtain ⟨A2, n2, c2, hv2, -, -⟩ := HR1.out.reads f (List.mem_of_getElem? hz)
      have hstep := filter_next hz (fun f => ltN f.1 nm)
      have hlen : ((u.take k).filter fun f => ltN f.1 nm).length ≤ 65536 := by
        have h1 := List.length_filter_le (fun f : ByteArray × Held => ltN f.1 nm) (u.take k)
        rw [List.length_take] at h1; omega
      by_cases he : ltN f.1 nm = true
      · have HE : Hid ((u.take (k + 1)).filter (fun f => ltN f.1 nm) = (u.take k).filter (fun f => ltN f.1 nm) ++ [f]) := by rw [hstep]; simp [Hid, he]
        have hb : Op.bytesLess f.1.toList nm.toList = true := by rw [less_is]; exact he
        have HF : Hid (f = (f.1, (Value.slice A2 n2 c2, f.2.2))) := by show f = _; rw [← hv2]
        rw [hv2] at g2
        generalize f.1 = fn at g1 hb HF
        generalize f.2.2 = fl at HF
        clear hstep hz he hv2
        go_wp2_with (at_builtin; refine wpList_append_rowK rfl _ _ 45 rfl i0 _ 40 Tryz.underlying45 hi hz0 hz1 hz2 rfl (by decide) (ho.out.alloc _) rfl _ _ _ _ rfl (RowK.two _ _ _ _) (file_one _ _ _ _) (by rw [cellsF_length]; omega) (by omega) ?_; intro v2 w2 hown2 hg2; have HO2 := Lib.hid hown2; clear hown2 hg2)
        go_roundg (n1 - (k + 1))
        case measure => omega
        case rel =>
          refine ⟨k + 1, _, by omega, Nat.le_refl _, by go_num, rfl, ?_⟩
          rw [HE.out, HF.out]
          have := HO2.out
          simpa [cellsF, Hid] using this
      · have he' : ltN f.1 nm = false := by simpa using he
        have HE : Hid ((u.take (k + 1)).filter (fun f => ltN f.1 nm) = (u.take k).filter fun f => ltN f.1 nm) := by rw [hstep]; simp [Hid, he']
        have hb : Op.bytesLess f.1.toList nm.toList = false := by rw [less_is]; exact he'
        generalize f.1 = fn at g1 hb
        clear hstep hz he he' hv2 g2
        go_wp2
        go_roundg (n1 - (k + 1))
        case measure => omega
        case rel => exact ⟨k + 1, _, by omega, Nat.le_refl _, by go_num, rfl, by rw [HE.out]; exact ho.out⟩
    · have e : u.take k = u := List.take_of_length_le (by rw [HR1.out.len]; omega)
      rw [e] at ho
      have hle1 : (u.filter fun f => ltN f.1 nm).length ≤ 65536 := by
        have h1 := List.length_filter_le (fun f : ByteArray × Held => ltN f.1 nm) u
        rw [HR1.out.len] at h1; omega
      clear e
      go_wp2_with (at_builtin; refine wpList_append_rowK rfl _ _ 45 rfl i0 _ 40 Tryz.underlying45 hi hz0 hz1 hz2 rfl (by decide) (ho.out.alloc _) rfl _ _ _ _ rfl (RowK.two _ _ _ _) (file_one _ _ _ _) (by rw [cellsF_length]; omega) (by omega) ?_; intro v3 w3 hown3 hg3; have HO3 := Lib.hid hown3; clear hown3 hg3)
      have hO4 : OwnK 106 2 w1 w3 v3 (cellsF ((u.filter fun f => ltN f.1 nm) ++ [(nm, (Value.slice Al nl cl, l))])) := by
        have := HO3.out
        simpa [cellsF] using this
      generalize hP : (u.filter fun f => ltN f.1 nm) ++ [(nm, (Value.slice Al nl cl, l))] = pre at hO4
      have HP := Lib.hid hP
      have hpl : pre.length ≤ 65537 := by rw [← hP, List.length_append, List.length_singleton]; omega
      have HO4 := Lib.hid hO4
      clear hO4 HO3 ho hle1 hP hg hlt hk
      go_loopg [7, 10] (n1 + 1) (fun g s7 s10 wr => ∃ (k : Nat) (v : Value), k ≤ n1 ∧ n1 - k ≤ g ∧ s10 = .int .i64 k ∧ s7 = v ∧ Hid (OwnK 106 2 w1 wr v (cellsF (pre ++ (u.take k).filter fun f => ltN nm f.1))))
      case atStart => exact ⟨0, _, Nat.zero_le _, by omega, rfl, rfl, by simpa [Hid] using HO4.out⟩
      case round =>
        obtain ⟨k, v, hk, hg, rfl, rfl, ho⟩ := hrel
        by_cases hlt : k < n1
        · obtain ⟨b, o, f, rfl, hz, g1, g2⟩ := (HR1.out.later ho.out.later).get hlt
          obtain ⟨A2, n2, c2, hv2, -, -⟩ := HR1.out.reads f (List.mem_of_getElem? hz)
          have hstep := filter_next hz (fun f => ltN nm f.1)
          have hlen : ((u.take k).filter fun f => ltN nm f.1).length ≤ 65536 := by
            have h1 := List.length_filter_le (fun f : ByteArray × Held => ltN nm f.1) (u.take k)
            rw [List.length_take] at h1; omega
          by_cases he : ltN nm f.1 = true
          · have HE : Hid ((u.take (k + 1)).filter (fun f => ltN nm f.1) = (u.take k).filter (fun f => ltN nm f.1) ++ [f]) := by rw [hstep]; simp [Hid, he]
            have hb : ∀ w, (binOp .gtr 9 (.string f.1) (.string nm)).run Tryz.prog w = .ok (.bool true) w := fun w => by rw [run_gtr, he]
            have HF : Hid (f = (f.1, (Value.slice A2 n2 c2, f.2.2))) := by show f = _; rw [← hv2]
            rw [hv2] at g2
            generalize f.1 = fn at g1 hb HF
            generalize f.2.2 = fl at HF
            clear hstep hz he hv2
            go_wp2_with (at_builtin; refine wpList_append_rowK rfl _ _ 45 rfl i0 _ 40 Tryz.underlying45 hi hz0 hz1 hz2 rfl (by decide) (ho.out.alloc _) rfl _ _ _ _ rfl (RowK.two _ _ _ _) (file_one _ _ _ _) (by rw [cellsF_length, List.length_append]; omega) (by omega) ?_; intro v2 w2 hown2 hg2; have HO2 := Lib.hid hown2; clear hown2 hg2)
            go_roundg (n1 - (k + 1))
            case measure => omega
            case rel =>
              refine ⟨k + 1, _, by omega, Nat.le_refl _, by go_num, rfl, ?_⟩
              rw [HE.out, HF.out]
              have := HO2.out
              simpa [cellsF, Hid] using this
          · have he' : ltN nm f.1 = false := by simpa using he
            have HE : Hid ((u.take (k + 1)).filter (fun f => ltN nm f.1) = (u.take k).filter fun f => ltN nm f.1) := by rw [hstep]; simp [Hid, he']
            have hb : ∀ w, (binOp .gtr 9 (.string f.1) (.string nm)).run Tryz.prog w = .ok (.bool false) w := fun w => by rw [run_gtr, he']
            generalize f.1 = fn at g1 hb
            clear hstep hz he he' hv2 g2
            go_wp2
            go_roundg (n1 - (k + 1))
            case measure => omega
            case rel => exact ⟨k + 1, _, by omega, Nat.le_refl _, by go_num, rfl, by rw [HE.out]; exact ho.out⟩
        · have e : u.take k = u := List.take_of_length_le (by rw [HR1.out.len]; omega)
          rw [e] at ho
          have HW : Hid (withT z nm (.slice Al nl cl, l) = pre ++ u.filter fun f => ltN nm f.1) := by
            show _ = _
            rw [← HP.out, ← HU.out]; simp [withT]
          clear e
          go_wp2
          go_ret
          rw [HW.out]
          obtain ⟨A9, n9, c9, h1, h2, h3, h4⟩ := gives_own ho.out fun f hf => by
            rcases List.mem_append.1 hf with hf | hf
            · rw [← HP.out] at hf
              rcases List.mem_append.1 hf with hf | hf
              · exact (HR1.out.reads f (List.mem_filter.1 hf).1).later ho.out.later
              · simp at hf; subst hf
                exact (HL.out.later HL1.out).later ho.out.later
            · exact (HR1.out.reads f (List.mem_filter.1 hf).1).later ho.out.later
          exact ⟨A9, n9, c9, h1, h2, h3, HL1.out.trans h4⟩

end Go.Proofs.YtejkgkgjgojlkaaGreatDoor

/-
  What tree.Named and the document's Named come to, as calls.
-/
namespace Go.Proofs.YtejkgkgjgojlkaaGreatDoor
open Go.RowKit

theorem nameByte_iff (c : UInt8) : nameByte c = true ↔ (97 ≤ (c.toNat : Int) ∧ (c.toNat : Int) ≤ 122) ∨ (48 ≤ (c.toNat : Int) ∧ (c.toNat : Int) ≤ 57) ∨ (c.toNat : Int) = 46 ∨ (c.toNat : Int) = 45 ∨ (c.toNat : Int) = 95 ∨ (c.toNat : Int) = 47 := by
  have e : ∀ d : UInt8, c = d ↔ (c.toNat : Int) = d.toNat := fun d => ⟨fun h => by rw [h], fun h => UInt8.toNat.inj (by omega)⟩
  simp only [nameByte, Bool.or_eq_true, Bool.and_eq_true, decide_eq_true_eq, UInt8.le_iff_toNat_le, beq_iff_eq, e]
  simp only [UInt8.reduceToNat]
  omega

set_option maxHeartbeats 400000 in
theorem fits_any (c : UInt8) (w : World) : Calls Tryz.prog 109 #[.int .u8 (c.toNat : Int)] w fun e w' => e = .returned (.bool (nameByte c)) ∧ w = w' := by
  have hc := nameByte_iff c
  generalize nameByte c = b at hc ⊢
  have HC := Lib.hid hc; clear hc
  have h0 : (0 : Int) ≤ (c.toNat : Int) := by omega
  have h1 : (c.toNat : Int) < 256 := by have := c.toNat_lt; omega
  generalize (c.toNat : Int) = n at *
  go_enter Tryz.func109, Tryz.ntmps109
  go_wp2
  all_goals
    go_ret
    refine ⟨ret_bool ?_, rfl⟩
    rw [Bool.eq_iff_iff, HC.out]
    simp_all
    try omega

theorem named_no {s : ByteArray} {k : Nat} {c : UInt8} (hk : (bytes s)[k]? = some c) (hc : nameByte c = false) : namedB s = false := by
  have : (bytes s).all nameByte = false := List.all_eq_false.2 ⟨c, List.mem_of_getElem? hk, by simp [hc]⟩
  simp [namedB, this]
theorem named_yes {s : ByteArray} (h : ∀ (k : Nat) (c : UInt8), (bytes s)[k]? = some c → nameByte c = true) : namedB s = (decide (1 ≤ s.size) && decide (s.size ≤ 24)) := by
  have : (bytes s).all nameByte = true := List.all_eq_true.2 fun c hc => by
    obtain ⟨k, hk⟩ := List.getElem?_of_mem hc
    exact h k c hk
  simp [namedB, this]

set_option maxHeartbeats 400000 in
theorem named_any (s : ByteArray) (w : World) (hs : s.size ≤ maxLen) : Calls Tryz.prog 81 #[.string s] w fun e w' => e = .returned (.bool (namedB s)) ∧ w = w' := by
  unfold maxLen at hs
  by_cases h1 : s.size < 1
  · have e : namedB s = false := by simp [namedB]; omega
    have E := Lib.hid e; clear e
    have hd : decide ((s.size : Int) < 1) = true := by simp; omega
    go_enter Tryz.func81, Tryz.ntmps81
    go_wp2
    go_ret
    exact ⟨ret_bool E.out.symm, rfl⟩
  · have hd : decide ((s.size : Int) < 1) = false := by simp; omega
    by_cases h2 : 24 < s.size
    · have e : namedB s = false := by simp [namedB]; omega
      have E := Lib.hid e; clear e
      have hd2 : decide ((24 : Int) < s.size) = true := by simp; omega
      go_enter Tryz.func81, Tryz.ntmps81
      go_wp2
      go_ret
      exact ⟨ret_bool E.out.symm, rfl⟩
    · have hd2 : decide ((24 : Int) < s.size) = false := by simp; omega
      go_enter Tryz.func81, Tryz.ntmps81
      go_wp2
      clear hd hd2
      go_loop [14] (fun i => ∃ k : Nat, k ≤ s.size ∧ i = .int .i64 k ∧ Hid (∀ (j : Nat) (c : UInt8), j < k → (bytes s)[j]? = some c → nameByte c = true)) (fun i => s.size - (intOf i).toNat)
      case atStart => exact ⟨0, Nat.zero_le _, rfl, fun j c hj => absurd hj (Nat.not_lt_zero _)⟩
      case round =>
        obtain ⟨k, hk, rfl, hno⟩ := hrel
        by_cases hlt : k < s.size
        · have hat : (bytes s)[k]? = some s[k] := byte_at hlt
          have hf := fits_any s[k] w
          cases hb : nameByte s[k]
          · rw [hb] at hf
            have e := named_no hat hb
            have E := Lib.hid e
            have HF := Lib.hid hf
            clear hf hb e hat hno
            go_wp2_with (go_at_call 109; refine HF.out.mono ?_; rintro e w' ⟨rfl, rfl⟩)
            go_ret
            exact ⟨ret_bool E.out.symm, rfl⟩
          · rw [hb] at hf
            have HA : Hid (∀ (j : Nat) (c : UInt8), j < k + 1 → (bytes s)[j]? = some c → nameByte c = true) := fun j c hj hjc => by
              by_cases e : j = k
              · subst e; rw [hat] at hjc; cases hjc; exact hb
              · exact hno.out j c (by omega) hjc
            have HF := Lib.hid hf
            clear hf hb hat hno
            go_wp2_with (go_at_call 109; refine HF.out.mono ?_; rintro e w' ⟨rfl, rfl⟩)
            exact ⟨⟨k + 1, by omega, by go_num, HA⟩, by simp [intOf]; omega⟩
        · have e : namedB s = true := by
            rw [named_yes fun j c hc => hno.out j c (by have := (List.getElem?_eq_some_iff.1 hc).1; rw [bytes_length] at this; omega) hc]
            simp; omega
          have E := Lib.hid e; clear e hno
          go_wp2
          go_ret
          exact ⟨ret_bool E.out.symm, rfl⟩

set_option maxHeartbeats 800000 in
theorem refNamed_any (s : ByteArray) (w : World) (hs : s.size ≤ maxLen) : Calls Tryz.prog 84 #[.string s] w fun e w' => e = .returned (.bool (namedB s)) ∧ w = w' := by
  unfold maxLen at hs
  go_enter Tryz.func84, Tryz.ntmps84
  go_wp2
  go_loop [3] (fun i => ∃ k : Nat, k ≤ s.size ∧ i = .int .i64 k ∧ Hid (∀ (j : Nat) (c : UInt8), j < k → (bytes s)[j]? = some c → nameByte c = true)) (fun i => s.size - (intOf i).toNat)
  case atStart => exact ⟨0, Nat.zero_le _, rfl, fun j c hj => absurd hj (Nat.not_lt_zero _)⟩
  case round =>
    obtain ⟨k, hk, rfl, hno⟩ := hrel
    by_cases hlt : k < s.size
    · have hat : (bytes s)[k]? = some s[k] := byte_at hlt
      have hc := nameByte_iff s[k]
      cases hb : nameByte s[k]
      · have e := named_no hat hb
        have E := Lib.hid e
        rw [hb] at hc
        have HC := Lib.hid hc
        clear hb e hat hno hc
        go_wp2
        all_goals first
          | (go_ret; exact ⟨ret_bool E.out.symm, rfl⟩)
          | (exfalso; have := HC.out; simp at this; simp_all; try omega)
      · have HA : Hid (∀ (j : Nat) (c : UInt8), j < k + 1 → (bytes s)[j]? = some c → nameByte c = true) := fun j c hj hjc => by
          by_cases e : j = k
          · subst e; rw [hat] at hjc; cases hjc; exact hb
          · exact hno.out j c (by omega) hjc
        rw [hb] at hc
        have HC := Lib.hid hc
        clear hb hat hno hc
        go_wp2
        all_goals first
          | exact ⟨⟨k + 1, by omega, by go_num, HA⟩, by simp [intOf]; omega⟩
          | (exfalso; have := HC.out; simp at this; simp_all; try omega)
    · have e : namedB s = (decide (1 ≤ s.size) && decide (s.size ≤ 24)) := named_yes fun j c hc => hno.out j c (by have := (List.getElem?_eq_some_iff.1 hc).1; rw [bytes_length] at this; omega) hc
      have E := Lib.hid e; clear e hno
      go_wp2
      all_goals
        go_ret
        refine ⟨ret_bool ?_, rfl⟩
        rw [E.out, Bool.eq_iff_iff]
        simp only [Bool.and_eq_true, decide_eq_true_eq]
        try simp
        try omega

end Go.Proofs.YtejkgkgjgojlkaaGreatDoor

/-
  What the document's Right comes to, as a call.
-/
namespace Go.Proofs.YtejkgkgjgojlkaaGreatDoor
open Go.RowKit

set_option maxHeartbeats 400000 in
theorem refRight_any (s : ByteArray) (w : World) (hs : s.size ≤ maxLen) :
    Calls Tryz.prog 111 #[.string s] w fun e w' => e = .returned (.bool (rightB s)) ∧ w = w' := by
  unfold maxLen at hs
  go_enter Tryz.func111, Tryz.ntmps111
  go_wp2
  go_loop [3] (fun i => ∃ k : Nat, k ≤ s.size ∧ i = .int .i64 k ∧ Hid (∀ j : Nat, j < k → s.data.toList[j]? ≠ some 10)) (fun i => s.size - (intOf i).toNat)
  case atStart => exact ⟨0, Nat.zero_le _, rfl, fun j hj => absurd hj (Nat.not_lt_zero _)⟩
  case round =>
    obtain ⟨k, hk, rfl, hno⟩ := hrel
    by_cases hlt : k < s.size
    · go_wp2
      · have h10 := byte_is (c := s[k]) ‹_›
        have e : rightB s = false := by
          unfold rightB
          rw [hasEnd_yes (k := k) (by rw [byte_at hlt, h10])]; simp
        have E := Lib.hid e
        go_ret
        exact ⟨ret_bool E.out.symm, rfl⟩
      · have h10 := byte_isnt (c := s[k]) ‹_›
        refine ⟨⟨k + 1, by omega, by go_num, fun j hj => ?_⟩, by simp [intOf]; omega⟩
        by_cases e : j = k
        · subst e; rw [byte_at hlt]; simpa using h10
        · exact hno.out j (by omega)
    · have e : rightB s = decide (s.size ≤ 60) := by
        unfold rightB
        rw [hasEnd_no (fun j => ?_)]; simp
        by_cases hj : j < k
        · exact hno.out j hj
        · rw [List.getElem?_eq_none (by simp; omega)]; simp
      have E := Lib.hid e; clear e hno
      go_wp2
      go_ret
      exact ⟨ret_bool (by rw [E.out]; simp; omega), rfl⟩

end Go.Proofs.YtejkgkgjgojlkaaGreatDoor
