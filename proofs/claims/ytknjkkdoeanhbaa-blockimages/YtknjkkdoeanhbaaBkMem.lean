/-
  A device in memory: its box, its blocks and its row, both rows of its own; what may turn beside it.
-/
import Derived.Test.YtknjkkdoeanhbaaChecked
import Derived.Test.YtknjkkdoeanhbaaRowK
import Derived.Test.YtknjkkdoeanhbaaBkPlain
import Derived.Deep.MidRow
import Derived.Lib.AppendIntMem
import Derived.Lib.Hide
namespace Go.Proofs.Ytknjkkdoeanhbaa
open Go.RowKit

/-- Of what was there blocks of S alone have turned. -/
structure Chg (S : Nat → Prop) (w w' : World) : Prop where
  os : w'.os = w.os
  tape : w'.tape = w.tape
  output : w'.output = w.output
  size : w.heap.size ≤ w'.heap.size
  block : ∀ k, k < w.heap.size → ¬ S k → w'.heap[k]? = w.heap[k]?
section
variable {S S' : Nat → Prop} {w w' w'' W : World} {g b o n c k : Nat} {v : Value} {T e : TypeId} {cs vs : List Value} {css : List (List Value)} {cur : Array Value} {a : Addr} {A : Option Addr}
theorem Chg.later (h : Later w w') : Chg S w w' := ⟨h.os, h.tape, h.output, h.size, fun k hk _ => h.block k hk⟩
theorem Chg.refl (S : Nat → Prop) (w : World) : Chg S w w := Chg.later (Later.refl w)
theorem Chg.trans (h : Chg S w w') (k : Chg S' w' w'') (hs : ∀ g, S' g → S g ∨ w.heap.size ≤ g) : Chg S w w'' :=
  ⟨k.os.trans h.os, k.tape.trans h.tape, k.output.trans h.output, Nat.le_trans h.size k.size, fun i hi hn => by
    rw [k.block i (Nat.lt_of_lt_of_le hi h.size) (fun e => (hs i e).elim hn (fun h => by omega)), h.block i hi hn]⟩
theorem Chg.then (h : Chg S w w') (k : Later w' w'') : Chg S w w'' := h.trans (S' := fun _ => False) (Chg.later k) fun _ e => e.elim
theorem Chg.mono (h : Chg S w w') (hs : ∀ g, S g → S' g ∨ w.heap.size ≤ g) : Chg S' w w' := ⟨h.os, h.tape, h.output, h.size, fun i hi hn => h.block i hi fun e => (hs i e).elim hn (fun h => by omega)⟩
/-- What lay there before has not turned. -/
theorem Chg.low (h : Chg S w w') (hl : Later W w) (hs : ∀ g, S g → W.heap.size ≤ g) : Later W w' :=
  ⟨h.os.trans hl.os, h.tape.trans hl.tape, h.output.trans hl.output, Nat.le_trans hl.le h.size, fun i hi => by
    rw [h.block i (Nat.lt_of_lt_of_le hi hl.le) (fun e => by have := hs i e; omega), hl.block i hi]⟩
theorem Chg.cell {u : Value} (h : Chg S w w') (hc : w.cell? a = some u) (hn : ¬ S a.block) : w'.cell? a = some u :=
  (World.cell?_of_block (h.block a.block (lt_of_cell hc) hn)).trans hc
theorem Chg.grown (h : w.grownBy w' v.ownBlock) (hs : ∀ b, v.ownBlock = some b → S b ∨ w.heap.size ≤ b) : Chg S w w' :=
  ⟨h.os, h.tape, h.output, h.size, fun i hi hn => h.block i hi fun e => (hs i e.symm).elim hn (fun h => by omega)⟩
/-- Block g is made of these cells. -/
def CellsAt (w : World) (g : Nat) (cs : Array Value) (t : TypeId) : Prop := w.heap[g]? = some (.cells cs t (0, 0))
theorem CellsAt.lt (h : CellsAt w g cur T) : g < w.heap.size := (Array.getElem?_eq_some_iff.1 h).1
theorem CellsAt.later (h : CellsAt w g cur T) (hl : Later w w') : CellsAt w' g cur T := (hl.block g h.lt).trans h
theorem CellsAt.chg (h : CellsAt w g cur T) (hc : Chg S w w') (hn : ¬ S g) : CellsAt w' g cur T := (hc.block g h.lt hn).trans h
theorem CellsAt.cell (h : CellsAt w g cur T) {i : Nat} {v : Value} (hv : cur[i]? = some v) : w.cell? ⟨g, i, none⟩ = some v := by
  unfold CellsAt at h
  simp only [World.cell?, h]
  exact hv
theorem CellsAt.frozen (h : CellsAt w g cur T) (i : Nat) : w.frozen? ⟨g, i, none⟩ = false := frozen_of_row w g i cur T h
theorem CellsAt.made (w : World) (cs : Array Value) (t : TypeId) : CellsAt (w.alloc (.cells cs t)) w.heap.size cs t := heap_alloc_new w _
theorem CellsAt.there (h : CellsAt w g cur T) (hn : o + n ≤ cur.size) : w.there g o n := fun j hj => ⟨by rw [h.cell (Array.getElem?_eq_getElem (show o + j < cur.size by omega))]; rfl, h.frozen _⟩
theorem CellsAt.range (h : CellsAt w g cur T) (hc : ∀ j u, cs[j]? = some u → cur[o + j]? = some u) : w.rangeAt g o cs := fun j u hj => h.cell (hc j u hj)
/-- A block behind cells that were set. -/
def setRun (cur : Array Value) : Nat → List Value → Array Value
  | _, [] => cur
  | o, v :: r => setRun (cur.setIfInBounds o v) (o + 1) r
theorem setRun_size : ∀ (vs : List Value) (cur : Array Value) (o : Nat), (setRun cur o vs).size = cur.size
  | [], _, _ => rfl
  | v :: r, cur, o => by rw [setRun, setRun_size r]; simp
theorem setRun_out : ∀ (vs : List Value) (cur : Array Value) (o j : Nat), j < o ∨ o + vs.length ≤ j → (setRun cur o vs)[j]? = cur[j]?
  | [], _, _, _, _ => rfl
  | v :: r, cur, o, j, h => by
    rw [setRun, setRun_out r _ _ _ (by simp at h; omega), Array.getElem?_setIfInBounds_ne (by simp at h; omega)]
theorem setRun_in : ∀ (vs : List Value) (cur : Array Value) (o j : Nat) (u : Value), vs[j]? = some u → o + vs.length ≤ cur.size → (setRun cur o vs)[o + j]? = some u
  | [], _, _, _, _, h, _ => by simp at h
  | v :: r, cur, o, 0, u, h, hs => by
    simp at h hs; subst h
    rw [setRun, setRun_out r _ _ _ (.inl (by omega))]
    rw [Nat.add_zero, Array.getElem?_setIfInBounds]
    simp; omega
  | v :: r, cur, o, j + 1, u, h, hs => by
    rw [setRun, show o + (j + 1) = o + 1 + j by omega]
    exact setRun_in r _ (o + 1) j u (by simpa using h) (by simp at hs ⊢; omega)
theorem CellsAt.sets : ∀ (vs : List Value) {o : Nat} {w : World} {cur : Array Value}, CellsAt w g cur T → CellsAt (w.setCells g o vs) g (setRun cur o vs) T
  | [], _, _, _, h => h
  | v :: r, o, w, cur, h => CellsAt.sets r (show CellsAt (w.setCell ⟨g, o, none⟩ v) g _ T from heap_setCell_same w g o cur T v h)
theorem sets_chg : ∀ (vs : List Value) (w : World) (o : Nat), Chg (fun k => k = g) w (w.setCells g o vs)
  | [], w, _ => Chg.refl _ w
  | v :: r, w, o => by
    have h1 : Chg (fun k => k = g) w (w.setCell ⟨g, o, none⟩ v) := ⟨rfl, rfl, rfl, by simp [World.setCell], fun k _ hk => heap_setCell_other w _ k v hk⟩
    exact h1.trans (sets_chg r _ (o + 1)) fun k hk => .inl hk
/-! ### Rows of the call's own -/
theorem OwnK.chg {W : World} (h : OwnK e k W w v css) (hc : Chg S w w') (hv : ∀ b, v.ownBlock = some b → ¬ S b) (hl : Later W w') : OwnK e k W w' v css := by
  refine ⟨⟨h.1.1, ?_⟩, h.2.1, hl⟩
  rcases h.1.2 with hn | ⟨g, cap, cur, rfl, hb, hg, rest⟩
  · exact .inl hn
  · refine .inr ⟨g, cap, cur, rfl, hb, ?_, rest⟩
    rw [hc.block g (Array.getElem?_eq_some_iff.1 hg).1 (hv g rfl)]
    exact hg
theorem OwnK.lt (h : OwnK e k W w v css) : ∀ b, v.ownBlock = some b → W.heap.size ≤ b ∧ b < w.heap.size := h.1.lt
theorem OwnK.typed (h : OwnK e k W w v css) : ∀ b, v.ownBlock = some b → ∃ cur, CellsAt w b cur e := fun b hb => by
  rcases h.1.2 with ⟨rfl, _⟩ | ⟨g, cap, cur, rfl, hbb, hg, rest⟩
  · cases hb
  · cases hb
    exact ⟨cur, hg⟩
theorem OwnK.block_ (h : OwnK e k W w (.slice A n c) css) (hne : css ≠ []) : ∃ b cur, A = some ⟨b, 0, .none⟩ ∧ n = css.length ∧ n ≤ c ∧ c ≤ maxLen ∧ CellsAt w b cur e ∧ cur.size = c * k ∧ cur.toList.take (n * k) = css.flatten := by
  rcases h.1.2 with ⟨_, h0⟩ | ⟨g, cap, cur, hv, hb, hh, hnc, hm, hs, ht⟩
  · exact absurd (List.eq_nil_of_length_eq_zero h0) hne
  · cases hv
    exact ⟨g, cur, rfl, rfl, hnc, hm, hh, hs, ht⟩
theorem OwnK.len (h : OwnK e k W w (.slice A n c) css) : n = css.length := by
  rcases h.1.2 with ⟨hv, h0⟩ | ⟨g, cap, cur, hv, _⟩
  · cases hv; exact h0.symm
  · cases hv; rfl
theorem flat_set {α : Type} {k : Nat} : ∀ {css : List (List α)}, (∀ cs ∈ css, cs.length = k) → ∀ {j : Nat} {cs : List α}, cs.length = k → j < css.length → ∀ i, (css.set j cs).flatten[i]? = if j * k ≤ i ∧ i < j * k + k then cs[i - j * k]? else css.flatten[i]?
  | [], _, _, _, _, hj, _ => absurd hj (Nat.not_lt_zero _)
  | c :: css, hk, 0, cs, hl, _, i => by
    have hc := hk c List.mem_cons_self
    rw [List.set_cons_zero, List.flatten_cons, List.flatten_cons]
    by_cases hi : i < k
    · rw [if_pos ⟨by omega, by omega⟩, List.getElem?_append_left (by omega)]
      simp
    · rw [if_neg (by omega), List.getElem?_append_right (by omega), List.getElem?_append_right (by omega), hl, hc]
  | c :: css, hk, j + 1, cs, hl, hj, i => by
    have hc := hk c List.mem_cons_self
    rw [List.set_cons_succ, List.flatten_cons, List.flatten_cons]
    have e : (j + 1) * k = j * k + k := by rw [Nat.add_mul]; omega
    by_cases hi : i < k
    · rw [List.getElem?_append_left (by omega), List.getElem?_append_left (by omega), if_neg (by omega)]
    · rw [List.getElem?_append_right (by omega), List.getElem?_append_right (by omega), flat_set (fun cs hcs => hk cs (List.mem_cons_of_mem _ hcs)) hl (by simpa using hj), hc, e]
      by_cases h2 : j * k + k ≤ i ∧ i < j * k + k + k
      · rw [if_pos h2, if_pos ⟨by omega, by omega⟩]
        congr 1
        omega
      · rw [if_neg h2, if_neg (by omega)]
/-- The cells of an element. -/
theorem OwnK.range (h : OwnK e k W w (.slice (some ⟨b, o, none⟩) n c) css) {j : Nat} {cs : List Value} (hj : css[j]? = some cs) : w.rangeAt b (j * k) cs := by
  have hne : css ≠ [] := by rintro rfl; simp at hj
  obtain ⟨b', cur, e1, hn, hnc, hm, hc, hs, ht⟩ := h.block_ hne
  cases e1
  intro i u hi
  have hik : i < k := by rw [← h.2.1 cs (List.mem_of_getElem? hj)]; exact (List.getElem?_eq_some_iff.1 hi).1
  have hf := flat_at h.2.1 hj hik
  rw [← ht, hi, List.getElem?_take] at hf
  split at hf
  · exact hc.cell (by simpa using hf)
  · cases hf
theorem OwnK.there (h : OwnK e k W w (.slice (some ⟨b, o, none⟩) n c) css) {j p q : Nat} (hj : j < css.length) (hp : p + q ≤ k) : w.there b (j * k + p) q := by
  have hne : css ≠ [] := by rintro rfl; simp at hj
  obtain ⟨b', cur, e1, hn, hnc, hm, hc, hs, ht⟩ := h.block_ hne
  cases e1
  refine hc.there ?_
  rw [hs]
  have : (j + 1) * k ≤ c * k := Nat.mul_le_mul_right k (by omega)
  rw [Nat.add_mul] at this
  omega
/-- Cells set within an element. -/
theorem OwnK.set (h : OwnK e k W w (.slice (some ⟨b, o, none⟩) n c) css) {j p : Nat} {vs cs cs' : List Value} (hj : css[j]? = some cs) (hp : p + vs.length ≤ k) (hl : cs'.length = k) (hin : ∀ i u, vs[i]? = some u → cs'[p + i]? = some u) (hout : ∀ i, i < p ∨ p + vs.length ≤ i → cs'[i]? = cs[i]?) :
    OwnK e k W (w.setCells b (j * k + p) vs) (.slice (some ⟨b, o, none⟩) n c) (css.set j cs') := by
  have hjl : j < css.length := (List.getElem?_eq_some_iff.1 hj).1
  have hne : css ≠ [] := by rintro rfl; simp at hj
  have hlow := h.lt b rfl
  have hW := h.2.2
  obtain ⟨b', cur, e1, hn, hnc, hm, hc, hs, ht⟩ := h.block_ hne
  cases e1
  have hcs := h.2.1 cs (List.mem_of_getElem? hj)
  have hkl : ∀ x ∈ css.set j cs', x.length = k := fun x hx => by
    rcases List.mem_or_eq_of_mem_set hx with hx | rfl
    · exact h.2.1 x hx
    · exact hl
  refine ⟨⟨by rw [flat_length hkl], .inr ⟨b, c, setRun cur (j * k + p) vs, by rw [List.length_set, hn], hlow.1, hc.sets vs, by simpa [← hn] using hnc, hm, by rw [setRun_size, hs], ?_⟩⟩, hkl, (sets_chg vs w _).low hW (fun g hg => by rw [hg]; exact hlow.1)⟩
  apply List.ext_getElem?
  intro i
  have e2 : j * k + k ≤ n * k := by
    have : (j + 1) * k ≤ n * k := Nat.mul_le_mul_right k (by omega)
    rw [Nat.add_mul] at this
    omega
  have e3 : n * k ≤ c * k := Nat.mul_le_mul_right k hnc
  rw [List.length_set, ← hn, List.getElem?_take, flat_set h.2.1 hl hjl, ← ht]
  by_cases hi : i < n * k
  · rw [if_pos hi, Array.getElem?_toList]
    by_cases h2 : j * k ≤ i ∧ i < j * k + k
    · rw [if_pos h2]
      by_cases h3 : j * k + p ≤ i ∧ i < j * k + p + vs.length
      · have hv : vs[i - (j * k + p)]? = some (vs[i - (j * k + p)]'(by omega)) := List.getElem?_eq_getElem _
        have := setRun_in vs cur (j * k + p) _ _ hv (by rw [hs]; omega)
        rw [show j * k + p + (i - (j * k + p)) = i by omega] at this
        rw [this]
        have := hin _ _ hv
        rw [show p + (i - (j * k + p)) = i - j * k by omega] at this
        rw [this]
      · rw [setRun_out vs cur _ _ (by omega), hout _ (by omega)]
        have hik : i - j * k < k := by omega
        have := flat_at h.2.1 hj hik
        rw [show j * k + (i - j * k) = i by omega] at this
        rw [← this, ← ht, List.getElem?_take, if_pos hi, Array.getElem?_toList]
    · rw [if_neg h2, List.getElem?_take, if_pos hi, Array.getElem?_toList, setRun_out vs cur _ _ (by omega)]
  · rw [if_neg hi]
    by_cases h2 : j * k ≤ i ∧ i < j * k + k
    · omega
    · rw [if_neg h2, List.getElem?_take, if_neg hi]
theorem OwnK.setAll (h : OwnK e k W w (.slice (some ⟨b, o, none⟩) n c) css) {j : Nat} {vs : List Value} (hj : j < css.length) (hl : vs.length = k) :
    OwnK e k W (w.setCells b (j * k) vs) (.slice (some ⟨b, o, none⟩) n c) (css.set j vs) :=
  h.set (p := 0) (List.getElem?_eq_getElem hj) (by omega) hl (fun i u hi => by rw [Nat.zero_add]; exact hi) (fun i hi => by
    have := h.2.1 _ (List.getElem_mem hj)
    rw [List.getElem?_eq_none (by omega), List.getElem?_eq_none (by omega)])
end

/-! ### A device -/
/-- The cells of a write. -/
def wrL (x : WrP) : List Value := .int .i64 (x.pl : Nat) :: (Lib.byteCells x.was ++ Lib.byteCells x.is)
def blL (d : DvP) : List (List Value) := d.bl.map Lib.byteCells
def rowL (d : DvP) : List (List Value) := d.row.map wrL
theorem bc_len (b : Bs) : (Lib.byteCells b).length = b.length := by simp [Lib.byteCells]
theorem wrL_len {x : WrP} (h : x.was.length = 64 ∧ x.is.length = 64) : (wrL x).length = 129 := by simp [wrL, bc_len, h.1, h.2]
/-- A device: its box g, its blocks and its row; all of its blocks are of S; W: the world at the beginning. -/
structure DevAt (W w : World) (S : Nat → Prop) (g : Nat) (d : DvP) : Prop where
  own : ∃ v1 v2, CellsAt w g #[v1, v2, .int .i64 (d.ops : Nat), .bool d.armed, .int .i64 d.left, .bool d.down] 67 ∧ OwnK 73 64 W w v1 (blL d) ∧ OwnK 75 129 W w v2 (rowL d) ∧ (∀ b, v1.ownBlock = some b → S b) ∧ ∀ b, v2.ownBlock = some b → S b
  ok : DvOk d
  mem : S g
  low : ∀ k, S k → W.heap.size ≤ k ∧ k < w.heap.size
  base : Later W w
section
variable {W w w' : World} {S S' : Nat → Prop} {g : Nat} {d : DvP}
theorem DevAt.chg (h : DevAt W w S g d) (hc : Chg S' w w') (hs : ∀ k, S k → ¬ S' k) (hl : Later W w') : DevAt W w' S g d := by
  obtain ⟨⟨v1, v2, h1, h2, h3, h4, h5⟩, hok, hm, hlow, _⟩ := h
  exact ⟨⟨v1, v2, h1.chg hc (hs g hm), h2.chg hc (fun b hb => hs b (h4 b hb)) hl, h3.chg hc (fun b hb => hs b (h5 b hb)) hl, h4, h5⟩, hok, hm, fun k hk => ⟨(hlow k hk).1, Nat.lt_of_lt_of_le (hlow k hk).2 hc.size⟩, hl⟩
theorem DevAt.later (h : DevAt W w S g d) (hl : Later w w') : DevAt W w' S g d := h.chg (S' := fun _ => False) (Chg.later hl) (fun _ _ e => e) (h.base.trans hl)
/-- What is the device's own behind a call: as before, or new. -/
def Up (S S' : Nat → Prop) (w : World) : Prop := ∀ k, S' k → S k ∨ w.heap.size ≤ k
theorem bl_ne (h : DvOk d) : blL d ≠ [] := by
  intro e
  have := h.one
  have e2 := congrArg List.length e
  simp [blL] at e2
  rw [e2] at this
  simp at this
theorem cells_apart {b : Nat} {c1 c2 : Array Value} {T1 T2 : TypeId} (h1 : CellsAt w b c1 T1) (h2 : CellsAt w g c2 T2) (hT : T1 ≠ T2) : b ≠ g := by
  rintro rfl
  unfold CellsAt at h1 h2
  rw [h1] at h2
  simp at h2
  exact hT h2.2
/-- Its parts. -/
theorem DevAt.parts (h : DevAt W w S g d) : ∃ b c B m c2, CellsAt w g #[.slice (some ⟨b, 0, none⟩) d.bl.length c, .slice B m c2, .int .i64 (d.ops : Nat), .bool d.armed, .int .i64 d.left, .bool d.down] 67 ∧
    OwnK 73 64 W w (.slice (some ⟨b, 0, none⟩) d.bl.length c) (blL d) ∧ d.bl.length ≤ c ∧ OwnK 75 129 W w (.slice B m c2) (rowL d) ∧ m = d.row.length ∧ m ≤ c2 ∧ RowK 129 w B m (rowL d) ∧ S b ∧ b ≠ g ∧ ∀ q, (Value.slice B m c2).ownBlock = some q → S q ∧ q ≠ g ∧ q ≠ b := by
  obtain ⟨⟨v1, v2, h1, h2, h3, h4, h5⟩, hok, hm, hlow, hb⟩ := h
  obtain ⟨A, c, rfl, hc, hr⟩ := h2.row
  obtain ⟨B, c2, rfl, hc2, hr2⟩ := h3.row
  obtain ⟨b, cur, rfl, hn, hnc, _, hcur, _⟩ := h2.block_ (bl_ne hok)
  simp only [blL, List.length_map] at hn hc h1 hr h2 h4
  simp only [rowL, List.length_map] at hc2 h1 hr2 h3 h5
  have hbg : b ≠ g := cells_apart hcur h1 (by decide)
  refine ⟨b, c, B, _, c2, h1, h2, hc, h3, rfl, hc2, hr2, h4 b rfl, hbg, fun q hq => ?_⟩
  obtain ⟨cur2, hcur2⟩ := h3.typed q hq
  exact ⟨h5 q hq, cells_apart hcur2 h1 (by decide), cells_apart hcur2 hcur (by decide)⟩
/-- Its box is written anew. -/
theorem DevAt.box {d' : DvP} {v1 v2 : Value} (h : DevAt W w S g d) (hc : Chg (fun k => k = g) w w') (hb : CellsAt w' g #[v1, v2, .int .i64 (d'.ops : Nat), .bool d'.armed, .int .i64 d'.left, .bool d'.down] 67)
    (h1 : OwnK 73 64 W w v1 (blL d')) (h2 : OwnK 75 129 W w v2 (rowL d')) (s1 : ∀ b, v1.ownBlock = some b → S b ∧ b ≠ g) (s2 : ∀ b, v2.ownBlock = some b → S b ∧ b ≠ g) (hok : DvOk d') : DevAt W w' S g d' := by
  have hl : Later W w' := hc.low h.base fun k hk => by rw [hk]; exact (h.low g h.mem).1
  exact ⟨⟨v1, v2, hb, h1.chg hc (fun b hb => (s1 b hb).2) hl, h2.chg hc (fun b hb => (s2 b hb).2) hl, fun b hb => (s1 b hb).1, fun b hb => (s2 b hb).1⟩, hok, h.mem, fun k hk => ⟨(h.low k hk).1, Nat.lt_of_lt_of_le (h.low k hk).2 hc.size⟩, hl⟩
theorem chg_set (w : World) (g i : Nat) (v : Value) : Chg (fun k => k = g) w (w.setCell ⟨g, i, none⟩ v) := sets_chg [v] w i
theorem CellsAt.set1 {cur : Array Value} {T : TypeId} (h : CellsAt w g cur T) (i : Nat) (v : Value) : CellsAt (w.setCell ⟨g, i, none⟩ v) g (cur.setIfInBounds i v) T := heap_setCell_same w g i cur T v h
theorem chg_one {P : Nat → Prop} (h : Chg (fun k => k = g) w w') (hg : P g) : Chg P w w' := h.mono fun k hk => .inl (by rw [hk]; exact hg)
end

end Go.Proofs.Ytknjkkdoeanhbaa
