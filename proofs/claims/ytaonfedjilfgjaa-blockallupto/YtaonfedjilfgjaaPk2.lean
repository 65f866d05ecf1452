import Derived.Test.YtaonfedjilfgjaaRows
import Derived.Test.YtaonfedjilfgjaaChecked
import Derived.Test.YtaonfedjilfgjaaPk1
import Derived.ProofKit
import Derived.OpenShut
import Derived.SizedLaws
import Derived.SliceStrings
import Derived.Deep.MidRow
import Derived.Lib.AppendIntMem
import Derived.Lib.Hide

/-
  Bytes that come in: from what is read as data to what the calls ask.
-/
namespace Go.Proofs.Ytaonfedjilfgjaa
open Go.ChangeShapes Go.WideShapes Go.ChangeAt Go.RowKit

theorem Try.cells5_9 : Try.prog.cellsOf 5 = 1 := by kernel_rfl
/-- Bytes that came in, nil or not. -/
theorem came_bytes {H : Type} {enc : TypeId × Value → H} {W : World} {v : Value} {fuel : Nat} {x : DataW H × List MemPlace}
    (hf : DataW.trod enc Try.prog W 0 (fun _ => true) true fuel 33 [v] = some x) : ∃ (A : Option Addr) (n c : Nat) (bs : Bs), v = .slice A n c ∧ n ≤ c ∧ (A = none → c = 0) ∧ BsAt W A n bs := by
  rcases open_ints Try.underlying33 Try.underlying5 Try.cells5_9 hf with ⟨hcs, hx⟩ | ⟨a, len, cap, zs, hcs, _, hl, hm, hz, hx, hcell, hwf⟩
  · simp at hcs
    exact ⟨none, 0, 0, [], hcs, Nat.le_refl _, fun _ => rfl, BsAt.none _ _⟩
  · simp at hcs
    simp only [if_true] at hz
    obtain ⟨b, off, spot⟩ := a
    refine ⟨_, len, cap, (zs.take len).map fun z => UInt8.ofNat z.toNat, hcs, hl, (fun e => by cases e), ⟨by rw [List.length_map, List.length_take]; omega, fun h0 => ?_⟩⟩
    have hspot : spot = none := by simpa [Addr.add] using World.cell?_spot (hcell 0 (by omega))
    subst hspot
    refine ⟨b, off, rfl, fun j x hj => ?_⟩
    rw [List.getElem?_map] at hj
    obtain ⟨z, hzj, rfl⟩ := Option.map_eq_some_iff.1 hj
    have hjl : j < len := by
      have := (List.getElem?_eq_some_iff.1 hzj).1
      rw [List.length_take] at this; omega
    rw [List.getElem?_take_of_lt hjl] at hzj
    have hw := hwf z (List.mem_of_getElem? hzj)
    have h256 : 0 ≤ z ∧ z ≤ 255 := by
      simp only [Lit.wf, Bool.and_eq_true, decide_eq_true_eq] at hw
      exact hw
    have hc := hcell j (by omega)
    rw [plain_add] at hc
    rw [hc]
    have e1 : zs.getD j 0 = z := by simp [List.getD, hzj]
    rw [e1]
    have e2 : ((UInt8.ofNat z.toNat).toNat : Int) = z := by
      rw [UInt8.toNat_ofNat']
      omega
    rw [e2]

end Go.Proofs.Ytaonfedjilfgjaa

/-
  Rows of structures in memory, each of k cells: what a slice of them reads as, and one of the call's own that grows by append.
-/
namespace Go.Proofs.Ytaonfedjilfgjaa
open Go.RowKit

theorem flat_at {α : Type} {k : Nat} : ∀ {css : List (List α)}, (∀ cs ∈ css, cs.length = k) → ∀ {j i : Nat} {cs : List α}, css[j]? = some cs → i < k → css.flatten[j * k + i]? = cs[i]?
  | [], _, _, _, _, h, _ => by simp at h
  | c :: css, hk, 0, i, cs, h, hi => by
    simp at h; subst h
    rw [Nat.zero_mul, Nat.zero_add, List.flatten_cons, List.getElem?_append_left (by rw [hk _ List.mem_cons_self]; exact hi)]
  | c :: css, hk, j + 1, i, cs, h, hi => by
    have hc := hk _ (List.mem_cons_self (a := c) (l := css))
    rw [List.flatten_cons, List.getElem?_append_right (by rw [hc, Nat.add_mul]; omega), hc, show (j + 1) * k + i - k = j * k + i from by rw [Nat.add_mul]; omega]
    exact flat_at (fun cs hcs => hk cs (List.mem_cons_of_mem _ hcs)) (by simpa using h) hi
theorem flat_length {α : Type} {k : Nat} : ∀ {css : List (List α)}, (∀ cs ∈ css, cs.length = k) → css.flatten.length = css.length * k
  | [], _ => by simp
  | c :: css, hk => by
    rw [List.flatten_cons, List.length_append, hk _ List.mem_cons_self, flat_length (fun cs hcs => hk cs (List.mem_cons_of_mem _ hcs)), List.length_cons, Nat.add_mul]; omega

/-- The slice at A of n elements, of k cells each, holds the cells css. -/
def RowK (k : Nat) (w : World) (A : Option Addr) (n : Nat) (css : List (List Value)) : Prop :=
  css.length = n ∧ (∀ cs ∈ css, cs.length = k) ∧ (0 < n → ∃ b o, A = some ⟨b, o, none⟩ ∧ ∀ (j i : Nat) cs v, css[j]? = some cs → cs[i]? = some v → w.cell? ⟨b, o + j * k + i, none⟩ = some v)

section
variable {k n : Nat} {w w' : World} {A : Option Addr} {css : List (List Value)}

theorem RowK.len (h : RowK k w A n css) : css.length = n := h.1
theorem RowK.none : RowK k w A 0 [] := ⟨rfl, (fun _ h => by cases h), fun h => absurd h (by omega)⟩
theorem RowK.later (h : RowK k w A n css) (hl : Later w w') : RowK k w' A n css :=
  ⟨h.1, h.2.1, fun hn => by
    obtain ⟨b, o, e, hc⟩ := h.2.2 hn
    exact ⟨b, o, e, fun j i cs v h1 h2 => hl.cell (hc j i cs v h1 h2)⟩⟩
/-- The place of an element, and its cells. -/
theorem RowK.get (h : RowK k w A n css) {j : Nat} (hj : j < n) : ∃ b o, A = some ⟨b, o, .none⟩ ∧ ∃ cs, css[j]? = some cs ∧ cs.length = k ∧ ∀ (i : Nat) v, cs[i]? = some v → w.cell? ⟨b, o + j * k + i, .none⟩ = some v := by
  obtain ⟨b, o, e, hc⟩ := h.2.2 (by omega)
  have hl : j < css.length := by rw [h.1]; exact hj
  exact ⟨b, o, e, css[j], List.getElem?_eq_getElem hl, h.2.1 _ (List.getElem_mem hl), fun i v hi => hc j i _ v (List.getElem?_eq_getElem hl) hi⟩
end

/-- The value v is a row of the call's own (what it made since w0) of k cells an element. -/
def OwnK (e : TypeId) (k : Nat) (w0 w : World) (v : Value) (css : List (List Value)) : Prop :=
  w.ownsRow w0.heap.size e k v css.length css.flatten ∧ (∀ cs ∈ css, cs.length = k) ∧ Later w0 w

section
variable {e : TypeId} {k : Nat} {w0 w : World} {v : Value} {css : List (List Value)}

theorem OwnK.later (h : OwnK e k w0 w v css) : Later w0 w := h.2.2
theorem OwnK.nil (h : Later w0 w) : OwnK e k w0 w (.slice none 0 0) [] := ⟨World.ownsRow_nil _ _ _ _, (fun _ h => by cases h), h⟩
theorem OwnK.alloc (h : OwnK e k w0 w v css) (o : Obj) : OwnK e k w0 (w.alloc o) v css := ⟨h.1.alloc o, h.2.1, h.2.2.alloc o⟩
theorem OwnK.drew (h : OwnK e k w0 w v css) : OwnK e k w0 w.drew v css := ⟨h.1, h.2.1, h.2.2.drew⟩
theorem OwnK.drewN (h : OwnK e k w0 w v css) (n : Nat) : OwnK e k w0 (w.drewN n) v css := ⟨h.1, h.2.1, h.2.2.drewN n⟩
/-- Nothing that is there has turned since. -/
theorem OwnK.on {w' : World} (h : OwnK e k w0 w v css) (hl : Later w w') : OwnK e k w0 w' v css :=
  ⟨h.1.kept (row := none) ⟨hl.os, hl.tape, hl.output, hl.size, fun i hi _ => hl.block i hi⟩ (by cases v.ownBlock <;> simp), h.2.1, h.2.2.trans hl⟩
theorem OwnK.row (h : OwnK e k w0 w v css) : ∃ A c, v = .slice A css.length c ∧ css.length ≤ c ∧ RowK k w A css.length css := by
  rcases h.1.2 with ⟨hv, h0⟩ | ⟨g, cap, cur, hv, hg, hh, hnc, hm, hs, ht⟩
  · have : css = [] := List.eq_nil_of_length_eq_zero h0
    subst this
    exact ⟨none, 0, hv, Nat.le_refl _, RowK.none⟩
  · refine ⟨some ⟨g, 0, none⟩, cap, hv, hnc, rfl, h.2.1, fun _ => ⟨g, 0, rfl, fun j i cs u hj hi => ?_⟩⟩
    have hik : i < k := by rw [← h.2.1 cs (List.mem_of_getElem? hj)]; exact (List.getElem?_eq_some_iff.1 hi).1
    have hc := h.1.cells (g := g) (by rw [hv]; rfl) (j * k + i) u (by rw [flat_at h.2.1 hj hik]; exact hi)
    rw [plain_add] at hc
    rw [Nat.zero_add] at hc ⊢
    exact hc
theorem OwnK.block (h : OwnK e k w0 w v css) : ∀ b, v.ownBlock = some b → w0.heap.size ≤ b := fun b hb => (h.1.lt b hb).1
end

section
variable {P : Program} {w0 w : World} {e : TypeId} {k : Nat} {v : Value} {olds : List (List Value)}

theorem run_append_rowK (t ty : TypeId) (i : TypeInfo) (z : Value) (bytes : Nat) (ht : P.underlying t = some (.slice e)) (hi : P.info? e = some i) (hz : i.zero = some z) (hsize : i.size = k) (hby : i.bytes = bytes) (hzs : z.cells.size = k) (hk : 0 < k)
    (hown : OwnK e k w0 w v olds) (A : Option Addr) (m c : Nat) (news : List (List Value)) (hr : RowK k w A m news) (hone : ∀ cs ∈ news, ∀ u ∈ cs, u.oneCell' = true) (hb : olds.length + m ≤ 1000000) (hbb : bytes ≤ 1000) :
    ∃ v' w', (Builtin.append_ #[t, t] ty #[v, .slice A m c]).run P w = .ok v' w' ∧ OwnK e k w0 w' v' (olds ++ news) ∧ w.grownBy w' v.ownBlock := by
  have hl := hr.len
  have hbig : (olds.length + m) * bytes ≤ 140737488355328 := Nat.le_trans (Nat.mul_le_mul hb hbb) (by omega)
  rcases Nat.eq_zero_or_pos m with h0 | h0
  · subst h0
    have hn : news = [] := List.eq_nil_of_length_eq_zero hl
    subst hn
    rw [List.append_nil]
    rcases A with _ | ad
    · refine ⟨v, w, ?_, hown, ⟨rfl, rfl, rfl, Nat.le_refl _, fun _ _ _ => rfl⟩⟩
      rcases hown.1.2 with ⟨rfl, _⟩ | ⟨g, cap, cur, rfl, _, _, hnc, _⟩
      · simp [Builtin.append_, run_underlying ht, sizeOf, typeInfo, hi, Builtin.lenOf, Builtin.firstCells]
      · simp [Builtin.append_, run_underlying ht, sizeOf, typeInfo, hi, Builtin.lenOf, Builtin.firstCells, hnc, storeCells]
    · obtain ⟨v', w', hrun, h2, h3, _, _⟩ := run_append_own_at (P := P) w w0.heap.size t ty e i z k bytes ht hi hz hsize hby hzs hk v olds.length olds.flatten hown.1 ad 0 c [] (by simp)
        (fun j u hu => by simp at hu) (fun u hu => by simp at hu) (by simp only [maxLen]; omega) hbig hown.2.2.size
      refine ⟨v', w', hrun, ⟨by simpa using h2, hown.2.1, Below.grown hown.2.2 h3 hown.2.2.size hown.block⟩, h3⟩
  · obtain ⟨b, o, rfl, hc⟩ := hr.2.2 h0
    obtain ⟨v', w', hrun, h2, h3, _, _⟩ := run_append_own_at (P := P) w w0.heap.size t ty e i z k bytes ht hi hz hsize hby hzs hk v olds.length olds.flatten hown.1 ⟨b, o, none⟩ m c news.flatten
      (by rw [flat_length hr.2.1, hl])
      (fun j u hu => by
        have hjl := (List.getElem?_eq_some_iff.1 hu).1
        rw [flat_length hr.2.1] at hjl
        have hq : j / k < news.length := (Nat.div_lt_iff_lt_mul hk).2 hjl
        have hjk : j / k * k + j % k = j := by rw [Nat.mul_comm]; exact Nat.div_add_mod j k
        have hat := flat_at (i := j % k) hr.2.1 (List.getElem?_eq_getElem hq) (Nat.mod_lt _ hk)
        rw [hjk, hu] at hat
        have := hc (j / k) (j % k) _ u (List.getElem?_eq_getElem hq) hat.symm
        rw [plain_add, ← hjk, ← Nat.add_assoc]
        exact this)
      (fun u hu => by
        obtain ⟨cs, hcs, hu⟩ := List.mem_flatten.1 hu
        exact hone cs hcs u hu)
      (by simp only [maxLen]; omega) hbig hown.2.2.size
    refine ⟨v', w', hrun, ⟨?_, fun cs hcs => ?_, Below.grown hown.2.2 h3 hown.2.2.size hown.block⟩, h3⟩
    · rw [List.length_append, List.flatten_append, hl]
      exact h2
    · rcases List.mem_append.1 hcs with h | h
      · exact hown.2.1 cs h
      · exact hr.2.1 cs h

/-- append onto a row of the call's own, whatever the source. -/
theorem wpList_append_rowK {ops : Array Oper} {rest : List Oper} {o : Oper} {a : Act} {Q : Exit → Act → World → Prop} (hgd : o.guard = none) (s x : Operand) (t : TypeId)
    (ho : o.op = .call { callee := .builtin .append, args := #[s, x], argTypes := #[t, t] }) (i : TypeInfo) (z : Value) (bytes : Nat)
    (ht : P.underlying t = some (.slice e)) (hi : P.info? e = some i) (hz : i.zero = some z) (hsize : i.size = k) (hby : i.bytes = bytes) (hzs : z.cells.size = k) (hk : 0 < k)
    (hown : OwnK e k w0 w v olds) (hs : a.eval s = v) (A : Option Addr) (m c : Nat) (news : List (List Value)) (hx : a.eval x = .slice A m c) (hr : RowK k w A m news) (hone : ∀ cs ∈ news, ∀ u ∈ cs, u.oneCell' = true) (hb : olds.length + m ≤ 1000000) (hbb : bytes ≤ 1000)
    (h : ∀ v' w', OwnK e k w0 w' v' (olds ++ news) → w.grownBy w' v.ownBlock → wpList P ops Q rest (a.put o.dst v') w') : wpList P ops Q (o :: rest) a w := by
  refine wpList_plain hgd fun K hK => ?_
  obtain ⟨v', w', hrun, h2, h3⟩ := run_append_rowK (P := P) t o.type i z bytes ht hi hz hsize hby hzs hk hown A m c news hr hone hb hbb
  unfold Oper.wp execOp
  simp only [ho, resolve, invoke, builtin, Sem.run_bind, Sem.run_pure, Result.andThen_ok, List.map_toArray, List.map_cons, List.map_nil, hs, hx, hrun]
  exact hK _ _ (h v' w' h2 h3)
end

/-- A new row of one element. -/
theorem RowK.one (w : World) (cs : List Value) (t : TypeId) : RowK cs.length (w.alloc (.cells cs.toArray t)) (some ⟨w.heap.size, 0, .none⟩) 1 [cs] := by
  refine ⟨rfl, fun c hc => by simp at hc; rw [hc], fun _ => ⟨_, _, rfl, fun j i c v hj hi => ?_⟩⟩
  match j, hj with
  | 0, hj =>
    simp at hj; subst hj
    have hb : (w.alloc (.cells cs.toArray t)).heap[w.heap.size]? = some (.cells cs.toArray t (0, 0)) := heap_alloc_new w _
    simp only [World.cell?, hb, Nat.zero_mul, Nat.zero_add]
    simpa using hi

end Go.Proofs.Ytaonfedjilfgjaa

/-
  A device that forgets, plain: its blocks, its row of writes; what each call makes of it.
-/
namespace Go.Proofs.Ytaonfedjilfgjaa

/-- A write of the row: its block, what that had, what it has. -/
structure WrP where
  pl : Nat
  was : Bs
  is : Bs
/-- A device. -/
structure DvP where
  bl : List Bs
  row : List WrP
  ops : Nat
  armed : Bool
  left : Int
  down : Bool
def zeros (n : Nat) : Bs := List.replicate n 0
theorem zeros_length (n : Nat) : (zeros n).length = n := by simp [zeros]
/-- Bytes, and zeros behind them. -/
def fillB (b : Bs) : Bs := b ++ zeros (64 - b.length)
theorem fillB_length {b : Bs} (h : b.length ≤ 64) : (fillB b).length = 64 := by simp [fillB, zeros]; omega
structure DvOk (d : DvP) : Prop where
  one : 1 ≤ d.bl.length
  most : d.bl.length ≤ 4096
  size : ∀ b ∈ d.bl, b.length = 64
  row : ∀ x ∈ d.row, x.pl < d.bl.length ∧ x.was.length = 64 ∧ x.is.length = 64
  lo : -9223372036854775808 ≤ d.left
  hi : d.left ≤ 9223372036854775807
  arm : d.armed = true → 0 ≤ d.left
def newP (n : Nat) : DvP := ⟨List.replicate n (zeros 64), [], 0, false, 0, false⟩
theorem newP_ok {n : Nat} (h1 : 1 ≤ n) (h2 : n ≤ 4096) : DvOk (newP n) :=
  ⟨by simpa [newP] using h1, by simpa [newP] using h2, (fun b hb => by
    obtain ⟨_, rfl⟩ := List.mem_replicate.1 hb
    exact zeros_length 64), (fun x hx => by cases hx), (by show (-9223372036854775808 : Int) ≤ 0; omega), (by show (0 : Int) ≤ 9223372036854775807; omega), fun h => by cases h⟩
/-- How many blocks there are. -/
def countN (count : Int) : Nat := (max 1 (min count 4096)).toNat
theorem countN_lo (c : Int) : 1 ≤ countN c := by unfold countN; omega
theorem countN_hi (c : Int) : countN c ≤ 4096 := by unfold countN; omega
/-- An op more. -/
def opP (d : DvP) : DvP := if d.armed = true then (if d.left = 0 then { d with ops := d.ops + 1, down := true } else { d with ops := d.ops + 1, left := d.left - 1 }) else { d with ops := d.ops + 1 }
/-- What it tells. -/
def opE (d : DvP) : Int := if d.armed = true ∧ d.left = 0 then 100 else 0
theorem opP_ok {d : DvP} (h : DvOk d) : DvOk (opP d) := by
  obtain ⟨h1, h2, h3, h4, h5, h6, h7⟩ := h
  unfold opP
  by_cases ha : d.armed = true
  · rw [if_pos ha]
    have := h7 ha
    by_cases hl : d.left = 0
    · rw [if_pos hl]; exact ⟨h1, h2, h3, h4, h5, h6, h7⟩
    · rw [if_neg hl]; exact ⟨h1, h2, h3, h4, (by show _ ≤ d.left - 1; omega), (by show d.left - 1 ≤ _; omega), fun _ => by show 0 ≤ d.left - 1; omega⟩
  · rw [if_neg ha]; exact ⟨h1, h2, h3, h4, h5, h6, h7⟩
/-- The block is written, and the row has the write. -/
def putP (d : DvP) (k : Nat) (b : Bs) : DvP := { d with bl := d.bl.set k (fillB b), row := d.row ++ [⟨k, d.bl.getD k [], fillB b⟩] }
theorem putP_ok {d : DvP} (h : DvOk d) {k : Nat} (hk : k < d.bl.length) {b : Bs} (hb : b.length ≤ 64) : DvOk (putP d k b) := by
  obtain ⟨h1, h2, h3, h4, h5, h6, h7⟩ := h
  refine ⟨by simpa [putP] using h1, by simpa [putP] using h2, fun x hx => ?_, fun x hx => ?_, h5, h6, h7⟩
  · rcases List.mem_or_eq_of_mem_set hx with hx | rfl
    · exact h3 x hx
    · exact fillB_length hb
  · simp only [putP, List.length_set]
    rcases List.mem_append.1 hx with hx | hx
    · exact h4 x hx
    · simp only [List.mem_singleton] at hx
      subst hx
      refine ⟨hk, ?_, fillB_length hb⟩
      simp only [List.getD, List.getElem?_eq_getElem hk, Option.getD_some]
      exact h3 _ (List.getElem_mem hk)
def writeP (d : DvP) (k : Int) (b : Bs) : DvP × Int :=
  if d.down = true then (d, 100) else if k < 0 ∨ (d.bl.length : Int) ≤ k ∨ 64 < b.length then (d, 101) else (opP (putP d k.toNat b), opE d)
theorem writeP_ok {d : DvP} (h : DvOk d) (k : Int) (b : Bs) : DvOk (writeP d k b).1 := by
  unfold writeP
  split
  · exact h
  · split
    · exact h
    · rename_i h1 h2
      exact opP_ok (putP_ok h (by omega) (by omega))
def flushP (d : DvP) : DvP × Int :=
  if d.down = true then (d, 100) else if d.armed = true ∧ d.left = 0 then (opP d, 100) else ({ opP d with row := [] }, 0)
theorem flushP_ok {d : DvP} (h : DvOk d) : DvOk (flushP d).1 := by
  unfold flushP
  split
  · exact h
  · split
    · exact opP_ok h
    · obtain ⟨h1, h2, h3, h4, h5, h6, h7⟩ := opP_ok h
      exact ⟨h1, h2, h3, (fun x hx => by cases hx), h5, h6, h7⟩
def armP (d : DvP) (n : Int) : DvP := { d with armed := decide (0 ≤ n), left := n }
theorem armP_ok {d : DvP} (h : DvOk d) {n : Int} (h0 : -9223372036854775808 ≤ n) (h1 : n ≤ 9223372036854775807) : DvOk (armP d n) :=
  ⟨h.one, h.most, h.size, h.row, h0, h1, fun e => of_decide_eq_true e⟩
/-- The blocks as they were flushed. -/
def backP (bl : List Bs) : List WrP → List Bs
  | [] => bl
  | x :: row => (backP bl row).set x.pl x.was
/-- What a form of a write leaves on what its block has by now. -/
def mixB (form : Nat) (now is : Bs) : Bs :=
  if form = 1 then is else if form = 2 then is.take 32 ++ now.drop 32 else if form = 3 then now.take 32 ++ is.drop 32 else now
theorem mixB_length {f : Nat} {a b : Bs} (ha : a.length = 64) (hb : b.length = 64) : (mixB f a b).length = 64 := by
  unfold mixB
  split
  · exact hb
  · split
    · simp [ha, hb]
    · split
      · simp [ha, hb]
      · exact ha
def takeB (bl : List Bs) (x : WrP) (form : Nat) : List Bs := bl.set x.pl (mixB form (bl.getD x.pl []) x.is)
def formB (forms : List Int) (k : Nat) : Nat := if forms = [] then 0 else (max 0 (forms.getD (k % forms.length) 0)).toNat % 4
theorem formB_lt (f : List Int) (k : Nat) : formB f k < 4 := by unfold formB; split <;> omega
/-- The writes take their forms, from the k-th on. -/
def formsP (forms : List Int) : Nat → List WrP → List Bs → List Bs
  | _, [], bl => bl
  | k, x :: row, bl => formsP forms (k + 1) row (takeB bl x (formB forms k))
def crashP (d : DvP) (forms : List Int) : DvP := { d with bl := formsP forms 0 d.row (backP d.bl d.row), row := [], armed := false, down := false }
section
variable {bl : List Bs} {row : List WrP}
theorem backP_length : ∀ (row : List WrP), (backP bl row).length = bl.length
  | [] => rfl
  | x :: row => by simp [backP, backP_length row]
theorem backP_size (h : ∀ b ∈ bl, b.length = 64) : ∀ {row : List WrP}, (∀ x ∈ row, x.was.length = 64) → ∀ b ∈ backP bl row, b.length = 64
  | [], _, b, hb => h b hb
  | x :: row, hr, b, hb => by
    rcases List.mem_or_eq_of_mem_set hb with hb | rfl
    · exact backP_size h (fun y hy => hr y (List.mem_cons_of_mem _ hy)) b hb
    · exact hr x List.mem_cons_self
theorem takeB_length (x : WrP) (f : Nat) : (takeB bl x f).length = bl.length := by simp [takeB]
theorem takeB_size (h : ∀ b ∈ bl, b.length = 64) {x : WrP} (hx : x.pl < bl.length ∧ x.is.length = 64) (f : Nat) : ∀ b ∈ takeB bl x f, b.length = 64 := fun b hb => by
  rcases List.mem_or_eq_of_mem_set hb with hb | rfl
  · exact h b hb
  · refine mixB_length ?_ hx.2
    simp only [List.getD, List.getElem?_eq_getElem hx.1, Option.getD_some]
    exact h _ (List.getElem_mem hx.1)
theorem formsP_length (forms : List Int) : ∀ (row : List WrP) (k : Nat) (bl : List Bs), (formsP forms k row bl).length = bl.length
  | [], _, _ => rfl
  | x :: row, k, bl => by rw [formsP, formsP_length forms row, takeB_length]
theorem formsP_size (forms : List Int) : ∀ (row : List WrP) (k : Nat) (bl : List Bs), (∀ b ∈ bl, b.length = 64) → (∀ x ∈ row, x.pl < bl.length ∧ x.is.length = 64) → ∀ b ∈ formsP forms k row bl, b.length = 64
  | [], _, _, h, _, b, hb => h b hb
  | x :: row, k, bl, h, hr, b, hb => formsP_size forms row (k + 1) _ (takeB_size h (hr x List.mem_cons_self) _) (fun y hy => by rw [takeB_length]; exact hr y (List.mem_cons_of_mem _ hy)) b hb
end
theorem crashP_ok {d : DvP} (h : DvOk d) (forms : List Int) : DvOk (crashP d forms) := by
  have hl : (crashP d forms).bl.length = d.bl.length := by
    show (formsP _ _ _ _).length = _
    rw [formsP_length, backP_length]
  refine ⟨by rw [hl]; exact h.one, by rw [hl]; exact h.most, ?_, (fun x hx => by cases hx), h.lo, h.hi, fun e => by cases e⟩
  exact formsP_size forms _ _ _ (backP_size h.size fun x hx => (h.row x hx).2.1) (fun x hx => by rw [backP_length]; exact ⟨(h.row x hx).1, (h.row x hx).2.2⟩)
/-- The bytes of all blocks. -/
def imageP (d : DvP) : Bs := d.bl.flatten

end Go.Proofs.Ytaonfedjilfgjaa

/-
  A device in memory: its box, its blocks and its row, both rows of its own; what may turn beside it.
-/
namespace Go.Proofs.Ytaonfedjilfgjaa
open Go.RowKit

/-- Of what was there blocks of S alone have turned. -/
structure Chg (S : Nat → Prop) (w w' : World) : Prop where
  os : w'.os = w.os
  tape : w'.tape = w.tape
  output : w'.output = w.output
  size : w.heap.size ≤ w'.heap.size
  block : ∀ k, k < w.heap.size → ¬ S k → w'.heap[k]? = w.heap[k]?
section
variable {S S' : Nat → Prop} {w w' w'' W : World} {g b o n c k : Nat} {v : Value} {T e : TypeId} {cs vs : List Value} {css : List (List Value)} {cur : Array Value} {a : Addr} {A : Option Addr}
theorem Chg.later (h : Later w w') : Chg S w w' := ⟨h.os, h.tape, h.output, h.size, fun k hk _ => h.block k hk⟩
theorem Chg.refl (S : Nat → Prop) (w : World) : Chg S w w := Chg.later (Later.refl w)
theorem Chg.trans (h : Chg S w w') (k : Chg S' w' w'') (hs : ∀ g, S' g → S g ∨ w.heap.size ≤ g) : Chg S w w'' :=
  ⟨k.os.trans h.os, k.tape.trans h.tape, k.output.trans h.output, Nat.le_trans h.size k.size, fun i hi hn => by
    rw [k.block i (Nat.lt_of_lt_of_le hi h.size) (fun e => (hs i e).elim hn (fun h => by omega)), h.block i hi hn]⟩
theorem Chg.then (h : Chg S w w') (k : Later w' w'') : Chg S w w'' := h.trans (S' := fun _ => False) (Chg.later k) fun _ e => e.elim
theorem Chg.mono (h : Chg S w w') (hs : ∀ g, S g → S' g ∨ w.heap.size ≤ g) : Chg S' w w' := ⟨h.os, h.tape, h.output, h.size, fun i hi hn => h.block i hi fun e => (hs i e).elim hn (fun h => by omega)⟩
/-- What lay there before has not turned. -/
theorem Chg.low (h : Chg S w w') (hl : Later W w) (hs : ∀ g, S g → W.heap.size ≤ g) : Later W w' :=
  ⟨h.os.trans hl.os, h.tape.trans hl.tape, h.output.trans hl.output, Nat.le_trans hl.le h.size, fun i hi => by
    rw [h.block i (Nat.lt_of_lt_of_le hi hl.le) (fun e => by have := hs i e; omega), hl.block i hi]⟩
theorem Chg.cell {u : Value} (h : Chg S w w') (hc : w.cell? a = some u) (hn : ¬ S a.block) : w'.cell? a = some u :=
  (World.cell?_of_block (h.block a.block (lt_of_cell hc) hn)).trans hc
theorem Chg.grown (h : w.grownBy w' v.ownBlock) (hs : ∀ b, v.ownBlock = some b → S b ∨ w.heap.size ≤ b) : Chg S w w' :=
  ⟨h.os, h.tape, h.output, h.size, fun i hi hn => h.block i hi fun e => (hs i e.symm).elim hn (fun h => by omega)⟩
/-- Block g is made of these cells. -/
def CellsAt (w : World) (g : Nat) (cs : Array Value) (t : TypeId) : Prop := w.heap[g]? = some (.cells cs t (0, 0))
theorem CellsAt.lt (h : CellsAt w g cur T) : g < w.heap.size := (Array.getElem?_eq_some_iff.1 h).1
theorem CellsAt.later (h : CellsAt w g cur T) (hl : Later w w') : CellsAt w' g cur T := (hl.block g h.lt).trans h
theorem CellsAt.chg (h : CellsAt w g cur T) (hc : Chg S w w') (hn : ¬ S g) : CellsAt w' g cur T := (hc.block g h.lt hn).trans h
theorem CellsAt.cell (h : CellsAt w g cur T) {i : Nat} {v : Value} (hv : cur[i]? = some v) : w.cell? ⟨g, i, none⟩ = some v := by
  unfold CellsAt at h
  simp only [World.cell?, h]
  exact hv
theorem CellsAt.frozen (h : CellsAt w g cur T) (i : Nat) : w.frozen? ⟨g, i, none⟩ = false := frozen_of_row w g i cur T h
theorem CellsAt.made (w : World) (cs : Array Value) (t : TypeId) : CellsAt (w.alloc (.cells cs t)) w.heap.size cs t := heap_alloc_new w _
theorem CellsAt.there (h : CellsAt w g cur T) (hn : o + n ≤ cur.size) : w.there g o n := fun j hj => ⟨by rw [h.cell (Array.getElem?_eq_getElem (show o + j < cur.size by omega))]; rfl, h.frozen _⟩
theorem CellsAt.range (h : CellsAt w g cur T) (hc : ∀ j u, cs[j]? = some u → cur[o + j]? = some u) : w.rangeAt g o cs := fun j u hj => h.cell (hc j u hj)
/-- A block behind cells that were set. -/
def setRun (cur : Array Value) : Nat → List Value → Array Value
  | _, [] => cur
  | o, v :: r => setRun (cur.setIfInBounds o v) (o + 1) r
theorem setRun_size : ∀ (vs : List Value) (cur : Array Value) (o : Nat), (setRun cur o vs).size = cur.size
  | [], _, _ => rfl
  | v :: r, cur, o => by rw [setRun, setRun_size r]; simp
theorem setRun_out : ∀ (vs : List Value) (cur : Array Value) (o j : Nat), j < o ∨ o + vs.length ≤ j → (setRun cur o vs)[j]? = cur[j]?
  | [], _, _, _, _ => rfl
  | v :: r, cur, o, j, h => by
    rw [setRun, setRun_out r _ _ _ (by simp at h; omega), Array.getElem?_setIfInBounds_ne (by simp at h; omega)]
theorem setRun_in : ∀ (vs : List Value) (cur : Array Value) (o j : Nat) (u : Value), vs[j]? = some u → o + vs.length ≤ cur.size → (setRun cur o vs)[o + j]? = some u
  | [], _, _, _, _, h, _ => by simp at h
  | v :: r, cur, o, 0, u, h, hs => by
    simp at h hs; subst h
    rw [setRun, setRun_out r _ _ _ (.inl (by omega))]
    rw [Nat.add_zero, Array.getElem?_setIfInBounds]
    simp; omega
  | v :: r, cur, o, j + 1, u, h, hs => by
    rw [setRun, show o + (j + 1) = o + 1 + j by omega]
    exact setRun_in r _ (o + 1) j u (by simpa using h) (by simp at hs ⊢; omega)
theorem CellsAt.sets : ∀ (vs : List Value) {o : Nat} {w : World} {cur : Array Value}, CellsAt w g cur T → CellsAt (w.setCells g o vs) g (setRun cur o vs) T
  | [], _, _, _, h => h
  | v :: r, o, w, cur, h => CellsAt.sets r (show CellsAt (w.setCell ⟨g, o, none⟩ v) g _ T from heap_setCell_same w g o cur T v h)
theorem sets_chg : ∀ (vs : List Value) (w : World) (o : Nat), Chg (fun k => k = g) w (w.setCells g o vs)
  | [], w, _ => Chg.refl _ w
  | v :: r, w, o => by
    have h1 : Chg (fun k => k = g) w (w.setCell ⟨g, o, none⟩ v) := ⟨rfl, rfl, rfl, by simp [World.setCell], fun k _ hk => heap_setCell_other w _ k v hk⟩
    exact h1.trans (sets_chg r _ (o + 1)) fun k hk => .inl hk
/-! ### Rows of the call's own -/
theorem OwnK.chg {W : World} (h : OwnK e k W w v css) (hc : Chg S w w') (hv : ∀ b, v.ownBlock = some b → ¬ S b) (hl : Later W w') : OwnK e k W w' v css := by
  refine ⟨⟨h.1.1, ?_⟩, h.2.1, hl⟩
  rcases h.1.2 with hn | ⟨g, cap, cur, rfl, hb, hg, rest⟩
  · exact .inl hn
  · refine .inr ⟨g, cap, cur, rfl, hb, ?_, rest⟩
    rw [hc.block g (Array.getElem?_eq_some_iff.1 hg).1 (hv g rfl)]
    exact hg
theorem OwnK.lt (h : OwnK e k W w v css) : ∀ b, v.ownBlock = some b → W.heap.size ≤ b ∧ b < w.heap.size := h.1.lt
theorem OwnK.typed (h : OwnK e k W w v css) : ∀ b, v.ownBlock = some b → ∃ cur, CellsAt w b cur e := fun b hb => by
  rcases h.1.2 with ⟨rfl, _⟩ | ⟨g, cap, cur, rfl, hbb, hg, rest⟩
  · cases hb
  · cases hb
    exact ⟨cur, hg⟩
theorem OwnK.block_ (h : OwnK e k W w (.slice A n c) css) (hne : css ≠ []) : ∃ b cur, A = some ⟨b, 0, .none⟩ ∧ n = css.length ∧ n ≤ c ∧ c ≤ maxLen ∧ CellsAt w b cur e ∧ cur.size = c * k ∧ cur.toList.take (n * k) = css.flatten := by
  rcases h.1.2 with ⟨_, h0⟩ | ⟨g, cap, cur, hv, hb, hh, hnc, hm, hs, ht⟩
  · exact absurd (List.eq_nil_of_length_eq_zero h0) hne
  · cases hv
    exact ⟨g, cur, rfl, rfl, hnc, hm, hh, hs, ht⟩
theorem OwnK.len (h : OwnK e k W w (.slice A n c) css) : n = css.length := by
  rcases h.1.2 with ⟨hv, h0⟩ | ⟨g, cap, cur, hv, _⟩
  · cases hv; exact h0.symm
  · cases hv; rfl
theorem flat_set {α : Type} {k : Nat} : ∀ {css : List (List α)}, (∀ cs ∈ css, cs.length = k) → ∀ {j : Nat} {cs : List α}, cs.length = k → j < css.length → ∀ i, (css.set j cs).flatten[i]? = if j * k ≤ i ∧ i < j * k + k then cs[i - j * k]? else css.flatten[i]?
  | [], _, _, _, _, hj, _ => absurd hj (Nat.not_lt_zero _)
  | c :: css, hk, 0, cs, hl, _, i => by
    have hc := hk c List.mem_cons_self
    rw [List.set_cons_zero, List.flatten_cons, List.flatten_cons]
    by_cases hi : i < k
    · rw [if_pos ⟨by omega, by omega⟩, List.getElem?_append_left (by omega)]
      simp
    · rw [if_neg (by omega), List.getElem?_append_right (by omega), List.getElem?_append_right (by omega), hl, hc]
  | c :: css, hk, j + 1, cs, hl, hj, i => by
    have hc := hk c List.mem_cons_self
    rw [List.set_cons_succ, List.flatten_cons, List.flatten_cons]
    have e : (j + 1) * k = j * k + k := by rw [Nat.add_mul]; omega
    by_cases hi : i < k
    · rw [List.getElem?_append_left (by omega), List.getElem?_append_left (by omega), if_neg (by omega)]
    · rw [List.getElem?_append_right (by omega), List.getElem?_append_right (by omega), flat_set (fun cs hcs => hk cs (List.mem_cons_of_mem _ hcs)) hl (by simpa using hj), hc, e]
      by_cases h2 : j * k + k ≤ i ∧ i < j * k + k + k
      · rw [if_pos h2, if_pos ⟨by omega, by omega⟩]
        congr 1
        omega
      · rw [if_neg h2, if_neg (by omega)]
/-- The cells of an element. -/
theorem OwnK.range (h : OwnK e k W w (.slice (some ⟨b, o, none⟩) n c) css) {j : Nat} {cs : List Value} (hj : css[j]? = some cs) : w.rangeAt b (j * k) cs := by
  have hne : css ≠ [] := by rintro rfl; simp at hj
  obtain ⟨b', cur, e1, hn, hnc, hm, hc, hs, ht⟩ := h.block_ hne
  cases e1
  intro i u hi
  have hik : i < k := by rw [← h.2.1 cs (List.mem_of_getElem? hj)]; exact (List.getElem?_eq_some_iff.1 hi).1
  have hf := flat_at h.2.1 hj hik
  rw [← ht, hi, List.getElem?_take] at hf
  split at hf
  · exact hc.cell (by simpa using hf)
  · cases hf
theorem OwnK.there (h : OwnK e k W w (.slice (some ⟨b, o, none⟩) n c) css) {j p q : Nat} (hj : j < css.length) (hp : p + q ≤ k) : w.there b (j * k + p) q := by
  have hne : css ≠ [] := by rintro rfl; simp at hj
  obtain ⟨b', cur, e1, hn, hnc, hm, hc, hs, ht⟩ := h.block_ hne
  cases e1
  refine hc.there ?_
  rw [hs]
  have : (j + 1) * k ≤ c * k := Nat.mul_le_mul_right k (by omega)
  rw [Nat.add_mul] at this
  omega
/-- Cells set within an element. -/
theorem OwnK.set (h : OwnK e k W w (.slice (some ⟨b, o, none⟩) n c) css) {j p : Nat} {vs cs cs' : List Value} (hj : css[j]? = some cs) (hp : p + vs.length ≤ k) (hl : cs'.length = k) (hin : ∀ i u, vs[i]? = some u → cs'[p + i]? = some u) (hout : ∀ i, i < p ∨ p + vs.length ≤ i → cs'[i]? = cs[i]?) :
    OwnK e k W (w.setCells b (j * k + p) vs) (.slice (some ⟨b, o, none⟩) n c) (css.set j cs') := by
  have hjl : j < css.length := (List.getElem?_eq_some_iff.1 hj).1
  have hne : css ≠ [] := by rintro rfl; simp at hj
  have hlow := h.lt b rfl
  have hW := h.2.2
  obtain ⟨b', cur, e1, hn, hnc, hm, hc, hs, ht⟩ := h.block_ hne
  cases e1
  have hcs := h.2.1 cs (List.mem_of_getElem? hj)
  have hkl : ∀ x ∈ css.set j cs', x.length = k := fun x hx => by
    rcases List.mem_or_eq_of_mem_set hx with hx | rfl
    · exact h.2.1 x hx
    · exact hl
  refine ⟨⟨by rw [flat_length hkl], .inr ⟨b, c, setRun cur (j * k + p) vs, by rw [List.length_set, hn], hlow.1, hc.sets vs, by simpa [← hn] using hnc, hm, by rw [setRun_size, hs], ?_⟩⟩, hkl, (sets_chg vs w _).low hW (fun g hg => by rw [hg]; exact hlow.1)⟩
  apply List.ext_getElem?
  intro i
  have e2 : j * k + k ≤ n * k := by
    have : (j + 1) * k ≤ n * k := Nat.mul_le_mul_right k (by omega)
    rw [Nat.add_mul] at this
    omega
  have e3 : n * k ≤ c * k := Nat.mul_le_mul_right k hnc
  rw [List.length_set, ← hn, List.getElem?_take, flat_set h.2.1 hl hjl, ← ht]
  by_cases hi : i < n * k
  · rw [if_pos hi, Array.getElem?_toList]
    by_cases h2 : j * k ≤ i ∧ i < j * k + k
    · rw [if_pos h2]
      by_cases h3 : j * k + p ≤ i ∧ i < j * k + p + vs.length
      · have hv : vs[i - (j * k + p)]? = some (vs[i - (j * k + p)]'(by omega)) := List.getElem?_eq_getElem _
        have := setRun_in vs cur (j * k + p) _ _ hv (by rw [hs]; omega)
        rw [show j * k + p + (i - (j * k + p)) = i by omega] at this
        rw [this]
        have := hin _ _ hv
        rw [show p + (i - (j * k + p)) = i - j * k by omega] at this
        rw [this]
      · rw [setRun_out vs cur _ _ (by omega), hout _ (by omega)]
        have hik : i - j * k < k := by omega
        have := flat_at h.2.1 hj hik
        rw [show j * k + (i - j * k) = i by omega] at this
        rw [← this, ← ht, List.getElem?_take, if_pos hi, Array.getElem?_toList]
    · rw [if_neg h2, List.getElem?_take, if_pos hi, Array.getElem?_toList, setRun_out vs cur _ _ (by omega)]
  · rw [if_neg hi]
    by_cases h2 : j * k ≤ i ∧ i < j * k + k
    · omega
    · rw [if_neg h2, List.getElem?_take, if_neg hi]
theorem OwnK.setAll (h : OwnK e k W w (.slice (some ⟨b, o, none⟩) n c) css) {j : Nat} {vs : List Value} (hj : j < css.length) (hl : vs.length = k) :
    OwnK e k W (w.setCells b (j * k) vs) (.slice (some ⟨b, o, none⟩) n c) (css.set j vs) :=
  h.set (p := 0) (List.getElem?_eq_getElem hj) (by omega) hl (fun i u hi => by rw [Nat.zero_add]; exact hi) (fun i hi => by
    have := h.2.1 _ (List.getElem_mem hj)
    rw [List.getElem?_eq_none (by omega), List.getElem?_eq_none (by omega)])
end

/-! ### A device -/
/-- The cells of a write. -/
def wrL (x : WrP) : List Value := .int .i64 (x.pl : Nat) :: (Lib.byteCells x.was ++ Lib.byteCells x.is)
def blL (d : DvP) : List (List Value) := d.bl.map Lib.byteCells
def rowL (d : DvP) : List (List Value) := d.row.map wrL
theorem bc_len (b : Bs) : (Lib.byteCells b).length = b.length := by simp [Lib.byteCells]
theorem wrL_len {x : WrP} (h : x.was.length = 64 ∧ x.is.length = 64) : (wrL x).length = 129 := by simp [wrL, bc_len, h.1, h.2]
/-- A device: its box g, its blocks and its row; all of its blocks are of S; W: the world at the beginning. -/
structure DevAt (W w : World) (S : Nat → Prop) (g : Nat) (d : DvP) : Prop where
  own : ∃ v1 v2, CellsAt w g #[v1, v2, .int .i64 (d.ops : Nat), .bool d.armed, .int .i64 d.left, .bool d.down] 95 ∧ OwnK 101 64 W w v1 (blL d) ∧ OwnK 103 129 W w v2 (rowL d) ∧ (∀ b, v1.ownBlock = some b → S b) ∧ ∀ b, v2.ownBlock = some b → S b
  ok : DvOk d
  mem : S g
  low : ∀ k, S k → W.heap.size ≤ k ∧ k < w.heap.size
  base : Later W w
section
variable {W w w' : World} {S S' : Nat → Prop} {g : Nat} {d : DvP}
theorem DevAt.chg (h : DevAt W w S g d) (hc : Chg S' w w') (hs : ∀ k, S k → ¬ S' k) (hl : Later W w') : DevAt W w' S g d := by
  obtain ⟨⟨v1, v2, h1, h2, h3, h4, h5⟩, hok, hm, hlow, _⟩ := h
  exact ⟨⟨v1, v2, h1.chg hc (hs g hm), h2.chg hc (fun b hb => hs b (h4 b hb)) hl, h3.chg hc (fun b hb => hs b (h5 b hb)) hl, h4, h5⟩, hok, hm, fun k hk => ⟨(hlow k hk).1, Nat.lt_of_lt_of_le (hlow k hk).2 hc.size⟩, hl⟩
theorem DevAt.later (h : DevAt W w S g d) (hl : Later w w') : DevAt W w' S g d := h.chg (S' := fun _ => False) (Chg.later hl) (fun _ _ e => e) (h.base.trans hl)
/-- What is the device's own behind a call: as before, or new. -/
def Up (S S' : Nat → Prop) (w : World) : Prop := ∀ k, S' k → S k ∨ w.heap.size ≤ k
theorem bl_ne (h : DvOk d) : blL d ≠ [] := by
  intro e
  have := h.one
  have e2 := congrArg List.length e
  simp [blL] at e2
  rw [e2] at this
  simp at this
theorem cells_apart {b : Nat} {c1 c2 : Array Value} {T1 T2 : TypeId} (h1 : CellsAt w b c1 T1) (h2 : CellsAt w g c2 T2) (hT : T1 ≠ T2) : b ≠ g := by
  rintro rfl
  unfold CellsAt at h1 h2
  rw [h1] at h2
  simp at h2
  exact hT h2.2
/-- Its parts. -/
theorem DevAt.parts (h : DevAt W w S g d) : ∃ b c B m c2, CellsAt w g #[.slice (some ⟨b, 0, none⟩) d.bl.length c, .slice B m c2, .int .i64 (d.ops : Nat), .bool d.armed, .int .i64 d.left, .bool d.down] 95 ∧
    OwnK 101 64 W w (.slice (some ⟨b, 0, none⟩) d.bl.length c) (blL d) ∧ d.bl.length ≤ c ∧ OwnK 103 129 W w (.slice B m c2) (rowL d) ∧ m = d.row.length ∧ m ≤ c2 ∧ RowK 129 w B m (rowL d) ∧ S b ∧ b ≠ g ∧ ∀ q, (Value.slice B m c2).ownBlock = some q → S q ∧ q ≠ g ∧ q ≠ b := by
  obtain ⟨⟨v1, v2, h1, h2, h3, h4, h5⟩, hok, hm, hlow, hb⟩ := h
  obtain ⟨A, c, rfl, hc, hr⟩ := h2.row
  obtain ⟨B, c2, rfl, hc2, hr2⟩ := h3.row
  obtain ⟨b, cur, rfl, hn, hnc, _, hcur, _⟩ := h2.block_ (bl_ne hok)
  simp only [blL, List.length_map] at hn hc h1 hr h2 h4
  simp only [rowL, List.length_map] at hc2 h1 hr2 h3 h5
  have hbg : b ≠ g := cells_apart hcur h1 (by decide)
  refine ⟨b, c, B, _, c2, h1, h2, hc, h3, rfl, hc2, hr2, h4 b rfl, hbg, fun q hq => ?_⟩
  obtain ⟨cur2, hcur2⟩ := h3.typed q hq
  exact ⟨h5 q hq, cells_apart hcur2 h1 (by decide), cells_apart hcur2 hcur (by decide)⟩
/-- Its box is written anew. -/
theorem DevAt.box {d' : DvP} {v1 v2 : Value} (h : DevAt W w S g d) (hc : Chg (fun k => k = g) w w') (hb : CellsAt w' g #[v1, v2, .int .i64 (d'.ops : Nat), .bool d'.armed, .int .i64 d'.left, .bool d'.down] 95)
    (h1 : OwnK 101 64 W w v1 (blL d')) (h2 : OwnK 103 129 W w v2 (rowL d')) (s1 : ∀ b, v1.ownBlock = some b → S b ∧ b ≠ g) (s2 : ∀ b, v2.ownBlock = some b → S b ∧ b ≠ g) (hok : DvOk d') : DevAt W w' S g d' := by
  have hl : Later W w' := hc.low h.base fun k hk => by rw [hk]; exact (h.low g h.mem).1
  exact ⟨⟨v1, v2, hb, h1.chg hc (fun b hb => (s1 b hb).2) hl, h2.chg hc (fun b hb => (s2 b hb).2) hl, fun b hb => (s1 b hb).1, fun b hb => (s2 b hb).1⟩, hok, h.mem, fun k hk => ⟨(h.low k hk).1, Nat.lt_of_lt_of_le (h.low k hk).2 hc.size⟩, hl⟩
theorem chg_set (w : World) (g i : Nat) (v : Value) : Chg (fun k => k = g) w (w.setCell ⟨g, i, none⟩ v) := sets_chg [v] w i
theorem CellsAt.set1 {cur : Array Value} {T : TypeId} (h : CellsAt w g cur T) (i : Nat) (v : Value) : CellsAt (w.setCell ⟨g, i, none⟩ v) g (cur.setIfInBounds i v) T := heap_setCell_same w g i cur T v h
theorem chg_one {P : Nat → Prop} (h : Chg (fun k => k = g) w w') (hg : P g) : Chg P w w' := h.mono fun k hk => .inl (by rw [hk]; exact hg)
end

end Go.Proofs.Ytaonfedjilfgjaa
