import Derived.Test.YtlnjhimbgckdcaaGreatPk1
import Derived.Test.YtlnjhimbgckdcaaGreatChecked
import Derived.Deep.LoopGhost
import Derived.Deep.QuietTactic
import Derived.BigQuiet
import Derived.Lib.Hide
import Derived.Lib.SliceRun

/-
  Prims as plain values: when they are right, what undoes them, what they make of a tree. Nothing of any program.
-/
namespace Go.Proofs.YtlnjhimbgckdcaaGreat
open Go.RowKit

structure Pr where
  kind : Int
  name : ByteArray
  to : ByteArray
  place : Int
  old : List ByteArray
  new : List ByteArray

def rightP (p : Pr) : Bool :=
  namedB p.name &&
    (if p.kind = 0 then decide (p.to = ByteArray.empty) && decide (0 <= p.place /\ p.place <= 1048576) && allB p.old && allB p.new && !sameB p.old p.new
    else decide (p.place = 0) && decide (p.old = []) && decide (p.new = []) &&
      (if p.kind = 3 then namedB p.to && decide (p.to ≠ p.name) else decide (p.kind = 1 ∨ p.kind = 2) && decide (p.to = ByteArray.empty)))

def sameP (p q : Pr) : Bool := decide (p.kind = q.kind) && decide (p.name = q.name) && decide (p.to = q.to) && decide (p.place = q.place) && sameB p.old q.old && sameB p.new q.new

def invertP (p : Pr) : Pr :=
  if p.kind = 0 then { p with old := p.new, new := p.old }
  else if p.kind = 1 then { p with kind := 2 }
  else if p.kind = 2 then { p with kind := 1 }
  else if p.kind = 3 then { p with name := p.to, to := p.name }
  else p

def namesP (p : Pr) : List ByteArray := if p.kind ≠ 3 then [p.name] else if ltN p.name p.to = true then [p.name, p.to] else [p.to, p.name]

theorem sameP_iff {p q : Pr} : sameP p q = true ↔ p = q := by
  obtain ⟨a, b, c, d, e, f⟩ := p
  obtain ⟨a', b', c', d', e', f'⟩ := q
  simp only [sameP, sameB, Bool.and_eq_true, decide_eq_true_eq, Pr.mk.injEq]
  exact ⟨fun ⟨⟨⟨⟨⟨h1, h2⟩, h3⟩, h4⟩, h5⟩, h6⟩ => ⟨h1, h2, h3, h4, h5, h6⟩, fun ⟨h1, h2, h3, h4, h5, h6⟩ => ⟨⟨⟨⟨⟨h1, h2⟩, h3⟩, h4⟩, h5⟩, h6⟩⟩
theorem sameP_self (p : Pr) : sameP p p = true := sameP_iff.2 rfl

end Go.Proofs.YtlnjhimbgckdcaaGreat

/-
  Prims by the tree's own calls, and how great trees become behind them. Nothing of any program.
-/
namespace Go.Proofs.YtlnjhimbgckdcaaGreat
open Go.RowKit

structure Sized (k h : Nat) (t : Tr) : Prop where
  many : t.length <= k
  each : ∀ f ∈ t, namedB f.1 = true /\ allB f.2 = true /\ f.2.length <= h

theorem allB_none : allB [] = true := by simp [allB]
section
variable {k h : Nat} {t : Tr}
theorem Sized.nil : Sized 0 0 [] := ⟨Nat.le_refl _, fun f hf => by cases hf⟩
theorem Sized.mono {j i : Nat} (hs : Sized k h t) (hj : k <= j) (hi : h <= i) : Sized j i t := ⟨Nat.le_trans hs.many hj, fun f hf => ⟨(hs.each f hf).1, (hs.each f hf).2.1, Nat.le_trans (hs.each f hf).2.2 hi⟩⟩
theorem Sized.with_ (hs : Sized k h t) {n : ByteArray} {l : List ByteArray} (h1 : namedB n = true) (h2 : allB l = true) (h3 : l.length <= h) : Sized (k + 1) h (withT t n l) :=
  ⟨Nat.le_trans (with_length n l) (Nat.succ_le_succ hs.many), fun f hf => by
    rcases mem_with.1 hf with rfl | hf
    · exact ⟨h1, h2, h3⟩
    · exact hs.each f hf.1⟩
theorem Sized.get (hs : Sized k h t) {n : ByteArray} {l : List ByteArray} (hg : getT t n = some l) : namedB n = true /\ allB l = true /\ l.length <= h := hs.each _ (getT_mem hg)

theorem right_parts {p : Pr} (hr : rightP p = true) : namedB p.name = true /\ (p.kind = 0 ∨ p.kind = 1 ∨ p.kind = 2 ∨ p.kind = 3) /\ allB p.old = true /\ allB p.new = true /\ (p.kind = 0 -> 0 <= p.place /\ p.place <= 1048576) /\ (p.kind = 3 -> namedB p.to = true /\ p.to ≠ p.name) := by
  obtain ⟨kd, nm, to, at_, old, new⟩ := p
  simp only [rightP, Bool.and_eq_true] at hr ⊢
  obtain ⟨h1, h2⟩ := hr
  refine ⟨h1, ?_⟩
  by_cases h0 : kd = 0
  · subst h0
    simp only [if_true, Bool.and_eq_true, decide_eq_true_eq] at h2
    obtain ⟨⟨⟨⟨_, h4⟩, h5⟩, h6⟩, _⟩ := h2
    exact ⟨.inl rfl, h5, h6, fun _ => h4, fun e => by cases e⟩
  · rw [if_neg h0] at h2
    simp only [Bool.and_eq_true, decide_eq_true_eq] at h2
    obtain ⟨⟨⟨_, rfl⟩, rfl⟩, h4⟩ := h2
    by_cases h3 : kd = 3
    · subst h3
      simp only [if_true, Bool.and_eq_true, decide_eq_true_eq] at h4
      exact ⟨.inr (.inr (.inr rfl)), allB_none, allB_none, (fun e => by cases e), fun _ => h4⟩
    · rw [if_neg h3] at h4
      simp only [Bool.and_eq_true, decide_eq_true_eq] at h4
      exact ⟨h4.1.elim (fun e => .inr (.inl e)) (fun e => .inr (.inr (.inl e))), allB_none, allB_none, fun e => absurd e h0, fun e => absurd e h3⟩

end

end Go.Proofs.YtlnjhimbgckdcaaGreat

/-
  Rows of structures in memory, each of k cells: what a slice of them reads as, and one of the call's own that grows by append.
-/
namespace Go.Proofs.YtlnjhimbgckdcaaGreat
open Go.RowKit

theorem flat_at {α : Type} {k : Nat} : ∀ {css : List (List α)}, (∀ cs ∈ css, cs.length = k) -> ∀ {j i : Nat} {cs : List α}, css[j]? = some cs -> i < k -> css.flatten[j * k + i]? = cs[i]?
  | [], _, _, _, _, h, _ => by simp at h
  | c :: css, hk, 0, i, cs, h, hi => by
    simp at h; subst h
    rw [Nat.zero_mul, Nat.zero_add, List.flatten_cons, List.getElem?_append_left (by rw [hk _ List.mem_cons_self]; exact hi)]
  | c :: css, hk, j + 1, i, cs, h, hi => by
    have hc := hk _ (List.mem_cons_self (a := c) (l := css))
    rw [List.flatten_cons, List.getElem?_append_right (by rw [hc, Nat.add_mul]; omega), hc, show (j + 1) * k + i - k = j * k + i from by rw [Nat.add_mul]; omega]
    exact flat_at (fun cs hcs => hk cs (List.mem_cons_of_mem _ hcs)) (by simpa using h) hi
theorem flat_length {α : Type} {k : Nat} : ∀ {css : List (List α)}, (∀ cs ∈ css, cs.length = k) -> css.flatten.length = css.length * k
  | [], _ => by simp
  | c :: css, hk => by
    rw [List.flatten_cons, List.length_append, hk _ List.mem_cons_self, flat_length (fun cs hcs => hk cs (List.mem_cons_of_mem _ hcs)), List.length_cons, Nat.add_mul]; omega

def RowK (k : Nat) (w : World) (A : Option Addr) (n : Nat) (css : List (List Value)) : Prop :=
  css.length = n /\ (∀ cs ∈ css, cs.length = k) /\ (0 < n -> ∃ b o, A = some ⟨b, o, none⟩ /\ ∀ (j i : Nat) cs v, css[j]? = some cs -> cs[i]? = some v -> w.cell? ⟨b, o + j * k + i, none⟩ = some v)

section
variable {k n : Nat} {w w' : World} {A : Option Addr} {css : List (List Value)}

theorem RowK.len (h : RowK k w A n css) : css.length = n := h.1
theorem RowK.none : RowK k w A 0 [] := ⟨rfl, (fun _ h => by cases h), fun h => absurd h (by omega)⟩
theorem RowK.later (h : RowK k w A n css) (hl : Later w w') : RowK k w' A n css :=
  ⟨h.1, h.2.1, fun hn => by
    obtain ⟨b, o, e, hc⟩ := h.2.2 hn
    exact ⟨b, o, e, fun j i cs v h1 h2 => hl.cell (hc j i cs v h1 h2)⟩⟩
theorem RowK.get (h : RowK k w A n css) {j : Nat} (hj : j < n) : ∃ b o, A = some ⟨b, o, .none⟩ /\ ∃ cs, css[j]? = some cs /\ cs.length = k /\ ∀ (i : Nat) v, cs[i]? = some v -> w.cell? ⟨b, o + j * k + i, .none⟩ = some v := by
  obtain ⟨b, o, e, hc⟩ := h.2.2 (by omega)
  have hl : j < css.length := by rw [h.1]; exact hj
  exact ⟨b, o, e, css[j], List.getElem?_eq_getElem hl, h.2.1 _ (List.getElem_mem hl), fun i v hi => hc j i _ v (List.getElem?_eq_getElem hl) hi⟩
end

def OwnK (e : TypeId) (k : Nat) (w0 w : World) (v : Value) (css : List (List Value)) : Prop :=
  w.ownsRow w0.heap.size e k v css.length css.flatten /\ (∀ cs ∈ css, cs.length = k) /\ Later w0 w

section
variable {e : TypeId} {k : Nat} {w0 w : World} {v : Value} {css : List (List Value)}

theorem OwnK.later (h : OwnK e k w0 w v css) : Later w0 w := h.2.2
theorem OwnK.nil (h : Later w0 w) : OwnK e k w0 w (.slice none 0 0) [] := ⟨World.ownsRow_nil _ _ _ _, (fun _ h => by cases h), h⟩
theorem OwnK.alloc (h : OwnK e k w0 w v css) (o : Obj) : OwnK e k w0 (w.alloc o) v css := ⟨h.1.alloc o, h.2.1, h.2.2.alloc o⟩
theorem OwnK.drew (h : OwnK e k w0 w v css) : OwnK e k w0 w.drew v css := ⟨h.1, h.2.1, h.2.2.drew⟩
theorem OwnK.drewN (h : OwnK e k w0 w v css) (n : Nat) : OwnK e k w0 (w.drewN n) v css := ⟨h.1, h.2.1, h.2.2.drewN n⟩
theorem OwnK.on {w' : World} (h : OwnK e k w0 w v css) (hl : Later w w') : OwnK e k w0 w' v css :=
  ⟨h.1.kept (row := none) ⟨hl.os, hl.tape, hl.output, hl.size, fun i hi _ => hl.block i hi⟩ (by cases v.ownBlock <;> simp), h.2.1, h.2.2.trans hl⟩
theorem OwnK.row (h : OwnK e k w0 w v css) : ∃ A c, v = .slice A css.length c /\ css.length <= c /\ RowK k w A css.length css := by
  rcases h.1.2 with ⟨hv, h0⟩ | ⟨g, cap, cur, hv, hg, hh, hnc, hm, hs, ht⟩
  · have : css = [] := List.eq_nil_of_length_eq_zero h0
    subst this
    exact ⟨none, 0, hv, Nat.le_refl _, RowK.none⟩
  · refine ⟨some ⟨g, 0, none⟩, cap, hv, hnc, rfl, h.2.1, fun _ => ⟨g, 0, rfl, fun j i cs u hj hi => ?_⟩⟩
    have hik : i < k := by rw [← h.2.1 cs (List.mem_of_getElem? hj)]; exact (List.getElem?_eq_some_iff.1 hi).1
    have hc := h.1.cells (g := g) (by rw [hv]; rfl) (j * k + i) u (by rw [flat_at h.2.1 hj hik]; exact hi)
    rw [plain_add] at hc
    rw [Nat.zero_add] at hc ⊢
    exact hc
theorem OwnK.block (h : OwnK e k w0 w v css) : ∀ b, v.ownBlock = some b -> w0.heap.size <= b := fun b hb => (h.1.lt b hb).1
end

section
variable {P : Program} {w0 w : World} {e : TypeId} {k : Nat} {v : Value} {olds : List (List Value)}

theorem run_append_rowK (t ty : TypeId) (i : TypeInfo) (z : Value) (bytes : Nat) (ht : P.underlying t = some (.slice e)) (hi : P.info? e = some i) (hz : i.zero = some z) (hsize : i.size = k) (hby : i.bytes = bytes) (hzs : z.cells.size = k) (hk : 0 < k)
    (hown : OwnK e k w0 w v olds) (A : Option Addr) (m c : Nat) (news : List (List Value)) (hr : RowK k w A m news) (hone : ∀ cs ∈ news, ∀ u ∈ cs, u.oneCell' = true) (hb : olds.length + m <= 1000000) (hbb : bytes <= 1000) :
    ∃ v' w', (Builtin.append_ #[t, t] ty #[v, .slice A m c]).run P w = .ok v' w' /\ OwnK e k w0 w' v' (olds ++ news) /\ w.grownBy w' v.ownBlock := by
  have hl := hr.len
  have hbig : (olds.length + m) * bytes <= 140737488355328 := Nat.le_trans (Nat.mul_le_mul hb hbb) (by omega)
  rcases Nat.eq_zero_or_pos m with h0 | h0
  · subst h0
    have hn : news = [] := List.eq_nil_of_length_eq_zero hl
    subst hn
    rw [List.append_nil]
    rcases A with _ | ad
    · refine ⟨v, w, ?_, hown, ⟨rfl, rfl, rfl, Nat.le_refl _, fun _ _ _ => rfl⟩⟩
      rcases hown.1.2 with ⟨rfl, _⟩ | ⟨g, cap, cur, rfl, _, _, hnc, _⟩
      · simp [Builtin.append_, run_underlying ht, sizeOf, typeInfo, hi, Builtin.lenOf, Builtin.firstCells]
      · simp [Builtin.append_, run_underlying ht, sizeOf, typeInfo, hi, Builtin.lenOf, Builtin.firstCells, hnc, storeCells]
    · obtain ⟨v', w', hrun, h2, h3, _, _⟩ := run_append_own_at (P := P) w w0.heap.size t ty e i z k bytes ht hi hz hsize hby hzs hk v olds.length olds.flatten hown.1 ad 0 c [] (by simp)
        (fun j u hu => by simp at hu) (fun u hu => by simp at hu) (by simp only [maxLen]; omega) hbig hown.2.2.size
      refine ⟨v', w', hrun, ⟨by simpa using h2, hown.2.1, Below.grown hown.2.2 h3 hown.2.2.size hown.block⟩, h3⟩
  · obtain ⟨b, o, rfl, hc⟩ := hr.2.2 h0
    obtain ⟨v', w', hrun, h2, h3, _, _⟩ := run_append_own_at (P := P) w w0.heap.size t ty e i z k bytes ht hi hz hsize hby hzs hk v olds.length olds.flatten hown.1 ⟨b, o, none⟩ m c news.flatten
      (by rw [flat_length hr.2.1, hl])
      (fun j u hu => by
        have hjl := (List.getElem?_eq_some_iff.1 hu).1
        rw [flat_length hr.2.1] at hjl
        have hq : j / k < news.length := (Nat.div_lt_iff_lt_mul hk).2 hjl
        have hjk : j / k * k + j % k = j := by rw [Nat.mul_comm]; exact Nat.div_add_mod j k
        have hat := flat_at (i := j % k) hr.2.1 (List.getElem?_eq_getElem hq) (Nat.mod_lt _ hk)
        rw [hjk, hu] at hat
        have := hc (j / k) (j % k) _ u (List.getElem?_eq_getElem hq) hat.symm
        rw [plain_add, ← hjk, ← Nat.add_assoc]
        exact this)
      (fun u hu => by
        obtain ⟨cs, hcs, hu⟩ := List.mem_flatten.1 hu
        exact hone cs hcs u hu)
      (by simp only [maxLen]; omega) hbig hown.2.2.size
    refine ⟨v', w', hrun, ⟨?_, fun cs hcs => ?_, Below.grown hown.2.2 h3 hown.2.2.size hown.block⟩, h3⟩
    · rw [List.length_append, List.flatten_append, hl]
      exact h2
    · rcases List.mem_append.1 hcs with h | h
      · exact hown.2.1 cs h
      · exact hr.2.1 cs h

theorem wpList_append_rowK {ops : Array Oper} {rest : List Oper} {o : Oper} {a : Act} {Q : Exit -> Act -> World -> Prop} (hgd : o.guard = none) (s x : Operand) (t : TypeId)
    (ho : o.op = .call { callee := .builtin .append, args := #[s, x], argTypes := #[t, t] }) (i : TypeInfo) (z : Value) (bytes : Nat)
    (ht : P.underlying t = some (.slice e)) (hi : P.info? e = some i) (hz : i.zero = some z) (hsize : i.size = k) (hby : i.bytes = bytes) (hzs : z.cells.size = k) (hk : 0 < k)
    (hown : OwnK e k w0 w v olds) (hs : a.eval s = v) (A : Option Addr) (m c : Nat) (news : List (List Value)) (hx : a.eval x = .slice A m c) (hr : RowK k w A m news) (hone : ∀ cs ∈ news, ∀ u ∈ cs, u.oneCell' = true) (hb : olds.length + m <= 1000000) (hbb : bytes <= 1000)
    (h : ∀ v' w', OwnK e k w0 w' v' (olds ++ news) -> w.grownBy w' v.ownBlock -> wpList P ops Q rest (a.put o.dst v') w') : wpList P ops Q (o :: rest) a w := by
  refine wpList_plain hgd fun K hK => ?_
  obtain ⟨v', w', hrun, h2, h3⟩ := run_append_rowK (P := P) t o.type i z bytes ht hi hz hsize hby hzs hk hown A m c news hr hone hb hbb
  unfold Oper.wp execOp
  simp only [ho, resolve, invoke, builtin, Sem.run_bind, Sem.run_pure, Result.andThen_ok, List.map_toArray, List.map_cons, List.map_nil, hs, hx, hrun]
  exact hK _ _ (h v' w' h2 h3)
end

theorem RowK.one (w : World) (cs : List Value) (t : TypeId) : RowK cs.length (w.alloc (.cells cs.toArray t)) (some ⟨w.heap.size, 0, .none⟩) 1 [cs] := by
  refine ⟨rfl, fun c hc => by simp at hc; rw [hc], fun _ => ⟨_, _, rfl, fun j i c v hj hi => ?_⟩⟩
  match j, hj with
  | 0, hj =>
    simp at hj; subst hj
    have hb : (w.alloc (.cells cs.toArray t)).heap[w.heap.size]? = some (.cells cs.toArray t (0, 0)) := heap_alloc_new w _
    simp only [World.cell?, hb, Nat.zero_mul, Nat.zero_add]
    simpa using hi

end Go.Proofs.YtlnjhimbgckdcaaGreat

/-
  The element type of a row of lines.
-/
namespace Go.Proofs.YtlnjhimbgckdcaaGreat
open Go.RowKit

theorem Tryz.textInfo : (Tryz.prog.info? 9).map (fun i => (i.zero, i.size, i.bytes)) = some (some (.string ByteArray.empty), 1, 16) := by kernel_rfl

end Go.Proofs.YtlnjhimbgckdcaaGreat

/-
  What slices.Clone at rows of texts comes to, as a call.
-/
namespace Go.Proofs.YtlnjhimbgckdcaaGreat
open Go.RowKit

theorem Own.on {e : TypeId} {w0 w w' : World} {v : Value} {ss : List ByteArray} (h : Own e w0 w v ss) (hl : Later w w') : Own e w0 w' v ss :=
  ⟨h.1.kept (row := none) ⟨hl.os, hl.tape, hl.output, hl.size, fun i hi _ => hl.block i hi⟩ (by cases v.ownBlock <;> simp), h.2.trans hl⟩
theorem Own.base {e : TypeId} {w0 w1 w : World} {v : Value} {ss : List ByteArray} (h : Own e w1 w v ss) (hl : Later w0 w1) : Own e w0 w v ss :=
  ⟨by
    obtain ⟨hx, h1 | ⟨g, cap, cur, hv, hg, h2⟩⟩ := h.1
    · exact ⟨hx, .inl h1⟩
    · exact ⟨hx, .inr ⟨g, cap, cur, hv, Nat.le_trans hl.le hg, h2⟩⟩, hl.trans h.2⟩

def GivesOwn (ss : List ByteArray) (w : World) (e : Ending) (w' : World) : Prop := ∃ v, e = .returned v /\ Own 9 w w' v ss

set_option maxHeartbeats 400000 in
theorem clone_any (A : Option Addr) (n c : Nat) (l : List ByteArray) (w : World) (hx : Row w A n l) (hn : n <= 65536) :
    Calls Tryz.prog 55 #[.slice A n c] w (GivesOwn l w) := by
  have q29 : ∀ (w : World) (a : Option Addr) (n c n' c' : Nat), (binOp .eql 56 (.slice a n c) (.slice none n' c')).run Tryz.prog w = .ok (.bool a.isNone) w := fun w a n c n' c' => Lib.run_eql_slice_nil w _ _ a n c n' c' Tryz.underlying56
  cases A with
  | none =>
    have e : l = [] := by
      rcases Nat.eq_zero_or_pos n with h | h
      · exact List.eq_nil_of_length_eq_zero (hx.len.trans h)
      · obtain ⟨_, _, e, _⟩ := hx.2 h; cases e
    subst e
    clear hx
    go_enter Tryz.func55, Tryz.ntmps55
    go_wp2
    go_ret
    exact ⟨_, rfl, Own.nil (Later.refl w)⟩
  | some a =>
    have HX := Lib.hid hx; clear hx
    obtain ⟨i0, hi, hz0, hz1, hz2⟩ := info_parts Tryz.textInfo
    go_enter Tryz.func55, Tryz.ntmps55
    go_wp2_with (at_builtin; refine wpList_append_row (w0 := w) rfl _ _ 56 rfl i0 Tryz.underlying56 hi hz0 hz1 hz2 (Own.empty (Later.refl w)) rfl _ _ _ _ rfl (HX.out.later ((Later.refl w).alloc _)) (by simp; omega) ?_; intro v2 w2 hown2 hg2; have HO2 := Lib.hid hown2; clear hown2 hg2)
    go_ret
    exact ⟨_, rfl, by simpa using HO2.out⟩

end Go.Proofs.YtlnjhimbgckdcaaGreat

/-
  Prims in memory: a structure of six cells, two of them rows of lines.
-/
namespace Go.Proofs.YtlnjhimbgckdcaaGreat
open Go.RowKit

theorem list_ne {s : ByteArray} (h : s ≠ ByteArray.empty) : ¬ s.toList = [] := by
  rw [ByteArray.toList_eq]
  intro e
  exact h (ByteArray.ext (Array.ext' e))

structure PrC where
  v : Pr
  A : Option Addr
  n : Nat
  c : Nat
  B : Option Addr
  m : Nat
  d : Nat

def prL (x : PrC) : List Value := [.int .i64 x.v.kind, .string x.v.name, .string x.v.to, .int .i64 x.v.place, .slice x.A x.n x.c, .slice x.B x.m x.d]
def prV (x : PrC) : Value := .agg #[.int .i64 x.v.kind, .string x.v.name, .string x.v.to, .int .i64 x.v.place, .slice x.A x.n x.c, .slice x.B x.m x.d]

structure PrOk (w : World) (x : PrC) : Prop where
  old : Row w x.A x.n x.v.old
  new : Row w x.B x.m x.v.new
  oroom : x.n <= x.c
  nroom : x.m <= x.d
  omost : x.n <= 65536
  nmost : x.m <= 65536
  name : x.v.name.size <= maxLen
  to : x.v.to.size <= maxLen
  lo : -9223372036854775808 <= x.v.place
  hi : x.v.place <= 9223372036854775807
  olds : ∀ s ∈ x.v.old, s.size <= maxLen
  news : ∀ s ∈ x.v.new, s.size <= maxLen
theorem PrOk.later {w w' : World} {x : PrC} (h : PrOk w x) (hl : Later w w') : PrOk w' x :=
  ⟨h.old.later hl, h.new.later hl, h.oroom, h.nroom, h.omost, h.nmost, h.name, h.to, h.lo, h.hi, h.olds, h.news⟩

structure IsPr (p : Pr) (w w' : World) (u v : Value) : Prop where
  old : Own 9 w w' u p.old
  new : Own 9 w w' v p.new
  apart : ∀ b, u.ownBlock = some b -> v.ownBlock ≠ some b
def GivesPr (p : Pr) (w : World) (e : Ending) (w' : World) : Prop :=
  ∃ u v, e = .returned (.agg #[.int .i64 p.kind, .string p.name, .string p.to, .int .i64 p.place, u, v]) /\ IsPr p w w' u v

theorem IsPr.swap {p q : Pr} {w w' : World} {u v : Value} (h : IsPr p w w' u v) (h1 : q.old = p.new) (h2 : q.new = p.old) : IsPr q w w' v u :=
  ⟨by rw [h1]; exact h.new, by rw [h2]; exact h.old, fun b h3 h4 => h.apart b h4 h3⟩
theorem IsPr.later {p : Pr} {w w' : World} {u v : Value} (h : IsPr p w w' u v) : Later w w' := h.old.later
theorem IsPr.on {p : Pr} {w w' w'' : World} {u v : Value} (h : IsPr p w w' u v) (hl : Later w' w'') : IsPr p w w'' u v := ⟨h.old.on hl, h.new.on hl, h.apart⟩
theorem IsPr.base {p : Pr} {w0 w w' : World} {u v : Value} (h : IsPr p w w' u v) (hl : Later w0 w) : IsPr p w0 w' u v := ⟨h.old.base hl, h.new.base hl, h.apart⟩
theorem Own.lt {e : TypeId} {w0 w : World} {v : Value} {ss : List ByteArray} (h : Own e w0 w v ss) {b : Nat} (hb : v.ownBlock = some b) : b < w.heap.size := (h.1.lt b hb).2
theorem IsPr.of {p : Pr} {w w1 w' : World} {u v : Value} (h1 : Own 9 w w1 u p.old) (h2 : Own 9 w1 w' v p.new) : IsPr p w w' u v :=
  ⟨h1.on h2.later, h2.base h1.later, fun b hu hv => by
    have a1 := h1.lt hu
    have a2 := h2.block b hv
    omega⟩
theorem IsPr.ok {p : Pr} {w w' : World} {u v : Value} (h : IsPr p w w' u v) (h1 : p.old.length <= 65536) (h2 : p.new.length <= 65536) (h3 : p.name.size <= maxLen) (h4 : p.to.size <= maxLen) (h5 : -9223372036854775808 <= p.place) (h6 : p.place <= 9223372036854775807)
    (h7 : ∀ s ∈ p.old, s.size <= maxLen) (h8 : ∀ s ∈ p.new, s.size <= maxLen) : ∃ x : PrC, x.v = p /\ .agg #[.int .i64 p.kind, .string p.name, .string p.to, .int .i64 p.place, u, v] = prV x /\ PrOk w' x := by
  obtain ⟨A, c, rfl, hc, hr⟩ := h.old.row
  obtain ⟨B, d, rfl, hd, hs⟩ := h.new.row
  exact ⟨⟨p, A, _, c, B, _, d⟩, rfl, rfl, hr, hs, hc, hd, h1, h2, h3, h4, h5, h6, h7, h8⟩

def weightP (p : Pr) : Nat := p.name.size + p.to.size + p.old.length + p.new.length + (p.old.map ByteArray.size).sum + (p.new.map ByteArray.size).sum
def weightPs (xs : List PrC) : Nat := (xs.map fun x => weightP x.v).sum

theorem sizesP_mem {l : List ByteArray} {s : ByteArray} (h : s ∈ l) : s.size <= (l.map ByteArray.size).sum := by
  induction l with
  | nil => cases h
  | cons x l ih =>
    simp only [List.map_cons, List.sum_cons]
    rcases List.mem_cons.1 h with rfl | h
    · omega
    · have := ih h; omega

structure CameP (w : World) (x : PrC) : Prop where
  old : Row w x.A x.n x.v.old
  new : Row w x.B x.m x.v.new
  oroom : x.n <= x.c
  nroom : x.m <= x.d
  lo : -9223372036854775808 <= x.v.place
  hi : x.v.place <= 9223372036854775807
  weigh : weightP x.v <= 1048576
theorem CameP.later {w w' : World} {x : PrC} (h : CameP w x) (hl : Later w w') : CameP w' x := ⟨h.old.later hl, h.new.later hl, h.oroom, h.nroom, h.lo, h.hi, h.weigh⟩
theorem CameP.ok {w : World} {x : PrC} (h : CameP w x) (hw : weightP x.v <= 60000) : PrOk w x := by
  have h1 := h.old.len
  have h2 := h.new.len
  unfold weightP at hw
  refine ⟨h.old, h.new, h.oroom, h.nroom, by omega, by omega, by simp only [maxLen]; omega, by simp only [maxLen]; omega, h.lo, h.hi, fun s hs => ?_, fun s hs => ?_⟩
  · have := sizesP_mem hs; simp only [maxLen]; omega
  · have := sizesP_mem hs; simp only [maxLen]; omega

structure Prims (w : World) (A : Option Addr) (n : Nat) (xs : List PrC) : Prop where
  row : RowK 6 w A n (xs.map prL)
  each : ∀ x ∈ xs, CameP w x
section
variable {w w' : World} {A : Option Addr} {n : Nat} {xs : List PrC}
theorem Prims.len (h : Prims w A n xs) : xs.length = n := by have := h.row.len; simpa using this
theorem Prims.later (h : Prims w A n xs) (hl : Later w w') : Prims w' A n xs := ⟨h.row.later hl, fun x hx => (h.each x hx).later hl⟩
theorem Prims.get (h : Prims w A n xs) {j : Nat} (hj : j < n) : ∃ b o x, A = some ⟨b, o, .none⟩ /\ xs[j]? = some x /\ w.cell? ⟨b, o + j * 6, .none⟩ = some (.int .i64 x.v.kind) /\ w.cell? ⟨b, o + j * 6 + 1, .none⟩ = some (.string x.v.name) /\ w.cell? ⟨b, o + j * 6 + 2, .none⟩ = some (.string x.v.to) /\ w.cell? ⟨b, o + j * 6 + 3, .none⟩ = some (.int .i64 x.v.place) /\ w.cell? ⟨b, o + j * 6 + 4, .none⟩ = some (.slice x.A x.n x.c) /\ w.cell? ⟨b, o + j * 6 + 5, .none⟩ = some (.slice x.B x.m x.d) := by
  obtain ⟨b, o, e, cs, hcs, _, hc⟩ := h.row.get hj
  have hl : j < xs.length := by rw [h.len]; exact hj
  have hz := List.getElem?_eq_getElem hl
  simp only [List.getElem?_map, hz, Option.map_some, Option.some.injEq] at hcs
  subst hcs
  exact ⟨b, o, xs[j], e, hz, hc 0 _ rfl, hc 1 _ rfl, hc 2 _ rfl, hc 3 _ rfl, hc 4 _ rfl, hc 5 _ rfl⟩
end
theorem weightPs_take {xs : List PrC} {k : Nat} {x : PrC} (h : xs[k]? = some x) : weightPs (xs.take (k + 1)) = weightPs (xs.take k) + weightP x.v := by
  obtain ⟨hk, rfl⟩ := List.getElem?_eq_some_iff.1 h
  unfold weightPs
  rw [List.take_succ_eq_append_getElem hk, List.map_append, List.sum_append]
  simp
theorem weightPs_take_le (xs : List PrC) (k : Nat) : weightPs (xs.take k) <= weightPs xs := by
  have : weightPs xs = weightPs (xs.take k) + weightPs (xs.drop k) := by
    unfold weightPs
    rw [← List.sum_append, ← List.map_append, List.take_append_drop]
  omega
theorem weightPs_mem {xs : List PrC} {x : PrC} (h : x ∈ xs) : weightP x.v <= weightPs xs := by
  induction xs with
  | nil => cases h
  | cons y xs ih =>
    simp only [weightPs, List.map_cons, List.sum_cons] at ih ⊢
    rcases List.mem_cons.1 h with rfl | h
    · omega
    · have := ih h; omega

end Go.Proofs.YtlnjhimbgckdcaaGreat

/-
  Prims that come in: from what is read as data to what the laws ask.
-/
namespace Go.Proofs.YtlnjhimbgckdcaaGreat
open Go.ChangeShapes Go.WideShapes Go.ChangeAt Go.RowKit Go.Deep

def primFields : Array Field := #[{ name := "Kind", type := 3, offset := 0, embedded := false, tag := "", pkgPath := "", byteOffset := 0 }, { name := "Name", type := 9, offset := 1, embedded := false, tag := "", pkgPath := "", byteOffset := 8 }, { name := "To", type := 9, offset := 2, embedded := false, tag := "", pkgPath := "", byteOffset := 24 }, { name := "At", type := 3, offset := 3, embedded := false, tag := "", pkgPath := "", byteOffset := 40 }, { name := "Old", type := 56, offset := 4, embedded := false, tag := "", pkgPath := "", byteOffset := 48 }, { name := "New", type := 56, offset := 5, embedded := false, tag := "", pkgPath := "", byteOffset := 72 }]
theorem Tryz.primOne : oneCellFields Tryz.prog primFields = true := by kernel_rfl
theorem Tryz.primCells6 : Tryz.prog.cellsOf 89 = primFields.size := by kernel_rfl

theorem prim_of {H : Type} {enc : TypeId × Value -> H} {W : World} {fuel : Nat} {ys : List (DataW H × List MemPlace)} {Q : Nat -> Value -> Prop} (hyl : ys.length = 6)
    (hfld : ∀ (j : Nat) (f : Field), primFields[j]? = some f -> ∃ (v : Value) (y : DataW H × List MemPlace), Q j v /\ ys[j]? = some y /\ DataW.trod enc Tryz.prog W 0 (fun _ => true) true fuel f.type [v] = some y) :
    ∃ x : PrC, (∀ (j : Nat) u, (prL x)[j]? = some u -> Q j u) /\ Row W x.A x.n x.v.old /\ Row W x.B x.m x.v.new /\ x.n <= x.c /\ x.m <= x.d /\ -9223372036854775808 <= x.v.place /\ x.v.place <= 9223372036854775807 /\ weightP x.v + 1 <= Rows.uptoBulk (.agg (ys.map (·.1))) := by
  obtain ⟨v0, y0, c0, e0, t0⟩ := hfld 0 _ rfl
  obtain ⟨v1, y1, c1, e1, t1⟩ := hfld 1 _ rfl
  obtain ⟨v2, y2, c2, e2, t2⟩ := hfld 2 _ rfl
  obtain ⟨v3, y3, c3, e3, t3⟩ := hfld 3 _ rfl
  obtain ⟨v4, y4, c4, e4, t4⟩ := hfld 4 _ rfl
  obtain ⟨v5, y5, c5, e5, t5⟩ := hfld 5 _ rfl
  obtain ⟨kd, hk, _, _⟩ := DataW.trod_int Tryz.underlying3 t0
  obtain ⟨s1, hs1, hy1, _⟩ := DataW.trod_string Tryz.underlying9 t1
  obtain ⟨s2, hs2, hy2, _⟩ := DataW.trod_string Tryz.underlying9 t2
  obtain ⟨pl, hp, _, hwf⟩ := DataW.trod_int Tryz.underlying3 t3
  obtain ⟨Al, nl, cl, l, hv4, hnc, hrow, hwl⟩ := came_lines t4
  obtain ⟨Bl, ml, dl, r, hv5, hmd, hrow2, hwr⟩ := came_lines t5
  simp only [List.cons.injEq, and_true] at hk hs1 hs2 hp
  subst hk hs1 hs2 hp hv4 hv5
  have hwf' : -9223372036854775808 <= pl /\ pl <= 9223372036854775807 := by
    simp only [Lit.wf, Bool.and_eq_true, decide_eq_true_eq] at hwf
    exact hwf
  refine ⟨⟨⟨kd, s1, s2, pl, l, r⟩, Al, nl, cl, Bl, ml, dl⟩, fun j u hj => ?_, hrow, hrow2, hnc, hmd, hwf'.1, hwf'.2, ?_⟩
  · simp only [prL] at hj
    match j, hj with
    | 0, hj => simp at hj; subst hj; exact c0
    | 1, hj => simp at hj; subst hj; exact c1
    | 2, hj => simp at hj; subst hj; exact c2
    | 3, hj => simp at hj; subst hj; exact c3
    | 4, hj => simp at hj; subst hj; exact c4
    | 5, hj => simp at hj; subst hj; exact c5
    | j + 6, hj => simp at hj
  · match ys, hyl, e0, e1, e2, e3, e4, e5 with
    | [z0, z1, z2, z3, z4, z5], _, e0, e1, e2, e3, e4, e5 =>
      simp only [List.getElem?_cons_zero, List.getElem?_cons_succ, Option.some.injEq] at e0 e1 e2 e3 e4 e5
      subst e0 e1 e2 e3 e4 e5
      simp only [List.map_cons, List.map_nil, Rows.uptoBulk, Rows.uptoBulkAll]
      rw [hy1, hy2]
      simp only [Rows.uptoBulk, weightP]
      have l1 : s1.data.toList.length = s1.size := by rw [Array.length_toList]; rfl
      have l2 : s2.data.toList.length = s2.size := by rw [Array.length_toList]; rfl
      omega

theorem bulkP_range {H : Type} (D : Nat -> DataW H) : ∀ (n : Nat) (xs : List PrC), xs.length = n -> (∀ (i : Nat) x, xs[i]? = some x -> weightP x.v + 1 <= Rows.uptoBulk (D i)) -> weightPs xs + n <= Rows.uptoBulkAll ((List.range n).map D)
  | 0, xs, h, _ => by
    have : xs = [] := List.eq_nil_of_length_eq_zero h
    subst this; simp [weightPs]
  | n + 1, xs, h, hw => by
    have key : ∀ (l r : List (DataW H)), Rows.uptoBulkAll (l ++ r) = Rows.uptoBulkAll l + Rows.uptoBulkAll r := fun l r => by
      induction l with
      | nil => simp [Rows.uptoBulkAll]
      | cons x l ih => simp only [List.cons_append, Rows.uptoBulkAll, ih]; omega
    have ih := bulkP_range D n (xs.take n) (by rw [List.length_take]; omega) (fun i x hx => hw i x (by
      have hi : i < n := by have := (List.getElem?_eq_some_iff.1 hx).1; rw [List.length_take] at this; omega
      rwa [List.getElem?_take_of_lt hi] at hx))
    have hz : xs[n]? = some (xs[n]'(by omega)) := List.getElem?_eq_getElem (by omega)
    have h1 := hw n _ hz
    have h2 := weightPs_take hz
    rw [show xs.take (n + 1) = xs from List.take_of_length_le (by omega)] at h2
    rw [List.range_succ, List.map_append, key]
    simp only [List.map_cons, List.map_nil, Rows.uptoBulkAll]
    omega

end Go.Proofs.YtlnjhimbgckdcaaGreat

/-
  Rows of prims that come in.
-/
namespace Go.Proofs.YtlnjhimbgckdcaaGreat
open Go.ChangeShapes Go.WideShapes Go.ChangeAt Go.RowKit Go.Deep

structure CamePs (w : World) (A : Option Addr) (n : Nat) (xs : List PrC) : Prop where
  prims : Prims w A n xs
  many : n <= 1048576
  weigh : weightPs xs <= 1048576

end Go.Proofs.YtlnjhimbgckdcaaGreat

/-
  Two prims in the other order, as plain values: when they have one, and what follows of it. Nothing of any program.
-/
namespace Go.Proofs.YtlnjhimbgckdcaaGreat
open Go.RowKit

def placed (p : Pr) (k : Int) : Pr := { p with place := k }
def inFile (p : Pr) (n : ByteArray) : Pr := { p with name := n }
def commonP (p q : Pr) : Bool := (namesP p).any fun a => (namesP q).any fun b => decide (a = b)

def twoP (p q : Pr) : Pr × Pr × Bool :=
  if p.kind = 0 /\ q.kind = 0 /\ p.name = q.name then
    (if q.place > p.place + p.new.length then (placed q (q.place - p.new.length + p.old.length), p, true)
    else if q.place + q.old.length < p.place then (q, placed p (p.place + q.new.length - q.old.length), true)
    else (p, q, false))
  else if p.kind = 0 /\ q.kind = 3 /\ p.name = q.name then (q, inFile p q.to, true)
  else if p.kind = 3 /\ q.kind = 0 /\ p.to = q.name then (inFile q p.name, p, true)
  else if p.kind = 0 /\ q.kind = 0 then (q, p, true)
  else (q, p, !commonP p q)

def swapP (p q : Pr) : Option (Pr × Pr) :=
  if rightP p = true /\ rightP q = true /\ (twoP p q).2.2 = true /\ rightP (twoP p q).1 = true /\ rightP (twoP p q).2.1 = true then some ((twoP p q).1, (twoP p q).2.1) else none

theorem mem_names {p : Pr} {n : ByteArray} : n ∈ namesP p ↔ n = p.name ∨ p.kind = 3 /\ n = p.to := by
  unfold namesP
  by_cases h : p.kind = 3
  · simp only [h, ne_eq, not_true, if_false, true_and]
    split
    · simp
    · simp [or_comm]
  · simp [h]
theorem common_iff {p q : Pr} : commonP p q = true ↔ ∃ n, n ∈ namesP p /\ n ∈ namesP q := by
  simp only [commonP, List.any_eq_true, decide_eq_true_eq]
  constructor
  · rintro ⟨a, ha, b, hb, rfl⟩; exact ⟨a, ha, hb⟩
  · rintro ⟨a, ha, hb⟩; exact ⟨a, ha, a, hb, rfl⟩
theorem common_no {p q : Pr} : commonP p q = false ↔ ∀ n, n ∈ namesP p -> n ∉ namesP q := by
  rw [← Bool.not_eq_true, common_iff]
  exact ⟨fun h n a b => h ⟨n, a, b⟩, fun h ⟨n, a, b⟩ => h n a b⟩

theorem move_else {x : Pr} (hr : rightP x = true) (e : x.kind = 3) : x.to ≠ x.name := ((right_parts hr).2.2.2.2.2 e).2
theorem place_in {p : Pr} (hr : rightP p = true) (h0 : p.kind = 0) : 0 <= p.place /\ p.place <= 1048576 := (right_parts hr).2.2.2.2.1 h0


end Go.Proofs.YtlnjhimbgckdcaaGreat

/-
  Two prims in the other order make the same tree. Nothing of any program.
-/
namespace Go.Proofs.YtlnjhimbgckdcaaGreat
open Go.RowKit

abbrev Look := ByteArray -> Option (List ByteArray)
def putL (g : Look) (n : ByteArray) (o : Option (List ByteArray)) : Look := fun m => if m = n then o else g m

structure Makes (p : Pr) (g g' : Look) : Prop where
  hunk : p.kind = 0 -> ∃ l, g p.name = some l /\ standsB l p.place p.old = true /\ g' = putL g p.name (some (spliced l p.place.toNat p.old.length p.new))
  add : p.kind = 1 -> g p.name = none /\ g' = putL g p.name (some [])
  rm : p.kind = 2 -> g p.name = some [] /\ g' = putL g p.name none
  move : p.kind = 3 -> ∃ l, g p.name = some l /\ g p.to = none /\ g' = putL (putL g p.name none) p.to (some l)

section
variable {p q a b : Pr} {g g' : Look}
theorem putL_other (g : Look) {n m : ByteArray} (o) (h : m ≠ n) : putL g n o m = g m := by simp [putL, h]
theorem Makes.other (h : Makes p g g') (hk : p.kind = 0 ∨ p.kind = 1 ∨ p.kind = 2 ∨ p.kind = 3) {n : ByteArray} (hn : n ∉ namesP p) : g' n = g n := by
  rw [mem_names] at hn
  have hn1 : n ≠ p.name := fun e => hn (.inl e)
  rcases hk with e | e | e | e
  · obtain ⟨l, _, _, rfl⟩ := h.hunk e; exact putL_other _ _ hn1
  · obtain ⟨_, rfl⟩ := h.add e; exact putL_other _ _ hn1
  · obtain ⟨_, rfl⟩ := h.rm e; exact putL_other _ _ hn1
  · obtain ⟨l, _, _, rfl⟩ := h.move e
    rw [putL_other _ _ (fun x => hn (.inr ⟨e, x⟩)), putL_other _ _ hn1]
end


end Go.Proofs.YtlnjhimbgckdcaaGreat

/-
  Rows of prims as plain lists: what undoes them, what they make of a tree, and one row behind another one. Nothing of any program.
-/
namespace Go.Proofs.YtlnjhimbgckdcaaGreat
open Go.RowKit

def invertS (l : List Pr) : List Pr := (l.map invertP).reverse
def swap1 : Pr -> List Pr -> Option (List Pr × Pr)
  | p, [] => some ([], p)
  | p, q :: m => (swapP p q).bind fun s => (swap1 s.2 m).map fun r => (s.1 :: r.1, r.2)
def swapS : List Pr -> List Pr -> Option (List Pr × List Pr)
  | [], m => some (m, [])
  | p :: l, m => (swapS l m).bind fun s => (swap1 p s.1).map fun r => (r.1, r.2 :: s.2)
def splitStep (w : Bool) (s : List Pr × List Pr) (p : Pr) : List Pr × List Pr :=
  match swapS s.2 [p] with
  | some r => if w = true then (s.1 ++ r.1, r.2) else (s.1, s.2 ++ [p])
  | none => (s.1, s.2 ++ [p])
def splitS (wanted : Nat -> Bool) : Nat -> List Pr × List Pr -> List Pr -> List Pr × List Pr
  | _, s, [] => s
  | k, s, p :: l => splitS wanted (k + 1) (splitStep (wanted k) s p) l

section
variable {p q : Pr} {l m a b : List Pr}
theorem swap1_cons {r : List Pr × Pr} : swap1 p (q :: m) = some r ↔ ∃ q' p1 m' p', swapP p q = some (q', p1) /\ swap1 p1 m = some (m', p') /\ r = (q' :: m', p') := by
  simp only [swap1]
  constructor
  · intro h
    obtain ⟨⟨q', p1⟩, h1, h⟩ := Option.bind_eq_some_iff.1 h
    obtain ⟨⟨m', p'⟩, h2, h⟩ := Option.map_eq_some_iff.1 h
    exact ⟨q', p1, m', p', h1, h2, h.symm⟩
  · rintro ⟨q', p1, m', p', h1, h2, rfl⟩
    simp [h1, h2]
theorem swapS_cons {r : List Pr × List Pr} : swapS (p :: l) m = some r ↔ ∃ m1 l' m2 p', swapS l m = some (m1, l') /\ swap1 p m1 = some (m2, p') /\ r = (m2, p' :: l') := by
  simp only [swapS]
  constructor
  · intro h
    obtain ⟨⟨m1, l'⟩, h1, h⟩ := Option.bind_eq_some_iff.1 h
    obtain ⟨⟨m2, p'⟩, h2, h⟩ := Option.map_eq_some_iff.1 h
    exact ⟨m1, l', m2, p', h1, h2, h.symm⟩
  · rintro ⟨q', p1, m', p', h1, h2, rfl⟩
    simp [h1, h2]
theorem swap1_length {r : List Pr × Pr} : ∀ {m : List Pr} {p : Pr}, swap1 p m = some r -> r.1.length = m.length := by
  intro m
  induction m generalizing r with
  | nil => intro p h; cases h; rfl
  | cons q m ih =>
    intro p h
    obtain ⟨q', p1, m', p', _, h2, rfl⟩ := swap1_cons.1 h
    have := ih h2
    simp only [List.length_cons] at *
    omega
theorem swapS_length (h : swapS l m = some (a, b)) : a.length = m.length /\ b.length = l.length := by
  induction l generalizing a b with
  | nil => cases h; exact ⟨rfl, rfl⟩
  | cons p l ih =>
    obtain ⟨m1, l', m2, p', h1, h2, e⟩ := swapS_cons.1 h
    cases e
    have k1 := ih h1
    have k2 := swap1_length h2
    simp only [List.length_cons] at *
    omega
theorem swap1_append : swap1 p (l ++ m) = (swap1 p l).bind fun s => (swap1 s.2 m).map fun r => (s.1 ++ r.1, r.2) := by
  induction l generalizing p with
  | nil => simp [swap1]
  | cons q l ih =>
    simp only [List.cons_append, swap1]
    cases swapP p q with
    | none => rfl
    | some s =>
      simp only [Option.bind_some, ih]
      cases swap1 s.2 l with
      | none => rfl
      | some r =>
        simp only [Option.bind_some, Option.map_some]
        cases swap1 r.2 m <;> rfl
theorem swapS_append_left {k : List Pr} : swapS (l ++ k) m = (swapS k m).bind fun s => (swapS l s.1).map fun r => (r.1, r.2 ++ s.2) := by
  induction l with
  | nil => simp only [List.nil_append, swapS]; cases swapS k m <;> rfl
  | cons p l ih =>
    simp only [List.cons_append, swapS, ih]
    cases swapS k m with
    | none => rfl
    | some s =>
      simp only [Option.bind_some]
      cases swapS l s.1 with
      | none => rfl
      | some r =>
        simp only [Option.map_some, Option.bind_some]
        cases swap1 p r.1 <;> rfl
end


end Go.Proofs.YtlnjhimbgckdcaaGreat

/-
  Patches as plain values: when they are right, in the other order, past others, and the group of the first one. Nothing of any program.
-/
namespace Go.Proofs.YtlnjhimbgckdcaaGreat
open Go.RowKit

structure Pa where
  id : Int
  note : ByteArray
  deps : List Int
  l : List Pr

def risingI : List Int -> Bool
  | [] => true
  | [_] => true
  | a :: b :: r => decide (a < b) && risingI (b :: r)
def rightN (p : Pa) : Bool :=
  decide (1 <= p.id /\ p.id <= 1000000000) && rightB p.note && decide (p.deps.length <= 8) && decide (1 <= p.l.length /\ p.l.length <= 24) &&
    p.deps.all (fun d => decide (1 <= d /\ d <= 1000000000) && decide (d ≠ p.id)) && risingI p.deps && p.l.all rightP
def sameN (p q : Pa) : Bool := decide (p.id = q.id) && decide (p.note = q.note) && decide (p.deps = q.deps) && decide (p.l.length = q.l.length) && (p.l.zip q.l).all fun x => sameP x.1 x.2
def swapN (p q : Pa) : Option (Pa × Pa) :=
  if rightN p = true /\ rightN q = true /\ p.id ≠ q.id /\ q.id ∉ p.deps /\ p.id ∉ q.deps then (swapS p.l q.l).map fun s => ({ q with l := s.1 }, { p with l := s.2 }) else none
def pastN : List Pa -> Pa -> Option (Pa × List Pa)
  | [], q => some (q, [])
  | p :: l, q => (pastN l q).bind fun s => (swapN p s.1).map fun r => (r.1, r.2 :: s.2)
def groupStep (s : List Pa × List Pa) (p : Pa) : List Pa × List Pa :=
  match pastN s.1 p with
  | some r => (r.2, s.2 ++ [r.1])
  | none => (s.1 ++ [p], s.2)
def groupN : List Pa -> List Pa × List Pa
  | [] => ([], [])
  | p :: l => l.foldl groupStep ([p], [])

theorem zip_same : ∀ {a b : List Pr}, a.length = b.length -> ((a.zip b).all fun x => sameP x.1 x.2) = true -> a = b
  | [], [], _, _ => rfl
  | [], _ :: _, h, _ => by simp at h
  | _ :: _, [], h, _ => by simp at h
  | x :: a, y :: b, h, k => by
    simp only [List.zip_cons_cons, List.all_cons, Bool.and_eq_true] at k
    rw [sameP_iff.1 k.1, zip_same (by simpa using h) k.2]
theorem sameN_iff {p q : Pa} : sameN p q = true ↔ p = q := by
  obtain ⟨i, n, d, l⟩ := p
  obtain ⟨i', n', d', l'⟩ := q
  simp only [sameN, Bool.and_eq_true, decide_eq_true_eq, Pa.mk.injEq]
  constructor
  · rintro ⟨⟨⟨⟨h1, h2⟩, h3⟩, h4⟩, h5⟩; exact ⟨h1, h2, h3, zip_same h4 h5⟩
  · rintro ⟨rfl, rfl, rfl, rfl⟩
    refine ⟨⟨⟨⟨rfl, rfl⟩, rfl⟩, rfl⟩, List.all_eq_true.2 fun x hx => ?_⟩
    have : ∀ {l : List Pr} {x : Pr × Pr}, x ∈ l.zip l -> x.1 = x.2 := by
      intro l
      induction l with
      | nil => intro x h; simp at h
      | cons y l ih =>
        intro x h
        rcases List.mem_cons.1 h with rfl | h
        · rfl
        · exact ih h
    rw [this hx]; exact sameP_self _



section
variable {t u v : Tr} {p q c d : Pa} {l m : List Pa}
theorem pastN_cons {r : Pa × List Pa} : pastN (p :: l) q = some r ↔ ∃ q' rest a b, pastN l q = some (q', rest) /\ swapN p q' = some (a, b) /\ r = (a, b :: rest) := by
  simp only [pastN]
  constructor
  · intro h
    obtain ⟨⟨q', rest⟩, h1, h⟩ := Option.bind_eq_some_iff.1 h
    obtain ⟨⟨a, b⟩, h2, h⟩ := Option.map_eq_some_iff.1 h
    exact ⟨q', rest, a, b, h1, h2, h.symm⟩
  · rintro ⟨q', rest, a, b, h1, h2, rfl⟩
    simp [h1, h2]
theorem pastN_length {rest : List Pa} (h : pastN l q = some (c, rest)) : rest.length = l.length := by
  induction l generalizing c rest with
  | nil => cases h; rfl
  | cons p l ih =>
    obtain ⟨q', rest', a, b, h1, _, e⟩ := pastN_cons.1 h
    cases e
    simp [ih h1]
end

end Go.Proofs.YtlnjhimbgckdcaaGreat
