import Derived.Test.YtbhnbkcokhfopaaGreatPk13
import Derived.Test.YtbhnbkcokhfopaaGreatPk8
import Derived.Deep.LoopGhost
import Derived.Deep.QuietTactic
import Derived.BigQuiet
import Derived.Lib.Hide

/-
  What slices.Grow (of nothing) and slices.Concat come to over rows of prims, and diff's Cost, as calls.
-/
namespace Go.Proofs.YtbhnbkcokhfopaaGreat
open Go.RowKit Go.Maps

section
variable {P : Program} (w : World)
/-- append(nil, make(.., m)...). -/
theorem run_append_zeros (t tn ty e : TypeId) (kd : IntKind) (i : TypeInfo) (z : Value) (ht : P.underlying t = some (.slice e)) (htn : P.underlying tn = some (.int kd)) (hi : P.info? e = some i) (hz : i.zero = some z) (m : Nat) (h0 : 0 < m) (hm : m ≤ 1000000) (hs : 0 < i.size) (hb : i.bytes ≤ 1000) :
    (Builtin.append_ #[t, tn] ty #[.slice none 0 0, .int .i64 (m : Nat)]).run P w =
      .ok (.slice (some ⟨w.heap.size, 0, none⟩) m (grownCap w m 0 e)) (w.drew.alloc (.cells (Builtin.zeroCells z.cells m ++ Builtin.zeroCells z.cells (grownCap w m 0 e - m)) e)) := by
  have hn : m ≠ 0 := by omega
  have hwr : IntKind.i64.wrap (m : Int) = m := IntWalk.i64_in _ (by omega)
  have hneg : ¬ ((m : Int) < 0) := by omega
  have hmb : m * i.bytes ≤ 1000000 * 1000 := Nat.mul_le_mul hm hb
  have hbig : ¬ (281474976710656 < (m : Int) * (i.bytes : Int)) := by
    have : ((m * i.bytes : Nat) : Int) ≤ 1000000000 := by omega
    rw [Int.natCast_mul] at this
    omega
  have h63' : ¬ (9223372036854775807 < (m : Int)) := by omega
  have h48' : ¬ (281474976710656 < Builtin.nextslicecap m 0 * i.bytes) := by rw [nextslicecap_zero h0]; omega
  have hms : ¬ (i.size = 0) := by omega
  simp [Builtin.append_, run_underlying ht, run_underlying htn, sizeOf, typeInfo, zeroValue, hi, hz, asInt, asIntOf, hwr, hneg, hbig, hn, h63', h48', Question.forced, run_firstCells_none, newRow, grownCap]
  exact fun h => absurd h (Nat.mul_ne_zero hn hms)
end
section
variable {P : Program} {w w0 : World} {e : TypeId}
theorem wpList_append_zeros {ops : Array Oper} {rest : List Oper} {o : Oper} {a : Act} {Q : Exit → Act → World → Prop} (hgd : o.guard = none) (s x : Operand) (t tn : TypeId) (ho : o.op = .call { callee := .builtin .append, args := #[s, x], argTypes := #[t, tn] }) (kd : IntKind) (i : TypeInfo) (z : Value)
    (ht : P.underlying t = some (.slice e)) (htn : P.underlying tn = some (.int kd)) (hi : P.info? e = some i) (hz : i.zero = some z) (hsz : i.size = 6) (hzs : z.cells.size = 6) (hb : i.bytes ≤ 1000) (hs : a.eval s = .slice none 0 0) (m : Nat) (hx : a.eval x = .int .i64 (m : Nat)) (h0 : 0 < m) (hm : m ≤ 1000000) (hl : Later w0 w)
    (h : ∀ c w', m ≤ c → OwnPs e w0 w' (.slice (some ⟨w.heap.size, 0, none⟩) 0 c) [] → wpList P ops Q rest (a.put o.dst (.slice (some ⟨w.heap.size, 0, none⟩) m c)) w') : wpList P ops Q (o :: rest) a w := by
  refine wpList_plain hgd fun K hK => ?_
  have hrun := run_append_zeros (P := P) w t tn o.type e kd i z ht htn hi hz m h0 hm (by omega) hb
  have hge := grownCap_ge w m 0 e
  have hcm : grownCap w m 0 e ≤ maxLen := grownCap_le_maxLen w m 0 e (by simp only [maxLen]; omega)
  unfold Oper.wp execOp
  simp only [ho, resolve, invoke, builtin, Sem.run_bind, Sem.run_pure, Result.andThen_ok, List.map_toArray, List.map_cons, List.map_nil, hs, hx, hrun]
  refine hK _ _ (h _ _ hge ⟨⟨?_, (fun _ h => by cases h), hl.drew.alloc _⟩, (fun _ h => by cases h), fun _ h => by cases h⟩)
  have := World.ownsRow_made (base := w0.heap.size) (e := e) (size := 6) w.drew (Builtin.zeroCells z.cells m ++ Builtin.zeroCells z.cells (grownCap w m 0 e - m)) (grownCap w m 0 e) hl.drew.le hcm (by
    simp only [Array.size_append, size_zeroCells, hzs, ← Nat.add_mul]
    congr 1
    omega)
  exact this
end

set_option maxRecDepth 100000 in
set_option maxHeartbeats 800000 in
theorem grow_any (m : Nat) (w : World) (hm : m ≤ 60000) :
    Calls Tryz.prog 56 #[.slice none 0 0, .int .i64 (m : Nat)] w fun e w' => ∃ v, e = .returned v ∧ OwnPs 53 w w' v [] := by
  obtain ⟨i0, hi, hz0, hz1, hz2⟩ := info_parts Tryz.primInfo
  by_cases h0 : m = 0
  · subst h0
    go_enter Tryz.func56, Tryz.ntmps56
    go_wp2
    go_ret
    exact ⟨_, rfl, OwnPs.nil (Later.refl w)⟩
  · have hpos : 0 < m := by omega
    go_enter Tryz.func56, Tryz.ntmps56
    go_wp2_with (at_builtin; refine wpList_append_zeros (w0 := w) rfl _ _ 31 3 rfl .i64 i0 _ Tryz.underlying31 Tryz.underlying3 hi hz0 hz1 rfl (by rw [hz2]; decide) rfl m rfl hpos (by omega) (Later.refl w) ?_; intro c1 w1 hc1 ho1; have HO := Lib.hid ho1; clear ho1)
    go_ret
    exact ⟨_, rfl, HO.out⟩

/-- A row of prims, and where it stands. -/
structure PsC where
  A : Option Addr
  n : Nat
  c : Nat
  xs : List PrC
/-- The slice reads as these rows. -/
structure RowsOk (w : World) (A : Option Addr) (n : Nat) (rs : List PsC) : Prop where
  row : RowK 1 w A n (rs.map fun r => [.slice r.A r.n r.c])
  each : ∀ r ∈ rs, PsOk w r.A r.n r.xs
section
variable {w w' : World} {A : Option Addr} {n : Nat} {rs : List PsC}
theorem RowsOk.later (h : RowsOk w A n rs) (hl : Later w w') : RowsOk w' A n rs := ⟨h.row.later hl, fun r hr => (h.each r hr).later hl⟩
theorem RowsOk.len (h : RowsOk w A n rs) : rs.length = n := by have := h.row.len; simpa using this
theorem RowsOk.get (h : RowsOk w A n rs) {j : Nat} (hj : j < n) : ∃ b o r, A = some ⟨b, o, .none⟩ ∧ rs[j]? = some r ∧ PsOk w r.A r.n r.xs ∧ w.cell? ⟨b, o + j, .none⟩ = some (.slice r.A r.n r.c) := by
  obtain ⟨b, o, e, cs, hcs, _, hc⟩ := h.row.get hj
  have hl : j < rs.length := by rw [h.len]; exact hj
  have hz := List.getElem?_eq_getElem hl
  simp only [List.getElem?_map, hz, Option.map_some, Option.some.injEq] at hcs
  subst hcs
  have := hc 0 _ rfl
  rw [Nat.mul_one, Nat.add_zero] at this
  exact ⟨b, o, rs[j], e, hz, h.each _ (List.getElem_mem hl), this⟩
end
def allC (rs : List PsC) : List PrC := rs.flatMap (·.xs)
theorem allC_take {rs : List PsC} {k : Nat} {r : PsC} (h : rs[k]? = some r) : allC (rs.take (k + 1)) = allC (rs.take k) ++ r.xs := by
  obtain ⟨hk, rfl⟩ := List.getElem?_eq_some_iff.1 h
  unfold allC
  rw [List.take_succ_eq_append_getElem hk, List.flatMap_append]
  simp
theorem allC_le {rs : List PsC} (k : Nat) : (allC (rs.take k)).length ≤ (allC rs).length := by
  unfold allC
  conv => rhs; rw [← List.take_append_drop k rs, List.flatMap_append, List.length_append]
  omega

set_option maxRecDepth 100000 in
set_option maxHeartbeats 1600000 in
theorem concat_any (A : Option Addr) (n c : Nat) (rs : List PsC) (w : World) (hr : RowsOk w A n rs) (hn : n ≤ 1000) (hm : (allC rs).length ≤ 60000) :
    Calls Tryz.prog 29 #[.slice A n c] w fun e w' => ∃ v, e = .returned v ∧ OwnPs 53 w w' v (allC rs) := by
  obtain ⟨i0, hi, hz0, hz1, hz2⟩ := info_parts Tryz.primInfo
  have HX := Lib.hid hr; clear hr
  go_enter Tryz.func29, Tryz.ntmps29
  go_wp2
  go_loopg [3, 11] (n + 1) (fun g s3 s11 wr => ∃ k t : Nat, k ≤ n ∧ n - k ≤ g ∧ s11 = .int .i64 (k : Nat) ∧ s3 = .int .i64 (t : Nat) ∧ Hid (t = (allC (rs.take k)).length) ∧ Hid (w = wr))
  case atStart => exact ⟨0, 0, Nat.zero_le _, by omega, rfl, rfl, by simp [Hid, allC], Lib.hid rfl⟩
  case round =>
    obtain ⟨k, t, hk, hg, rfl, rfl, ht, hw⟩ := hrel
    obtain rfl := hw.out
    clear hw
    have htb : t ≤ 60000 := by have := allC_le (rs := rs) k; rw [ht.out]; omega
    by_cases hlt : k < n
    · obtain ⟨b, o, r, rfl, hz, hok, c0⟩ := HX.out.get hlt
      have htk := allC_take hz
      have hle := allC_le (rs := rs) (k + 1)
      rw [htk, List.length_append, ← ht.out, hok.len] at hle
      have HT : Hid (t + r.n = (allC (rs.take (k + 1))).length) := by
        show _ = _
        rw [htk, List.length_append, ← ht.out, hok.len]
      clear htk hz hok
      go_wp2
      go_roundg (n - (k + 1))
      case measure => omega
      case rel => exact ⟨k + 1, t + r.n, by omega, Nat.le_refl _, by go_num, by go_num, HT, Lib.hid rfl⟩
    · have HG := Lib.hid (grow_any t w htb)
      clear ht
      go_wp2_with fail
      refine HG.out.mono ?_
      rintro e w1 ⟨v1, rfl, ho1⟩
      have HO1 := Lib.hid ho1
      clear ho1 HG
      go_wp2
      go_loopg [6, 27] (n + 1) (fun g s6 s27 wq => ∃ (k : Nat) (v : Value), k ≤ n ∧ n - k ≤ g ∧ s27 = .int .i64 (k : Nat) ∧ s6 = v ∧ Hid (OwnPs 53 w wq v (allC (rs.take k))))
      case atStart => exact ⟨0, _, Nat.zero_le _, by omega, rfl, rfl, by simpa [Hid, allC] using HO1.out⟩
      case round =>
        obtain ⟨k2, v, hk2, hg2, rfl, hv, hO⟩ := hrel
        obtain rfl := hv.symm
        clear hv HO1
        by_cases hlt2 : k2 < n
        · obtain ⟨b, o, r, rfl, hz, hok, c0⟩ := (HX.out.later hO.out.later).get hlt2
          have HTK := Lib.hid (allC_take hz)
          have hle := allC_le (rs := rs) (k2 + 1)
          rw [HTK.out, List.length_append, hok.len] at hle
          have HOK := Lib.hid hok
          have HAW : Hid (∀ y ∈ r.xs, ∀ g, v.ownBlock = some g → Away g y) := fun y hy g hg => ((HX.out.each r (List.mem_of_getElem? hz)).each y hy).away (hO.out.block g hg)
          clear hz hok
          go_wp2_with (at_builtin; refine wpList_append_ps rfl _ _ 31 rfl i0 _ 96 Tryz.underlying31 hi hz0 hz1 hz2 rfl hO.out rfl _ _ _ r.xs rfl HOK.out.row HOK.out.each HAW.out (by omega) (by omega) ?_; intro v4 w4 hown4 hg4; have HO4 := Lib.hid hown4; clear hown4 hg4)
          go_roundg (n - (k2 + 1))
          case measure => omega
          case rel => exact ⟨k2 + 1, v4, by omega, Nat.le_refl _, by go_num, rfl, by show OwnPs _ _ _ _ _; rw [HTK.out]; exact HO4.out⟩
        · have hE := hO.out
          rw [List.take_of_length_le (by rw [HX.out.len]; omega)] at hE
          have HE := Lib.hid hE
          clear hE
          go_wp2
          go_ret
          exact ⟨v, rfl, HE.out⟩

theorem cost_ok {w : World} : ∀ {xs : List PrC}, (∀ x ∈ xs, PrOk w x) → costP (valsP xs) ≤ xs.length * 131072
  | [], _ => by simp [costP, valsP]
  | x :: xs, h => by
    have ih := cost_ok (xs := xs) (fun y hy => h y (List.mem_cons_of_mem _ hy))
    have hx := h x List.mem_cons_self
    have e1 := hx.old.len; have e2 := hx.new.len; have h1 := hx.omost; have h2 := hx.nmost
    simp only [valsP, List.map_cons, cost_cons, List.length_cons] at *
    omega

set_option maxRecDepth 100000 in
set_option maxHeartbeats 800000 in
theorem cost_any (A : Option Addr) (n c : Nat) (xs : List PrC) (w : World) (hx : PsOk w A n xs) (hn : n ≤ 65536) (hc : costP (valsP xs) ≤ 1000000000000) :
    Calls Tryz.prog 22 #[.slice A n c] w fun e w' => e = .returned (.int .i64 (costP (valsP xs) : Nat)) ∧ Later w w' := by
  have HX := Lib.hid hx; clear hx
  go_enter Tryz.func22, Tryz.ntmps22
  go_wp2
  go_loopg [3, 8] (n + 1) (fun g s3 s8 wr => ∃ k t : Nat, k ≤ n ∧ n - k ≤ g ∧ s8 = .int .i64 (k : Nat) ∧ s3 = .int .i64 (t : Nat) ∧ Hid (t = costP ((valsP xs).take k)) ∧ Hid (Later w wr))
  case atStart => exact ⟨0, 0, Nat.zero_le _, by omega, rfl, rfl, by simp [Hid, costP], Later.refl w⟩
  case round =>
    obtain ⟨k, t, hk, hg, rfl, rfl, ht, hwr⟩ := hrel
    have hsplit : ∀ j, costP ((valsP xs).take j) ≤ costP (valsP xs) := by
      intro j
      conv => rhs; rw [← List.take_append_drop j (valsP xs), cost_append]
      omega
    have htb : t ≤ 1000000000000 := by rw [ht.out]; exact Nat.le_trans (hsplit k) hc
    by_cases hlt : k < n
    · obtain ⟨b, o, x, rfl, hz, hok, g0, g1, g2, g3, g4, g5⟩ := (HX.out.later hwr.out).get hlt
      have HLB : Hid (Later wr (wr.alloc (.cells #[.int .i64 x.v.kind, .string x.v.name, .string x.v.to, .int .i64 x.v.place, .slice x.A x.n x.c, .slice x.B x.m x.d] 53))) := (Later.refl wr).alloc _
      have hb2 := hsplit (k + 1)
      have htk := valsP_take hz
      have e1 := hok.old.len; have e2 := hok.new.len
      have hnx : costP ((valsP xs).take (k + 1)) = t + (x.n + x.m) := by
        rw [htk, cost_append, ← ht.out, ← e1, ← e2]
        simp [costP]
      rw [hnx] at hb2
      have HNX := Lib.hid hnx.symm
      clear hsplit htk hnx hok hz e1 e2
      go_wp2
      go_roundg (n - (k + 1))
      case measure => omega
      case rel => exact ⟨k + 1, t + (x.n + x.m), by omega, Nat.le_refl _, by go_num, by go_num, HNX, hwr.out.trans HLB.out⟩
    · have HE : Hid (t = costP (valsP xs)) := by
        have := ht.out
        rw [List.take_of_length_le (by rw [valsP_length, HX.out.len]; omega)] at this
        exact this
      clear hsplit
      go_wp2
      go_ret
      exact ⟨by rw [← HE.out]; rfl, hwr.out⟩

end Go.Proofs.YtbhnbkcokhfopaaGreat

/-
  What diff's Trees comes to, as a call.
-/
namespace Go.Proofs.YtbhnbkcokhfopaaGreat
open Go.RowKit Go.Maps

/-- Two rows of the call's own, each away from the other one's block. -/
structure Apart6 (v u : Value) (ys zs : List PrC) : Prop where
  ne : ∀ g, v.ownBlock = some g → u.ownBlock ≠ some g
  yu : ∀ y ∈ ys, ∀ g, u.ownBlock = some g → Away g y
  zv : ∀ z ∈ zs, ∀ g, v.ownBlock = some g → Away g z
section
variable {e : TypeId} {w0 W W' : World} {v v' u : Value} {ys zs news : List PrC}
theorem Apart6.symm (h : Apart6 v u ys zs) : Apart6 u v zs ys := ⟨fun g h1 h2 => h.ne g h2 h1, h.zv, h.yu⟩
theorem Apart6.grow (h : Apart6 v u ys zs) (ho : OwnPs e w0 W u zs) (h5 : v'.ownBlock = v.ownBlock ∨ v'.ownBlock = some W.heap.size) (hn : ∀ y ∈ news, ∀ g, u.ownBlock = some g → Away g y) : Apart6 v' u (ys ++ news) zs := by
  refine ⟨fun g hg => ?_, fun y hy g hg => ?_, fun z hz g hg => ?_⟩
  · rcases h5 with e1 | e1
    · rw [e1] at hg; exact h.ne g hg
    · rw [e1] at hg; cases hg; intro e2; have := ho.lt _ e2; omega
  · rcases List.mem_append.1 hy with h1 | h1
    · exact h.yu y h1 g hg
    · exact hn y h1 g hg
  · rcases h5 with e1 | e1
    · rw [e1] at hg; exact h.zv z hz g hg
    · rw [e1] at hg; cases hg; exact (ho.ok z hz).away (Nat.le_refl _)
theorem OwnPs.grew6 (ho : OwnPs e w0 W u zs) (hg : W.grownBy W' v.ownBlock) (h : Apart6 v u ys zs) (hb : ∀ b, v.ownBlock = some b → w0.heap.size ≤ b) : OwnPs e w0 W' u zs := by
  have hl : Later w0 W' := Below.grown ho.later hg ho.later.size hb
  cases hv : v.ownBlock with
  | none => rw [hv] at hg; exact ho.on ⟨hg.os, hg.tape, hg.output, hg.size, fun i hi => hg.block i hi (by simp)⟩
  | some g => rw [hv] at hg; exact ho.other (g := g) hg (h.ne g hv) (fun z hz => h.zv z hz g hv) hl
end
theorem Row.keepG {w w' : World} {A : Option Addr} {n c : Nat} {l : List ByteArray} {r : Option Nat} (h : Row w A n l) (hg : w.grownBy w' r) (hne : ∀ b, (Value.slice A n c).ownBlock = some b → r ≠ some b) : Row w' A n l :=
  ⟨h.1, fun hn => by
    obtain ⟨b, o, e, hc⟩ := h.2 hn
    refine ⟨b, o, e, fun j s hs => ?_⟩
    have h3 := hc j s hs
    rw [World.cell?_of_block (hg.block b (lt_of_cell h3) (fun e2 => hne b (by rw [e]; rfl) e2.symm))]
    exact h3⟩
theorem RowK.three (w : World) (a b c : Value) (t : TypeId) : RowK 1 (w.alloc (.cells #[a, b, c] t)) (some ⟨w.heap.size, 0, .none⟩) 3 [[a], [b], [c]] := by
  have hb : (w.alloc (.cells #[a, b, c] t)).heap[w.heap.size]? = some (.cells #[a, b, c] t (0, 0)) := heap_alloc_new w _
  refine ⟨rfl, (fun cs hcs => by simp at hcs; rcases hcs with rfl | rfl | rfl <;> rfl), fun _ => ⟨_, _, rfl, fun j i cs v hj hi => ?_⟩⟩
  simp only [World.cell?, hb]
  match j, hj with
  | 0, hj => simp at hj; subst hj; match i, hi with | 0, hi => simpa using hi
  | 1, hj => simp at hj; subst hj; match i, hi with | 0, hi => simpa using hi
  | 2, hj => simp at hj; subst hj; match i, hi with | 0, hi => simpa using hi
/-- A prim of a name alone. -/
def bareC (k : Int) (nm : ByteArray) : PrC := ⟨⟨k, nm, ByteArray.empty, 0, [], []⟩, none, 0, 0, none, 0, 0⟩
theorem bare_ok (k : Int) {nm : ByteArray} (h : nm.size ≤ maxLen) (w : World) : PrOk w (bareC k nm) :=
  ⟨Row.none, Row.none, Nat.le_refl _, Nat.le_refl _, Nat.zero_le _, Nat.zero_le _, h, Nat.zero_le _, by simp [bareC], by simp [bareC], (fun s hs => by cases hs), fun s hs => by cases hs⟩
theorem bare_away (k : Int) (nm : ByteArray) (g : Nat) : Away g (bareC k nm) := ⟨fun h => absurd rfl h, fun h => absurd rfl h⟩
theorem take_snoc {α : Type} {l : List α} {k : Nat} {x : α} (h : l[k]? = some x) : l.take (k + 1) = l.take k ++ [x] := by
  obtain ⟨hk, rfl⟩ := List.getElem?_eq_some_iff.1 h
  exact List.take_succ_eq_append_getElem hk
theorem names_at {t : Tr} {k : Nat} (hk : k < t.length) : ∃ f, t[k]? = some f ∧ (namesT t).getD k ByteArray.empty = f.1 ∧ f ∈ t := by
  refine ⟨t[k], List.getElem?_eq_getElem hk, ?_, List.getElem_mem hk⟩
  simp [namesT, List.getD, List.getElem?_map, List.getElem?_eq_getElem hk]
theorem hasT_none {t : Tr} {n : ByteArray} (h : getT t n = none) : hasT t n = false := by unfold hasT; rw [h]; rfl
theorem hasT_some {t : Tr} {n : ByteArray} {l : List ByteArray} (h : getT t n = some l) : hasT t n = true := by unfold hasT; rw [h]; rfl
theorem gone_take (b : Tr) (l : Tr) (k : Nat) : (goneK b (l.take k)).length ≤ l.length * 202 := Nat.le_trans (gone_length b _) (Nat.mul_le_mul_right _ (by rw [List.length_take]; omega))
theorem come_take (b : Tr) (l : Tr) (k : Nat) : (comeK b (l.take k)).length ≤ l.length * 202 := Nat.le_trans (come_length b _) (Nat.mul_le_mul_right _ (by rw [List.length_take]; omega))
theorem stay_take (b : Tr) (l : Tr) (k : Nat) : (stayK b (l.take k)).length ≤ l.length * 202 := Nat.le_trans (stay_length b _) (Nat.mul_le_mul_right _ (by rw [List.length_take]; omega))
/-- What a tree's names and lines weigh is no more than there can be. -/
def MildT (t : Tr) : Prop := ∀ f ∈ t, f.1.size ≤ maxLen ∧ ∀ s ∈ f.2, s.size ≤ maxLen

set_option maxRecDepth 100000 in
set_option maxHeartbeats 6400000 in
theorem trees_any (va vb : Value) (a b : Tr) (w : World) (ha : TreeOr w va a) (hb : TreeOr w vb b) (na : a.length ≤ 80) (nb : b.length ≤ 80) (ma : MildT a) (mb : MildT b) (la : longT a = false) (lb : longT b = false) :
    Calls Tryz.prog 8 #[va, vb] w fun e w' => ∃ v xs, e = .returned v ∧ OwnPs 53 w w' v xs ∧ valsP xs = treesP a b := by
  obtain ⟨i1, hi1, hy0, hy1, hy2⟩ := info_parts Tryz.primInfo
  have HS1 := Lib.hid (some_any va a w ha)
  have HS2 := Lib.hid (fun w1 (h : Later w w1) => some_any vb b w1 (hb.later h))
  have HTR := Lib.hid (trees_is la lb)
  have HMA := Lib.hid ma; have HMB := Lib.hid mb; have HLA := Lib.hid la; have HLB := Lib.hid lb
  clear ha hb ma mb la lb
  go_enter Tryz.func8, Tryz.ntmps8
  go_wp2_with fail
  refine HS1.out.mono ?_
  rintro e w1 ⟨p, B, rfl, ht1, hl1⟩
  have HT1 := Lib.hid ht1; have HL1 := Lib.hid hl1
  clear ht1 hl1 HS1
  go_wp2_with fail
  refine (HS2.out w1 HL1.out).mono ?_
  rintro e w2 ⟨q, D, rfl, ht2, hl2⟩
  replace HT1 := Lib.hid (HT1.out.later hl2); have HT2 := Lib.hid ht2
  replace HL1 := Lib.hid (HL1.out.trans hl2)
  clear ht2 hl2 HS2
  have HG := Lib.hid (tooLong_any p B a w2 HT1.out (by omega) (fun f hf => (HMA.out f hf).1) HLA.out)
  go_wp2_with fail
  refine HG.out.mono ?_
  rintro e w3 ⟨rfl, hl3⟩
  replace HT1 := Lib.hid (HT1.out.later hl3); replace HT2 := Lib.hid (HT2.out.later hl3); replace HL1 := Lib.hid (HL1.out.trans hl3)
  clear hl3 HG
  have HG := Lib.hid (tooLong_any q D b w3 HT2.out (by omega) (fun f hf => (HMB.out f hf).1) HLB.out)
  go_wp2_with fail
  refine HG.out.mono ?_
  rintro e w4 ⟨rfl, hl4⟩
  replace HT1 := Lib.hid (HT1.out.later hl4); replace HT2 := Lib.hid (HT2.out.later hl4); replace HL1 := Lib.hid (HL1.out.trans hl4)
  clear hl4 HG
  have HG := Lib.hid (names_any p B a w4 HT1.out (by omega))
  go_wp2_with fail
  refine HG.out.mono ?_
  rintro e w5 ⟨v5, rfl, ho5⟩
  obtain ⟨A5, c5, hv5, hc5, hr5⟩ := ho5.row
  rw [show (namesT a).length = a.length from by simp [namesT]] at hv5 hc5 hr5
  subst hv5
  replace HT1 := Lib.hid (HT1.out.later ho5.later); replace HT2 := Lib.hid (HT2.out.later ho5.later); replace HL1 := Lib.hid (HL1.out.trans ho5.later)
  have HR5 := Lib.hid hr5
  clear ho5 hr5 HG
  go_wp2
  go_loopg [5, 7, 33] (a.length + 1) (fun g s5 s7 s33 wr => ∃ (k : Nat) (v u : Value) (ys zs : List PrC), k ≤ a.length ∧ a.length - k ≤ g ∧ s33 = .int .i64 (k : Nat) ∧ s5 = v ∧ s7 = u ∧ Hid (OwnPs 53 w5 wr v ys) ∧ Hid (OwnPs 53 w5 wr u zs) ∧ Hid (valsP ys = goneK b (a.take k)) ∧ Hid (valsP zs = stayK b (a.take k)) ∧ Hid (Apart6 v u ys zs))
  case atStart => exact ⟨0, _, _, [], [], Nat.zero_le _, by omega, rfl, rfl, rfl, OwnPs.nil (Later.refl _), OwnPs.nil (Later.refl _), rfl, rfl, ⟨(fun g h => by cases h), (fun y h => by cases h), fun z h => by cases h⟩⟩
  case round =>
    obtain ⟨k, v, u, ys, zs, hk, hg, rfl, hv, hu, hOv, hOu, hGo, hSt, hAp⟩ := hrel
    obtain rfl := hv.symm
    obtain rfl := hu.symm
    clear hv hu
    by_cases hlt : k < a.length
    · obtain ⟨f, hf, hfn, hfm⟩ := names_at hlt
      obtain ⟨b5, o5, rfl, c0⟩ := (HR5.out.later hOv.out.later).get (k := k) (by omega)
      rw [hfn] at c0
      have HG1 := Lib.hid (get_any p B f.1 a wr (HT1.out.later hOv.out.later) (HMA.out f hfm).1 (fun f' hf' => Nat.le_trans (long_no HLA.out hf') (by decide)))
      rw [mem_get HT1.out.files.rise hfm] at HG1
      have hl2 := long_no HLA.out hfm
      have HFS := Lib.hid (HMA.out f hfm)
      have HTK := Lib.hid (take_snoc hf)
      clear hf hfn hfm
      obtain ⟨fn, fl⟩ := f
      dsimp only at c0 HG1 hl2 HFS HTK
      go_wp2_with fail
      refine HG1.out.mono ?_
      rintro e w6 ⟨v1, rfl, ho1⟩
      obtain ⟨A1, c1, hv1, hc1, hr1⟩ := ho1.row
      simp only [Option.getD_some] at hv1 hc1 hr1
      subst hv1
      have HG2 := Lib.hid (get_any q D fn b w6 (HT2.out.later (hOv.out.later.trans ho1.later)) HFS.out.1 (fun f' hf' => Nat.le_trans (long_no HLB.out hf') (by decide)))
      have HR1 := Lib.hid hr1; have HL6 := Lib.hid ho1.later
      clear ho1 hr1 HG1 c0
      cases hgb : getT b fn with
      | some m =>
        rw [hgb] at HG2
        have HSM : Hid (fl.length ≤ 200 ∧ m.length ≤ 200 ∧ ∀ s ∈ m, s.size ≤ maxLen) := by
          have hm2 := (getT_iff HT2.out.files.rise).1 hgb
          exact ⟨hl2, long_no HLB.out hm2, (HMB.out _ hm2).2⟩
        have HGS : Hid (goneK b (a.take (k + 1)) = goneK b (a.take k)) := by show _ = _; rw [HTK.out]; exact goneK_no (f := (fn, fl)) (hasT_some hgb)
        have HSS : Hid (stayK b (a.take (k + 1)) = stayK b (a.take k) ++ linesP fn fl m) := by show _ = _; rw [HTK.out]; exact stayK_yes (f := (fn, fl)) hgb
        clear hgb
        go_wp2_with fail
        refine HG2.out.mono ?_
        rintro e w7 ⟨v2, rfl, ho2⟩
        obtain ⟨A2, c2, hv2, hc2, hr2⟩ := ho2.row
        simp only [Option.getD_some] at hv2 hc2 hr2
        subst hv2
        have hq1 := HSM.out.1; have hq2 := HSM.out.2.1
        have HLN := Lib.hid (lines_any fn A1 A2 _ c1 _ c2 fl m w7 (HR1.out.later ho2.later) hr2 hc1 hc2 (by omega) (by omega) HFS.out.1 HFS.out.2 HSM.out.2.2)
        have HL7 := Lib.hid (HL6.out.trans ho2.later)
        clear ho2 hr2 HG2
        go_wp2_with fail
        refine HLN.out.mono ?_
        rintro e w8 ⟨v3, xs3, rfl, ho3, hv3, hf3⟩
        obtain ⟨A3, c3, hs3, hcc3, hps3⟩ := ho3.row
        subst hs3
        have hx3 : xs3.length ≤ 201 := by have := linesP_length fn fl m; rw [← hv3, valsP_length] at this; exact this
        have hz3 : zs.length ≤ 16160 := by have := stay_take b a k; rw [← hSt.out, valsP_length] at this; omega
        have HLW := Lib.hid (HL7.out.trans ho3.later)
        have HOU := Lib.hid (hOu.out.on HLW.out); have HOV := Lib.hid (hOv.out.on HLW.out)
        have HLU : Hid (∀ g, u.ownBlock = some g → g < w7.heap.size) := fun g hg => Nat.lt_of_lt_of_le (hOu.out.lt g hg) HL7.out.le
        have HLV : Hid (∀ g, v.ownBlock = some g → g < w7.heap.size) := fun g hg => Nat.lt_of_lt_of_le (hOv.out.lt g hg) HL7.out.le
        have HF3 := Lib.hid hf3
        have HAW : Hid (∀ y ∈ xs3, ∀ g, u.ownBlock = some g → Away g y) := fun y hy g hg => (HF3.out y hy).away (HLU.out g hg)
        have HAV : Hid (∀ y ∈ xs3, ∀ g, v.ownBlock = some g → Away g y) := fun y hy g hg => (HF3.out y hy).away (HLV.out g hg)
        have HP3 := Lib.hid hps3; have HV3 := Lib.hid hv3
        clear ho3 hv3 hf3 hps3 HLN hOv hOu
        go_wp2_with (at_builtin; refine Hid.out ?_)
        refine Lib.hid (wpList_append_ps5 rfl _ _ 31 rfl i1 _ 96 Tryz.underlying31 hi1 hy0 hy1 hy2 rfl HOU.out rfl _ _ _ xs3 rfl HP3.out.row HP3.out.each HAW.out (by omega) (by omega) ?_)
        intro v9 w9 hov9 hgv9 h5v9
        have HO9 := Lib.hid hov9
        have HV9 := Lib.hid (HOV.out.grew6 hgv9 hAp.out.symm HOU.out.block)
        have HA9 := Lib.hid ((hAp.out.symm.grow HOV.out h5v9 HAV.out).symm)
        have HS9 : Hid (valsP (zs ++ xs3) = stayK b (a.take (k + 1))) := by show _ = _; rw [HSS.out, ← hSt.out, ← HV3.out]; simp [valsP]
        clear hov9 hgv9 h5v9 HOU HOV
        go_wp2
        go_roundg (a.length - (k + 1))
        case measure => omega
        case rel => exact ⟨k + 1, v, v9, ys, zs ++ xs3, by omega, Nat.le_refl _, by go_num, rfl, rfl, HV9, HO9, by show _ = _; rw [HGS.out]; exact hGo.out, HS9, HA9⟩
      | none =>
        rw [hgb] at HG2
        have HGS : Hid (goneK b (a.take (k + 1)) = goneK b (a.take k) ++ (linesP fn fl [] ++ [⟨2, fn, ByteArray.empty, 0, [], []⟩])) := by show _ = _; rw [HTK.out]; exact goneK_yes (f := (fn, fl)) (hasT_none hgb)
        have HSS : Hid (stayK b (a.take (k + 1)) = stayK b (a.take k)) := by show _ = _; rw [HTK.out]; exact stayK_no (f := (fn, fl)) (hasT_none hgb)
        clear hgb
        go_wp2_with fail
        refine HG2.out.mono ?_
        rintro e w7 ⟨v2, rfl, ho2⟩
        have HLN := Lib.hid (lines_any fn A1 none _ c1 0 0 fl [] w7 (HR1.out.later ho2.later) Row.none hc1 (Nat.le_refl _) (by omega) (by omega) HFS.out.1 HFS.out.2 (fun s hs => by cases hs))
        have HL7 := Lib.hid (HL6.out.trans ho2.later)
        clear ho2 HG2
        go_wp2_with fail
        refine HLN.out.mono ?_
        rintro e w8 ⟨v3, xs3, rfl, ho3, hv3, hf3⟩
        obtain ⟨A3, c3, hs3, hcc3, hps3⟩ := ho3.row
        subst hs3
        have hx3 : xs3.length ≤ 201 := by have := linesP_length fn fl []; rw [← hv3, valsP_length] at this; exact this
        have hy3 : ys.length ≤ 16160 := by have := gone_take b a k; rw [← hGo.out, valsP_length] at this; omega
        have HLW := Lib.hid (HL7.out.trans ho3.later)
        have HOU := Lib.hid (hOu.out.on HLW.out); have HOV := Lib.hid (hOv.out.on HLW.out)
        have HLU : Hid (∀ g, u.ownBlock = some g → g < w7.heap.size) := fun g hg => Nat.lt_of_lt_of_le (hOu.out.lt g hg) HL7.out.le
        have HLV : Hid (∀ g, v.ownBlock = some g → g < w7.heap.size) := fun g hg => Nat.lt_of_lt_of_le (hOv.out.lt g hg) HL7.out.le
        have HF3 := Lib.hid hf3
        have HAW : Hid (∀ y ∈ xs3, ∀ g, v.ownBlock = some g → Away g y) := fun y hy g hg => (HF3.out y hy).away (HLV.out g hg)
        have HAV : Hid (∀ y ∈ xs3, ∀ g, u.ownBlock = some g → Away g y) := fun y hy g hg => (HF3.out y hy).away (HLU.out g hg)
        have HP3 := Lib.hid hps3; have HV3 := Lib.hid hv3
        clear ho3 hv3 hf3 hps3 HLN hOv hOu
        go_wp2_with (at_builtin; refine Hid.out ?_)
        refine Lib.hid (wpList_append_ps5 rfl _ _ 31 rfl i1 _ 96 Tryz.underlying31 hi1 hy0 hy1 hy2 rfl HOV.out rfl _ _ _ xs3 rfl HP3.out.row HP3.out.each HAW.out (by omega) (by omega) ?_)
        intro v9 w9 hov9 hgv9 h5v9
        have HU9 := Lib.hid ((HOU.out.grew6 hgv9 hAp.out HOV.out.block).on ((Later.refl w9).alloc (.cells #[.int .i64 2, .string fn, .string ⟨#[]⟩, .int .i64 0, .slice none 0 0, .slice none 0 0] 53)))
        have HA9 := Lib.hid (hAp.out.grow HOU.out h5v9 HAV.out)
        have HO9 := Lib.hid (hov9.on ((Later.refl w9).alloc (.cells #[.int .i64 2, .string fn, .string ⟨#[]⟩, .int .i64 0, .slice none 0 0, .slice none 0 0] 53)))
        have HB9 : Hid (∀ y ∈ [bareC 2 fn], ∀ g, v9.ownBlock = some g → Away g y) := fun y hy g hg => by simp at hy; subst hy; exact bare_away _ _ _
        have HBU : Hid (∀ y ∈ [bareC 2 fn], ∀ g, u.ownBlock = some g → Away g y) := fun y hy g hg => by simp at hy; subst hy; exact bare_away _ _ _
        have hyl : (ys ++ xs3).length ≤ 16361 := by rw [List.length_append]; omega
        clear hov9 hgv9 h5v9 HOU HOV
        go_wp2_with (at_builtin; refine Hid.out ?_)
        refine Lib.hid (wpList_append_ps5 rfl _ _ 31 rfl i1 _ 96 Tryz.underlying31 hi1 hy0 hy1 hy2 rfl HO9.out rfl _ _ _ [bareC 2 fn] rfl (row_one w9 (bareC 2 fn) 53) (fun q hq => by simp at hq; subst hq; exact bare_ok 2 HFS.out.1 _) HB9.out (by omega) (by omega) ?_)
        intro v10 w10 hov10 hgv10 h5v10
        have HO10 := Lib.hid hov10
        have HU10 := Lib.hid (HU9.out.grew6 hgv10 HA9.out HO9.out.block)
        have HA10 := Lib.hid (HA9.out.grow HU9.out h5v10 HBU.out)
        have HS10 : Hid (valsP ((ys ++ xs3) ++ [bareC 2 fn]) = goneK b (a.take (k + 1))) := by show _ = _; rw [HGS.out, ← hGo.out, ← HV3.out]; simp [valsP, bareC]
        clear hov10 hgv10 h5v10 HU9 HO9 HA9
        go_wp2
        go_roundg (a.length - (k + 1))
        case measure => omega
        case rel => exact ⟨k + 1, v10, u, (ys ++ xs3) ++ [bareC 2 fn], zs, by omega, Nat.le_refl _, by go_num, rfl, rfl, HO10, HU10, HS10, by show _ = _; rw [HSS.out]; exact hSt.out, HA10⟩
    · have HG := Lib.hid (names_any q D b wr (HT2.out.later hOv.out.later) (by omega))
      rw [List.take_of_length_le (by omega)] at hGo hSt
      go_wp2_with fail
      refine HG.out.mono ?_
      rintro e w6 ⟨v6, rfl, ho6⟩
      obtain ⟨A6, c6, hv6, hc6, hr6⟩ := ho6.row
      rw [show (namesT b).length = b.length from by simp [namesT]] at hv6 hc6 hr6
      subst hv6
      have HT1' := Lib.hid (HT1.out.later (hOv.out.later.trans ho6.later)); have HT2' := Lib.hid (HT2.out.later (hOv.out.later.trans ho6.later)); replace HL1 := Lib.hid ((HL1.out.trans hOv.out.later).trans ho6.later)
      have HR6 := Lib.hid hr6
      replace hOv := Lib.hid (hOv.out.on ho6.later); replace hOu := Lib.hid (hOu.out.on ho6.later)
      clear ho6 hr6 HG HR5 HT1
      go_wp2
      go_loopg [6, 70] (b.length + 1) (fun g s6 s70 wr => ∃ (k2 : Nat) (cv : Value) (cs : List PrC), k2 ≤ b.length ∧ b.length - k2 ≤ g ∧ s70 = .int .i64 (k2 : Nat) ∧ s6 = cv ∧ Hid (OwnPs 53 w6 wr cv cs) ∧ Hid (valsP cs = comeK a (b.take k2)))
      case atStart => exact ⟨0, _, [], Nat.zero_le _, by omega, rfl, rfl, OwnPs.nil (Later.refl _), rfl⟩
      case round =>
        obtain ⟨k2, cv, cs, hk2, hg2, rfl, hcv, hOc, hCo⟩ := hrel
        obtain rfl := hcv.symm
        clear hcv
        by_cases hlt2 : k2 < b.length
        · obtain ⟨f, hf, hfn, hfm⟩ := names_at hlt2
          obtain ⟨b5, o5, rfl, c0⟩ := (HR6.out.later hOc.out.later).get (k := k2) (by omega)
          rw [hfn] at c0
          have HG1 := Lib.hid (get_any p B f.1 a wr (HT1'.out.later hOc.out.later) (HMB.out f hfm).1 (fun f' hf' => Nat.le_trans (long_no HLA.out hf') (by decide)))
          have HG2 := Lib.hid (fun w' (h : Later wr w') => get_any q D f.1 b w' (HT2'.out.later (hOc.out.later.trans h)) (HMB.out f hfm).1 (fun f' hf' => Nat.le_trans (long_no HLB.out hf') (by decide)))
          rw [mem_get HT2.out.files.rise hfm] at HG2
          have hl2 := long_no HLB.out hfm
          have HFS := Lib.hid (HMB.out f hfm)
          have HTK := Lib.hid (take_snoc hf)
          clear hf hfn hfm
          obtain ⟨fn, fl⟩ := f
          dsimp only at c0 HG1 HG2 hl2 HFS HTK
          cases hga : getT a fn with
          | some m =>
            rw [hga] at HG1
            have HCS : Hid (comeK a (b.take (k2 + 1)) = comeK a (b.take k2)) := by show _ = _; rw [HTK.out]; exact comeK_no (f := (fn, fl)) (hasT_some hga)
            clear hga HG2
            go_wp2_with fail
            refine HG1.out.mono ?_
            rintro e w7 ⟨v2, rfl, ho2⟩
            have HO7 := Lib.hid (hOc.out.on ho2.later)
            clear ho2 HG1 c0
            go_wp2
            go_roundg (b.length - (k2 + 1))
            case measure => omega
            case rel => exact ⟨k2 + 1, cv, cs, by omega, Nat.le_refl _, by go_num, rfl, HO7, by show _ = _; rw [HCS.out]; exact hCo.out⟩
          | none =>
            rw [hga] at HG1
            have HCS : Hid (comeK a (b.take (k2 + 1)) = comeK a (b.take k2) ++ ((⟨1, fn, ByteArray.empty, 0, [], []⟩ : Pr) :: linesP fn [] fl)) := by show _ = _; rw [HTK.out]; exact comeK_yes (f := (fn, fl)) (hasT_none hga)
            clear hga
            go_wp2_with fail
            refine HG1.out.mono ?_
            rintro e w7 ⟨v2, rfl, ho2⟩
            have HL7 := Lib.hid ho2.later
            clear ho2 HG1 c0
            go_wp2_with fail
            refine (HG2.out w7 HL7.out).mono ?_
            rintro e w8 ⟨v3, rfl, ho3⟩
            obtain ⟨A2, c2, hv2, hc2, hr2⟩ := ho3.row
            simp only [Option.getD_some] at hv2 hc2 hr2
            subst hv2
            have hl8 := HL7.out.trans ho3.later
            have HR8 := Lib.hid hr2
            have HOC := Lib.hid ((hOc.out.on hl8).on ((Later.refl w8).alloc (.cells #[.int .i64 1, .string fn, .string ⟨#[]⟩, .int .i64 0, .slice none 0 0, .slice none 0 0] 53)))
            have HB9 : Hid (∀ y ∈ [bareC 1 fn], ∀ g, cv.ownBlock = some g → Away g y) := fun y hy g hg => by simp at hy; subst hy; exact bare_away _ _ _
            have hc3 : cs.length ≤ 16160 := by have := come_take a b k2; rw [← hCo.out, valsP_length] at this; omega
            have HLC : Hid (∀ g, cv.ownBlock = some g → g < w7.heap.size) := fun g hg => ((hOc.out.on HL7.out).lt g hg)
            have HBW := Lib.hid ho3.block
            have HR8' := Lib.hid (HR8.out.later ((Later.refl w8).alloc (.cells #[.int .i64 1, .string fn, .string ⟨#[]⟩, .int .i64 0, .slice none 0 0, .slice none 0 0] 53)))
            clear ho3 hr2 hl8 hOc HG2 HL7 HR8
            go_wp2_with (at_builtin; refine Hid.out ?_)
            refine Lib.hid (wpList_append_ps5 rfl _ _ 31 rfl i1 _ 96 Tryz.underlying31 hi1 hy0 hy1 hy2 rfl HOC.out rfl _ _ _ [bareC 1 fn] rfl (row_one w8 (bareC 1 fn) 53) (fun q hq => by simp at hq; subst hq; exact bare_ok 1 HFS.out.1 _) HB9.out (by omega) (by omega) ?_)
            intro v9 w9 hov9 hgv9 h5v9
            have HO9 := Lib.hid hov9
            have HR9 : Hid (Row w9 A2 fl.length fl) := HR8'.out.keepG (c := c2) hgv9 (fun b hb e => by have h1 := HLC.out b e; have h2 := HBW.out b hb; omega)
            have HLN := Lib.hid (lines_any fn none A2 0 0 _ c2 [] fl w9 Row.none HR9.out (Nat.le_refl _) hc2 (by omega) (by omega) HFS.out.1 (fun s hs => by cases hs) HFS.out.2)
            have hcl : (cs ++ [bareC 1 fn]).length ≤ 16161 := by simp; omega
            clear hov9 hgv9 h5v9 HOC HR8'
            go_wp2_with fail
            refine HLN.out.mono ?_
            rintro e w10 ⟨v10, xs3, rfl, ho10, hv10, hf10⟩
            obtain ⟨A3, c3, hs3, hcc3, hps3⟩ := ho10.row
            subst hs3
            have hx3 : xs3.length ≤ 201 := by have := linesP_length fn [] fl; rw [← hv10, valsP_length] at this; exact this
            have HO10 := Lib.hid (HO9.out.on ho10.later)
            have HAW : Hid (∀ y ∈ xs3, ∀ g, v9.ownBlock = some g → Away g y) := fun y hy g hg => (hf10 y hy).away (HO9.out.lt g hg)
            have HP3 := Lib.hid hps3
            have HCS2 : Hid (valsP ((cs ++ [bareC 1 fn]) ++ xs3) = comeK a (b.take (k2 + 1))) := by show _ = _; rw [HCS.out, ← hCo.out, ← hv10]; simp [valsP, bareC]
            clear ho10 hv10 hf10 hps3 HLN HO9 HR9
            go_wp2_with (at_builtin; refine Hid.out ?_)
            refine Lib.hid (wpList_append_ps5 rfl _ _ 31 rfl i1 _ 96 Tryz.underlying31 hi1 hy0 hy1 hy2 rfl HO10.out rfl _ _ _ xs3 rfl HP3.out.row HP3.out.each HAW.out (by omega) (by omega) ?_)
            intro v11 w11 hov11 hgv11 h5v11
            have HO11 := Lib.hid hov11
            clear hov11 hgv11 h5v11 HO10
            go_wp2
            go_roundg (b.length - (k2 + 1))
            case measure => omega
            case rel => exact ⟨k2 + 1, v11, (cs ++ [bareC 1 fn]) ++ xs3, by omega, Nat.le_refl _, by go_num, rfl, HO11, HCS2⟩
        · rw [List.take_of_length_le (by omega)] at hCo
          obtain ⟨Av, cvv, rfl, hcv1, hp1⟩ := (hOv.out.on hOc.out.later).row
          obtain ⟨Ac, cc, rfl, hcc1, hp2⟩ := hOc.out.row
          obtain ⟨Au, cu, rfl, hcu1, hp3⟩ := (hOu.out.on hOc.out.later).row
          have h1 : ys.length ≤ 16160 := by have := gone_length b a; rw [← hGo.out, valsP_length] at this; omega
          have h2 : cs.length ≤ 16160 := by have := come_length a b; rw [← hCo.out, valsP_length] at this; omega
          have h3 : zs.length ≤ 16160 := by have := stay_length b a; rw [← hSt.out, valsP_length] at this; omega
          have hlz : Later wr (wr.alloc (.cells #[.slice Av ys.length cvv, .slice Ac cs.length cc, .slice Au zs.length cu] 31)) := (Later.refl wr).alloc _
          have HCC := Lib.hid (concat_any (some ⟨wr.heap.size, 0, none⟩) 3 3 [⟨Av, _, cvv, ys⟩, ⟨Ac, _, cc, cs⟩, ⟨Au, _, cu, zs⟩] _ ⟨RowK.three wr (.slice Av ys.length cvv) (.slice Ac cs.length cc) (.slice Au zs.length cu) 31, fun r hr => by
            simp at hr
            rcases hr with rfl | rfl | rfl
            · exact hp1.later hlz
            · exact hp2.later hlz
            · exact hp3.later hlz⟩ (by decide) (by simp [allC]; omega))
          have HLZ := Lib.hid ((HL1.out.trans hOc.out.later).trans hlz)
          have HE : Hid (valsP (allC [⟨Av, ys.length, cvv, ys⟩, ⟨Ac, cs.length, cc, cs⟩, ⟨Au, zs.length, cu, zs⟩]) = treesP a b) := by
            show _ = _
            rw [HTR.out, ← hGo.out, ← hCo.out, ← hSt.out]
            simp [allC, valsP]
          clear hp1 hp2 hp3 hlz
          go_wp2_with fail
          refine HCC.out.mono ?_
          rintro e w12 ⟨v12, rfl, ho12⟩
          have HO12 := Lib.hid (ho12.base HLZ.out)
          clear ho12 HCC
          go_wp2
          go_ret
          exact ⟨_, _, rfl, HO12.out, HE.out⟩

end Go.Proofs.YtbhnbkcokhfopaaGreat

/-
  The document's own example of layer 6, as plain values. Nothing of any program.
-/
namespace Go.Proofs.YtbhnbkcokhfopaaGreat
open Go.RowKit

def tA : ByteArray := ⟨#[97]⟩
def tN : ByteArray := ⟨#[110]⟩
def tQ : ByteArray := ⟨#[113]⟩
def tX : ByteArray := ⟨#[120]⟩
def tY : ByteArray := ⟨#[121]⟩
def tZ : ByteArray := ⟨#[122]⟩
theorem tYQ : tY ≠ tQ := by decide
theorem tZQ : tZ ≠ tQ := by decide
theorem tYZ : tY ≠ tZ := by decide
theorem ex_l1 : lcs [tZ] [tZ] = 1 := by rw [lcs_same, lcs_nil_left]
theorem ex_l2 : lcs [tY, tZ] [tQ, tZ] = 1 := by
  rw [lcs_other tYQ, lcs_other tZQ, lcs_other tYZ, lcs_nil_left, lcs_nil_right, ex_l1]; rfl
theorem ex_l3 : lcs [tX, tY, tZ] [tX, tQ, tZ] = 2 := by rw [lcs_same, ex_l2]
theorem ex_common : commonL [tX, tY, tZ] [tX, tQ, tZ] = [(0, 0), (2, 2)] := by
  have h1 : nextPair [tX, tY, tZ] [tX, tQ, tZ] 2 0 0 = some (0, 0) := by
    refine next_is NoneYet.start (Nat.le_refl _) (Nat.le_refl _) (by decide) (by decide) ?_
    simp only [goodAt, Bool.and_eq_true, decide_eq_true_eq]
    exact ⟨rfl, by show lcs [tY, tZ] [tQ, tZ] + 1 = 2; rw [ex_l2]⟩
  have g11 : goodAt [tX, tY, tZ] [tX, tQ, tZ] 1 1 1 = false := by
    unfold goodAt; rw [decide_eq_false (show ¬ ([tX, tY, tZ].getD 1 ByteArray.empty = [tX, tQ, tZ].getD 1 ByteArray.empty) from tYQ)]; rfl
  have g12 : goodAt [tX, tY, tZ] [tX, tQ, tZ] 1 1 2 = false := by
    unfold goodAt; rw [decide_eq_false (show ¬ ([tX, tY, tZ].getD 1 ByteArray.empty = [tX, tQ, tZ].getD 2 ByteArray.empty) from tYZ)]; rfl
  have g21 : goodAt [tX, tY, tZ] [tX, tQ, tZ] 1 2 1 = false := by
    unfold goodAt; rw [decide_eq_false (show ¬ ([tX, tY, tZ].getD 2 ByteArray.empty = [tX, tQ, tZ].getD 1 ByteArray.empty) from tZQ)]; rfl
  have h2 : nextPair [tX, tY, tZ] [tX, tQ, tZ] 1 1 1 = some (2, 2) := by
    refine next_is ((((NoneYet.start.step g11).step g12).next (by decide)).step g21) (by decide) (by decide) (by decide) (by decide) ?_
    simp only [goodAt, Bool.and_eq_true, decide_eq_true_eq]
    exact ⟨rfl, by show lcs [] [] + 1 = 1; rw [lcs_nil_left]⟩
  rw [common_small (by decide) (by decide), tabB_whole, ex_l3]
  simp only [commonGo, h1, h2]
theorem ex_lines : linesP tA [tX, tY, tZ] [tX, tQ, tZ] = [hunkP tA 1 [tY] [tQ]] := by
  rw [lines_go (by decide) (by decide), ex_common]
  simp [hunksGo, gapL]
theorem ex_cost : costP (linesP tA [tX, tY, tZ] [tX, tQ, tZ]) = 2 := by rw [ex_lines]; simp [costP, hunkP]
theorem ex_trees : treesP [] [(tN, [])] = [⟨1, tN, ByteArray.empty, 0, [], []⟩] := by
  rw [trees_is rfl rfl]
  simp [goneK, stayK, comeK, addP, hasT, getT, lines_self]

end Go.Proofs.YtbhnbkcokhfopaaGreat
