import Derived.Test.YtlnjhimbgckdcaaGreatPk3
import Derived.Test.YtlnjhimbgckdcaaGreatChecked
import Derived.Test.YtlnjhimbgckdcaaGreatPk1
import Derived.Deep.LoopGhost
import Derived.Deep.QuietTactic
import Derived.BigQuiet
import Derived.Lib.Hide
import Derived.Shelf.Strings.Search3
import Derived.Test.YtlnjhimbgckdcaaGreatPk2
import Derived.Deep.RegionHeld3

/-
  The operations of a region that draws its order, one by one; the frame behind them.
-/
namespace Go.Proofs.YtlnjhimbgckdcaaGreat
open Go.RowKit

def needs (o : Oper) (js : List Nat) : Bool := js.all fun j => o.after.any fun e => decide (e.on = j) && Region.binds .any e
def OpIs (ops : Array Oper) (i : Nat) (op : Op) (dst : Option Tmp) (js : List Nat) : Prop := ∃ o, ops[i]? = some o ∧ o.op = op ∧ o.dst = dst ∧ o.guard = none ∧ needs o js = true
theorem OpIs.waits {ops : Array Oper} {i : Nat} {op : Op} {dst : Option Tmp} {js : List Nat} (h : OpIs ops i op dst js) {o : Oper} (ho : ops[i]? = some o) {l : Nat → Bool} (hl : ∀ e ∈ o.after, Region.binds .any e = true → l e.on = true) : ∀ j ∈ js, l j = true := by
  obtain ⟨o', h1, -, -, -, h5⟩ := h
  rw [ho] at h1
  cases h1
  intro j hj
  have := List.all_eq_true.1 h5 j hj
  simp only [Array.any_eq_true, Bool.and_eq_true, decide_eq_true_eq] at this
  obtain ⟨k, hk, e1, e2⟩ := this
  rw [← e1]
  exact hl _ (Array.getElem_mem hk) e2

section
variable {P : Program} {ops : Array Oper} {Q : Exit → Act → World → Prop} {K : Act → World → Prop} {i : Nat} {dst : Option Tmp} {js : List Nat} {a : Act} {w : World}
theorem OpIs.go {op : Op} (h : OpIs ops i op dst js) (hk : ∀ o : Oper, o.op = op → o.dst = dst → o.wp P a w K Q) : wpOp P ops Q i K a w := by
  obtain ⟨o, h1, h2, h3, h4, -⟩ := h
  unfold wpOp
  rw [h1]
  dsimp only
  rw [if_pos (by simp [Region.wanted, h4])]
  exact .inl (hk o h2 h3)
theorem OpIs.move {k : Tmp} (h : OpIs ops i (.move (.tmp k)) dst js) (hk : K (a.put dst (a.eval (.tmp k))) w) : wpOp P ops Q i K a w :=
  h.go fun o h1 h2 => by
    unfold Oper.wp execOp
    rw [h1]
    simp only [Sem.run_pure]
    show K _ _
    rw [h2]
    exact hk
theorem OpIs.assign {k : Tmp} (h : OpIs ops i (.assign (.tmp k)) dst js) (hk : K (a.put dst (a.eval (.tmp k))) w) : wpOp P ops Q i K a w :=
  h.go fun o h1 h2 => by
    unfold Oper.wp execOp
    rw [h1]
    simp only [Sem.run_pure]
    show K _ _
    rw [h2]
    exact hk
theorem OpIs.extract {k : Tmp} {n : Nat} {vs : Array Value} {v : Value} (h : OpIs ops i (.extract (.tmp k) n) dst js) (he : a.eval (.tmp k) = .tuple vs) (hv : vs[n]? = some v) (hk : K (a.put dst v) w) : wpOp P ops Q i K a w :=
  h.go fun o h1 h2 => by
    unfold Oper.wp execOp
    rw [h1]
    simp only [he, Instr.extract, hv, Sem.run_bind, Sem.run_pure, Result.andThen_ok]
    show K _ _
    rw [h2]
    exact hk
end

section
variable {ops : Array Oper} {Q : Exit → Act → World → Prop} {K : Act → World → Prop} {i : Nat} {dst : Option Tmp} {js : List Nat} {a : Act} {w : World}
theorem OpIs.load {ty : TypeId} {k : Tmp} {g : Nat} {x : PrC} {t : TypeId} {fs : Array Field} (h : OpIs ops i (.load ty (.tmp k)) dst js) (hu : Tryz.prog.underlying ty = some (.struct fs)) (hi : (Tryz.prog.info? ty).map (·.size) = some 6)
    (he : a.eval (.tmp k) = .pointer (some ⟨g, 0, none⟩)) (hb : BoxAt w g (prL x).toArray t) (hk : K (a.put dst (prV x)) w) : wpOp Tryz.prog ops Q i K a w :=
  h.go fun o h1 h2 => by
    refine wp_load_row ty (.tmp k) h1 g he t (prL x).toArray (0, 0) _ hb hu rfl hi ?_
    rw [h2]
    exact hk
theorem OpIs.call1 {f : FuncId} {k : Tmp} {t : TypeId} {v : Value} {Post : Ending → World → Prop} (h : OpIs ops i (.call { callee := .value (.func f), args := #[.tmp k], argTypes := #[t] }) dst js) (hf : ∀ args w, (callFunc f args).run Tryz.prog w = .ok (.enter f args) w)
    (he : a.eval (.tmp k) = v) (hc : Calls Tryz.prog f #[v] w Post) (hk : ∀ e w', Post e w' → ∃ u, e = .returned u ∧ K (a.put dst u) w') : wpOp Tryz.prog ops Q i K a w :=
  h.go fun o h1 h2 => by
    have hr : (execOp a.eval o).run Tryz.prog w = .ok (.enter f #[v]) w := by
      unfold execOp
      rw [h1]
      simp only [resolve, invoke, Sem.run_bind, List.map_toArray, List.map_cons, List.map_nil, he]
      go_simp
    unfold Oper.wp
    rw [hr]
    show Calls _ _ _ _ _
    refine hc.mono ?_
    intro e w' hp
    obtain ⟨u, rfl, hku⟩ := hk e w' hp
    dsimp only
    rw [h2]
    exact hku
theorem OpIs.call2 {f : FuncId} {k m : Tmp} {t s : TypeId} {v u : Value} {Post : Ending → World → Prop} (h : OpIs ops i (.call { callee := .value (.func f), args := #[.tmp k, .tmp m], argTypes := #[t, s] }) dst js) (hf : ∀ args w, (callFunc f args).run Tryz.prog w = .ok (.enter f args) w)
    (he : a.eval (.tmp k) = v) (he2 : a.eval (.tmp m) = u) (hc : Calls Tryz.prog f #[v, u] w Post) (hk : ∀ e w', Post e w' → ∃ r, e = .returned r ∧ K (a.put dst r) w') : wpOp Tryz.prog ops Q i K a w :=
  h.go fun o h1 h2 => by
    have hr : (execOp a.eval o).run Tryz.prog w = .ok (.enter f #[v, u]) w := by
      unfold execOp
      rw [h1]
      simp only [resolve, invoke, Sem.run_bind, List.map_toArray, List.map_cons, List.map_nil, he, he2]
      go_simp
    unfold Oper.wp
    rw [hr]
    show Calls _ _ _ _ _
    refine hc.mono ?_
    intro e w' hp
    obtain ⟨r, rfl, hku⟩ := hk e w' hp
    dsimp only
    rw [h2]
    exact hku
def zeroL : Array Value := #[.int .i64 0, .string ⟨#[]⟩, .string ⟨#[]⟩, .int .i64 0, .slice none 0 0, .slice none 0 0]
theorem OpIs.alloc (h : OpIs ops i (.alloc 58) dst js) (hk : K (a.put dst (.pointer (some ⟨w.heap.size, 0, none⟩))) (w.alloc (.cells zeroL 58))) : wpOp Tryz.prog ops Q i K a w :=
  h.go fun o h1 h2 => by
    have hr : (execOp a.eval o).run Tryz.prog w = .ok (.value (.pointer (some ⟨w.heap.size, 0, none⟩))) (w.alloc (.cells zeroL 58)) := by
      unfold execOp
      rw [h1]
      go_simp
      rfl
    unfold Oper.wp
    rw [hr]
    show K _ _
    rw [h2]
    exact hk
theorem OpIs.store {j k : Tmp} {g : Nat} {x : PrC} {cs : Array Value} (h : OpIs ops i (.store 58 (.tmp j) (.tmp k)) none js) (hj : a.eval (.tmp j) = .pointer (some ⟨g, 0, none⟩)) (hv : a.eval (.tmp k) = prV x) (hb : BoxAt w g cs 58) (hs : cs.size = 6)
    (hk : ∀ w', BoxAt w' g (prL x).toArray 58 → Turned g w w' → K a w') : wpOp Tryz.prog ops Q i K a w :=
  h.go fun o h1 h2 => by
    match cs, hs with
    | ⟨[x0, x1, x2, x3, x4, x5]⟩, _ =>
      have y0 : w.cell? ⟨g, 0, none⟩ = some x0 := hb.cell rfl
      have y1 : w.cell? ⟨g, 1, none⟩ = some x1 := hb.cell rfl
      have y2 : w.cell? ⟨g, 2, none⟩ = some x2 := hb.cell rfl
      have y3 : w.cell? ⟨g, 3, none⟩ = some x3 := hb.cell rfl
      have y4 : w.cell? ⟨g, 4, none⟩ = some x4 := hb.cell rfl
      have y5 : w.cell? ⟨g, 5, none⟩ = some x5 := hb.cell rfl
      have z0 := hb.frozen 0; have z1 := hb.frozen 1; have z2 := hb.frozen 2; have z3 := hb.frozen 3; have z4 := hb.frozen 4; have z5 := hb.frozen 5
      have hb' := hb.set6 (.int .i64 x.v.kind) (.string x.v.name) (.string x.v.to) (.int .i64 x.v.place) (.slice x.A x.n x.c) (.slice x.B x.m x.d)
      have ht := turned_set6 w g (.int .i64 x.v.kind) (.string x.v.name) (.string x.v.to) (.int .i64 x.v.place) (.slice x.A x.n x.c) (.slice x.B x.m x.d)
      have hr : (execOp a.eval o).run Tryz.prog w = .ok .skip ((((((w.setCell ⟨g, 0, none⟩ (.int .i64 x.v.kind)).setCell ⟨g, 1, none⟩ (.string x.v.name)).setCell ⟨g, 2, none⟩ (.string x.v.to)).setCell ⟨g, 3, none⟩ (.int .i64 x.v.place)).setCell ⟨g, 4, none⟩ (.slice x.A x.n x.c)).setCell ⟨g, 5, none⟩ (.slice x.B x.m x.d)) := by
        clear hb hb' ht hk
        unfold prV at hv
        unfold execOp
        rw [h1]
        dsimp only
        rw [hj, hv]
        go_simp
      unfold Oper.wp
      rw [hr]
      show K _ _
      rw [h2]
      exact hk _ hb' ht
end

theorem eval_put_same' (a : Act) (k : Tmp) (v : Value) (h : k < a.tmps.size) : (a.put (some k) v).eval (.tmp k) = v := by
  simp [Act.put, Act.eval, h]
theorem eval_put_other' (a : Act) {j k : Tmp} (v : Value) (h : j ≠ k) : (a.put (some j) v).eval (.tmp k) = a.eval (.tmp k) := by
  simp [Act.put, Act.eval, h]

structure SameOut (a1 a : Act) (ds : List Nat) : Prop where
  defers : a.defers = a1.defers
  size : a.tmps.size = a1.tmps.size
  out : ∀ k, k ∉ ds → a.tmps[k]? = a1.tmps[k]?
theorem SameOut.refl (a : Act) (ds : List Nat) : SameOut a a ds := ⟨rfl, rfl, fun _ _ => rfl⟩
theorem SameOut.put {a1 a : Act} {ds : List Nat} (h : SameOut a1 a ds) {k : Nat} (hk : k ∈ ds) (v : Value) : SameOut a1 (a.put (some k) v) ds :=
  ⟨by simp [Act.put, h.defers], by simp [Act.put, h.size], fun j hj => by
    have hne : k ≠ j := fun e => hj (e ▸ hk)
    simp only [Act.put]
    rw [Array.getElem?_setIfInBounds_ne hne]
    exact h.out j hj⟩
theorem SameOut.is {a1 a : Act} {ds : List Nat} (h : SameOut a1 a ds) : a = ds.foldl (fun b k => b.put (some k) (a.eval (.tmp k))) a1 := by
  obtain ⟨h1, h2, h3⟩ := h
  induction ds generalizing a1 with
  | nil =>
    cases a; cases a1
    simp only [List.foldl_nil] at *
    subst h1
    congr 1
    exact Array.ext h2 fun i hi hj => by
      have := h3 i (by simp)
      rw [Array.getElem?_eq_getElem hi, Array.getElem?_eq_getElem hj] at this
      exact Option.some.inj this
  | cons k ds ih =>
    rw [List.foldl_cons]
    refine ih (by simp [Act.put, h1]) (by simp [Act.put, h2]) fun j hj => ?_
    by_cases e : k = j
    · subst e
      simp only [Act.put, Act.eval]
      by_cases hs : k < a1.tmps.size
      · rw [Array.getElem?_setIfInBounds_self_of_lt hs, Array.getElem?_eq_getElem (by omega)]
        simp [Array.getD, h2, hs]
      · rw [Array.getElem?_eq_none (by omega), Array.getElem?_eq_none (by simp; omega)]
    · simp only [Act.put]
      rw [Array.getElem?_setIfInBounds_ne e]
      exact h3 j (by simp [hj, Ne.symm e])

end Go.Proofs.YtlnjhimbgckdcaaGreat

/-
  What tree.Named and the document's Named come to, as calls.
-/
namespace Go.Proofs.YtlnjhimbgckdcaaGreat
open Go.RowKit

theorem nameByte_iff (c : UInt8) : nameByte c = true ↔ (97 ≤ (c.toNat : Int) ∧ (c.toNat : Int) ≤ 122) ∨ (48 ≤ (c.toNat : Int) ∧ (c.toNat : Int) ≤ 57) ∨ (c.toNat : Int) = 46 ∨ (c.toNat : Int) = 45 ∨ (c.toNat : Int) = 95 ∨ (c.toNat : Int) = 47 := by
  have e : ∀ d : UInt8, c = d ↔ (c.toNat : Int) = d.toNat := fun d => ⟨fun h => by rw [h], fun h => UInt8.toNat.inj (by omega)⟩
  simp only [nameByte, Bool.or_eq_true, Bool.and_eq_true, decide_eq_true_eq, UInt8.le_iff_toNat_le, beq_iff_eq, e]
  simp only [UInt8.reduceToNat]
  omega

set_option maxHeartbeats 400000 in
theorem fits_any (c : UInt8) (w : World) : Calls Tryz.prog 81 #[.int .u8 (c.toNat : Int)] w fun e w' => e = .returned (.bool (nameByte c)) ∧ w = w' := by
  have hc := nameByte_iff c
  generalize nameByte c = b at hc ⊢
  have HC := Lib.hid hc; clear hc
  have h0 : (0 : Int) ≤ (c.toNat : Int) := by omega
  have h1 : (c.toNat : Int) < 256 := by have := c.toNat_lt; omega
  generalize (c.toNat : Int) = n at *
  go_enter Tryz.func81, Tryz.ntmps81
  go_wp2
  all_goals
    go_ret
    refine ⟨ret_bool ?_, rfl⟩
    rw [Bool.eq_iff_iff, HC.out]
    simp_all
    try omega

theorem named_no {s : ByteArray} {k : Nat} {c : UInt8} (hk : (bytes s)[k]? = some c) (hc : nameByte c = false) : namedB s = false := by
  have : (bytes s).all nameByte = false := List.all_eq_false.2 ⟨c, List.mem_of_getElem? hk, by simp [hc]⟩
  simp [namedB, this]
theorem named_yes {s : ByteArray} (h : ∀ (k : Nat) (c : UInt8), (bytes s)[k]? = some c → nameByte c = true) : namedB s = (decide (1 ≤ s.size) && decide (s.size ≤ 24)) := by
  have : (bytes s).all nameByte = true := List.all_eq_true.2 fun c hc => by
    obtain ⟨k, hk⟩ := List.getElem?_of_mem hc
    exact h k c hk
  simp [namedB, this]

set_option maxHeartbeats 400000 in
theorem named_any (s : ByteArray) (w : World) (hs : s.size ≤ maxLen) : Calls Tryz.prog 72 #[.string s] w fun e w' => e = .returned (.bool (namedB s)) ∧ w = w' := by
  unfold maxLen at hs
  by_cases h1 : s.size < 1
  · have e : namedB s = false := by simp [namedB]; omega
    have E := Lib.hid e; clear e
    have hd : decide ((s.size : Int) < 1) = true := by simp; omega
    go_enter Tryz.func72, Tryz.ntmps72
    go_wp2
    go_ret
    exact ⟨ret_bool E.out.symm, rfl⟩
  · have hd : decide ((s.size : Int) < 1) = false := by simp; omega
    by_cases h2 : 24 < s.size
    · have e : namedB s = false := by simp [namedB]; omega
      have E := Lib.hid e; clear e
      have hd2 : decide ((24 : Int) < s.size) = true := by simp; omega
      go_enter Tryz.func72, Tryz.ntmps72
      go_wp2
      go_ret
      exact ⟨ret_bool E.out.symm, rfl⟩
    · have hd2 : decide ((24 : Int) < s.size) = false := by simp; omega
      go_enter Tryz.func72, Tryz.ntmps72
      go_wp2
      clear hd hd2
      go_loop [14] (fun i => ∃ k : Nat, k ≤ s.size ∧ i = .int .i64 k ∧ Hid (∀ (j : Nat) (c : UInt8), j < k → (bytes s)[j]? = some c → nameByte c = true)) (fun i => s.size - (intOf i).toNat)
      case atStart => exact ⟨0, Nat.zero_le _, rfl, fun j c hj => absurd hj (Nat.not_lt_zero _)⟩
      case round =>
        obtain ⟨k, hk, rfl, hno⟩ := hrel
        by_cases hlt : k < s.size
        · have hat : (bytes s)[k]? = some s[k] := byte_at hlt
          have hf := fits_any s[k] w
          cases hb : nameByte s[k]
          · rw [hb] at hf
            have e := named_no hat hb
            have E := Lib.hid e
            have HF := Lib.hid hf
            clear hf hb e hat hno
            go_wp2_with (go_at_call 81; refine HF.out.mono ?_; rintro e w' ⟨rfl, rfl⟩)
            go_ret
            exact ⟨ret_bool E.out.symm, rfl⟩
          · rw [hb] at hf
            have HA : Hid (∀ (j : Nat) (c : UInt8), j < k + 1 → (bytes s)[j]? = some c → nameByte c = true) := fun j c hj hjc => by
              by_cases e : j = k
              · subst e; rw [hat] at hjc; cases hjc; exact hb
              · exact hno.out j c (by omega) hjc
            have HF := Lib.hid hf
            clear hf hb hat hno
            go_wp2_with (go_at_call 81; refine HF.out.mono ?_; rintro e w' ⟨rfl, rfl⟩)
            exact ⟨⟨k + 1, by omega, by go_num, HA⟩, by simp [intOf]; omega⟩
        · have e : namedB s = true := by
            rw [named_yes fun j c hc => hno.out j c (by have := (List.getElem?_eq_some_iff.1 hc).1; rw [bytes_length] at this; omega) hc]
            simp; omega
          have E := Lib.hid e; clear e hno
          go_wp2
          go_ret
          exact ⟨ret_bool E.out.symm, rfl⟩

set_option maxHeartbeats 800000 in
theorem refNamed_any (s : ByteArray) (w : World) (hs : s.size ≤ maxLen) : Calls Tryz.prog 67 #[.string s] w fun e w' => e = .returned (.bool (namedB s)) ∧ w = w' := by
  unfold maxLen at hs
  go_enter Tryz.func67, Tryz.ntmps67
  go_wp2
  go_loop [3] (fun i => ∃ k : Nat, k ≤ s.size ∧ i = .int .i64 k ∧ Hid (∀ (j : Nat) (c : UInt8), j < k → (bytes s)[j]? = some c → nameByte c = true)) (fun i => s.size - (intOf i).toNat)
  case atStart => exact ⟨0, Nat.zero_le _, rfl, fun j c hj => absurd hj (Nat.not_lt_zero _)⟩
  case round =>
    obtain ⟨k, hk, rfl, hno⟩ := hrel
    by_cases hlt : k < s.size
    · have hat : (bytes s)[k]? = some s[k] := byte_at hlt
      have hc := nameByte_iff s[k]
      cases hb : nameByte s[k]
      · have e := named_no hat hb
        have E := Lib.hid e
        rw [hb] at hc
        have HC := Lib.hid hc
        clear hb e hat hno hc
        go_wp2
        all_goals first
          | (go_ret; exact ⟨ret_bool E.out.symm, rfl⟩)
          | (exfalso; have := HC.out; simp at this; simp_all; try omega)
      · have HA : Hid (∀ (j : Nat) (c : UInt8), j < k + 1 → (bytes s)[j]? = some c → nameByte c = true) := fun j c hj hjc => by
          by_cases e : j = k
          · subst e; rw [hat] at hjc; cases hjc; exact hb
          · exact hno.out j c (by omega) hjc
        rw [hb] at hc
        have HC := Lib.hid hc
        clear hb hat hno hc
        go_wp2
        all_goals first
          | exact ⟨⟨k + 1, by omega, by go_num, HA⟩, by simp [intOf]; omega⟩
          | (exfalso; have := HC.out; simp at this; simp_all; try omega)
    · have e : namedB s = (decide (1 ≤ s.size) && decide (s.size ≤ 24)) := named_yes fun j c hc => hno.out j c (by have := (List.getElem?_eq_some_iff.1 hc).1; rw [bytes_length] at this; omega) hc
      have E := Lib.hid e; clear e hno
      go_wp2
      all_goals
        go_ret
        refine ⟨ret_bool ?_, rfl⟩
        rw [E.out, Bool.eq_iff_iff]
        simp only [Bool.and_eq_true, decide_eq_true_eq]
        try simp
        try omega

end Go.Proofs.YtlnjhimbgckdcaaGreat

/-
  What calls of the library come to, laid at this program: whether a text has a byte.
-/
namespace Go.Proofs
open Go.Shelf
def Tryz.lays144_ren : Go.Shelf.Ren := ⟨fun | 144 => 58 | 143 => 70 | 219 => 80 | 217 => 88 | 225 => 89 | 224 => 90 | 267 => 91 | 266 => 97 | 314 => 98 | n => n, fun | 9 => 9 | 4 => 4 | 3 => 3 | 5 => 5 | 46 => 117 | 146 => 123 | 51 => 122 | n => n, fun | 1 => 0 | n => n⟩
theorem Tryz.lays144 : Go.Proofs.Lays.n144 Tryz.prog Tryz.lays144_ren := {
  mixed := by kernel_rfl
  f143 := Tryz.func70.trans (congrArg some (by kernel_rfl))
  f144 := Tryz.func58.trans (congrArg some (by kernel_rfl))
  f217 := Tryz.func88.trans (congrArg some (by kernel_rfl))
  f219 := Tryz.func80.trans (congrArg some (by kernel_rfl))
  f224 := Tryz.func90.trans (congrArg some (by kernel_rfl))
  f225 := Tryz.func89.trans (congrArg some (by kernel_rfl))
  f266 := Tryz.func97.trans (congrArg some (by kernel_rfl))
  f267 := Tryz.func91.trans (congrArg some (by kernel_rfl))
  f314 := Tryz.func98.trans (congrArg some (by kernel_rfl))
  t3 := Tryz.underlying3
  a3 := Tryz.isAgg3
  z3 := Tryz.sizeOf3
  v3 := Tryz.zeroValue3
  t4 := Tryz.underlying4
  a4 := Tryz.isAgg4
  z4 := Tryz.sizeOf4
  v4 := Tryz.zeroValue4
  t5 := Tryz.underlying5
  a5 := Tryz.isAgg5
  z5 := Tryz.sizeOf5
  v5 := Tryz.zeroValue5
  t9 := Tryz.underlying9
  a9 := Tryz.isAgg9
  z9 := Tryz.sizeOf9
  v9 := Tryz.zeroValue9
  t46 := Tryz.underlying117
  a46 := Tryz.isAgg117
  z46 := Tryz.sizeOf117
  v46 := Tryz.zeroValue117
  t51 := Tryz.underlying122
  a51 := Tryz.isAgg122
  z51 := Tryz.sizeOf122
  v51 := Tryz.zeroValue122
  t146 := Tryz.underlying123
  a146 := Tryz.isAgg123
  z146 := Tryz.sizeOf123
  v146 := Tryz.zeroValue123
  g1 := by kernel_rfl }
open Go.RowKit Go.Lib in
theorem Tryz.strings_Contains_one (s : ByteArray) (c : UInt8) (w : World) :
    Calls Tryz.prog 58 #[.string s, .string ⟨#[c]⟩] w fun e w' => e = .returned (.bool (decide (0 ≤ Lib.indexByte s.data.toList c))) ∧ w' = w := Any.strings_Contains_one Tryz.lays144 s c w
end Go.Proofs

/-
  What line.Right comes to, as a call.
-/
namespace Go.Proofs.YtlnjhimbgckdcaaGreat
open Go.RowKit

set_option maxHeartbeats 400000 in
theorem right_any (s : ByteArray) (w : World) (hs : s.size ≤ maxLen) :
    Calls Tryz.prog 43 #[.string s] w fun e w' => e = .returned (.bool (rightB s)) ∧ w = w' := by
  unfold maxLen at hs
  have hr : rightB s = (decide (s.size ≤ 60) && !hasEnd s) := rfl
  by_cases h : s.size ≤ 60
  · rw [decide_eq_true h, Bool.true_and] at hr
    have HR := Lib.hid hr; clear hr
    have hd : decide ((s.size : Int) ≤ 60) = true := by simp; omega
    have H := Lib.hid (Tryz.strings_Contains_one s 10 w)
    go_enter Tryz.func43, Tryz.ntmps43
    go_wp2_with (go_at_call 58; refine H.out.mono ?_; rintro e w' ⟨rfl, rfl⟩)
    go_ret
    exact ⟨by rw [HR.out]; rfl, rfl⟩
  · rw [decide_eq_false h, Bool.false_and] at hr
    have HR := Lib.hid hr; clear hr
    have hd : decide ((s.size : Int) ≤ 60) = false := by simp; omega
    go_enter Tryz.func43, Tryz.ntmps43
    go_wp2
    go_ret
    exact ⟨by rw [HR.out]; rfl, rfl⟩

end Go.Proofs.YtlnjhimbgckdcaaGreat

/-
  What line.All comes to, as a call.
-/
namespace Go.Proofs.YtlnjhimbgckdcaaGreat
open Go.RowKit

set_option maxHeartbeats 400000 in
theorem all_any (A : Option Addr) (n c : Nat) (l : List ByteArray) (w : World) (hx : Row w A n l) (hn : n ≤ 65536) (hs : ∀ x ∈ l, x.size ≤ maxLen) :
    Calls Tryz.prog 82 #[.slice A n c] w fun e w' => e = .returned (.bool (allB l)) ∧ w = w' := by
  have HX := Lib.hid hx; clear hx
  have HS := Lib.hid hs; clear hs
  go_enter Tryz.func82, Tryz.ntmps82
  go_wp2
  go_loop [7] (fun i => ∃ k : Nat, k ≤ n ∧ i = .int .i64 k ∧ Hid (∀ j : Nat, j < k → rightB (l.getD j ByteArray.empty) = true)) (fun i => n - (intOf i).toNat)
  case atStart => exact ⟨0, Nat.zero_le _, rfl, fun j hj => absurd hj (Nat.not_lt_zero _)⟩
  case round =>
    obtain ⟨k, hk, rfl, hall⟩ := hrel
    by_cases hlt : k < n
    · obtain ⟨b1, o1, rfl, g1⟩ := HX.out.get hlt
      have hkl : k < l.length := by rw [HX.out.len]; exact hlt
      have hsz : (l.getD k ByteArray.empty).size ≤ maxLen := by
        simp only [List.getD, List.getElem?_eq_getElem hkl, Option.getD_some]
        exact HS.out _ (List.getElem_mem hkl)
      have hr := right_any (l.getD k ByteArray.empty) w hsz
      cases hb : rightB (l.getD k ByteArray.empty)
      · rw [hb] at hr
        have e := allB_get hkl hb
        have E := Lib.hid e
        have HR := Lib.hid hr; clear hr hb hsz e hkl hall
        generalize l.getD k ByteArray.empty = x at g1 HR
        go_wp2_with (go_at_call 43; refine HR.out.mono ?_; rintro e w' ⟨rfl, rfl⟩)
        go_ret
        exact ⟨ret_bool E.out.symm, rfl⟩
      · rw [hb] at hr
        have HA : Hid (∀ j : Nat, j < k + 1 → rightB (l.getD j ByteArray.empty) = true) := fun j hj => by
          by_cases e : j = k
          · rw [e]; exact hb
          · exact hall.out j (by omega)
        have HR := Lib.hid hr; clear hr hb hsz hkl hall
        generalize l.getD k ByteArray.empty = x at g1 HR
        go_wp2_with (go_at_call 43; refine HR.out.mono ?_; rintro e w' ⟨rfl, rfl⟩)
        exact ⟨⟨k + 1, by omega, by go_num, HA⟩, by simp [intOf]; omega⟩
    · have e : allB l = true := allB_all fun j hj => hall.out j (by rw [HX.out.len] at hj; omega)
      have E := Lib.hid e; clear e hall
      go_wp2
      go_ret
      exact ⟨ret_bool E.out.symm, rfl⟩

end Go.Proofs.YtlnjhimbgckdcaaGreat

/-
  What tree's Add, Remove, Move, Put and Get come to, as calls.
-/
namespace Go.Proofs.YtlnjhimbgckdcaaGreat
open Go.RowKit Go.Maps

def Does (r : Tr × Int) (p B : Nat) (w : World) (e : Ending) (w' : World) : Prop := e = .returned (.int .i64 r.2) ∧ TreeAt w' p B r.1 ∧ Turned B w w'

theorem Does.same {t : Tr} {p B : Nat} {w : World} {k : Int} (h : TreeAt w p B t) : Does (t, k) p B w (.returned (.int .i64 k)) w := ⟨rfl, h, Turned.refl _ _⟩

end Go.Proofs.YtlnjhimbgckdcaaGreat

/-
  What tree's Put comes to, as a call, where it is taken: the new row lies behind all that was there.
-/
namespace Go.Proofs.YtlnjhimbgckdcaaGreat
open Go.RowKit Go.Maps

def Off (g : Nat) (v : Value) : Prop := v.ownBlock ≠ some g

theorem Row.off {w w' : World} {g n c : Nat} {A : Option Addr} {l : List ByteArray} (h : Row w A n l) (hg : Turned g w w') (ho : l ≠ [] → Off g (.slice A n c)) : Row w' A n l :=
  ⟨h.1, fun hn => by
    obtain ⟨b, o, rfl, hc⟩ := h.2 hn
    have hl : l ≠ [] := by
      rintro rfl
      have := h.1
      simp at this; omega
    refine ⟨b, o, rfl, fun j s hs => hg.cell (hc j s hs) ?_⟩
    intro e
    exact ho hl (by simp only [Value.ownBlock]; rw [show b = g from e])⟩
theorem FA.off {w w' : World} {B g : Nat} {z : Fl Held} (h : FA w B z) (hg : Turned g w w') (hB : B ≠ g) (ho : ∀ f ∈ z, f.2.2 ≠ [] → Off g f.2.1) : FA w' B z :=
  ⟨h.own.kept hg (by simpa using hB), h.rise, fun f hf => by
    obtain ⟨A, n, c, e, h1, h2⟩ := h.reads f hf
    exact ⟨A, n, c, e, h1, h2.off (c := c) hg (by rw [← e]; exact ho f hf)⟩⟩

end Go.Proofs.YtlnjhimbgckdcaaGreat

/-
  What slices.Equal at rows of texts comes to, as a call.
-/
namespace Go.Proofs.YtlnjhimbgckdcaaGreat
open Go.RowKit

set_option maxHeartbeats 400000 in
theorem equal_any (A B : Option Addr) (n c m d : Nat) (xs ys : List ByteArray) (w : World) (hx : Row w A n xs) (hy : Row w B m ys) (hn : n ≤ 65536) (hm : m ≤ 65536) :
    Calls Tryz.prog 79 #[.slice A n c, .slice B m d] w fun e w' => e = .returned (.bool (sameB xs ys)) ∧ ∃ q, w' = w.drewN q := by
  by_cases hnm : n = m
  · subst hnm
    have HX := Lib.hid hx; clear hx
    have HY := Lib.hid hy; clear hy
    go_enter Tryz.func79, Tryz.ntmps79
    go_wp2
    go_loopg [13] n (fun g s13 wr => ∃ k q : Nat, k ≤ n ∧ n - k ≤ g ∧ s13 = .int .i64 k ∧ wr = w.drewN q ∧ Hid (xs.take k = ys.take k))
    case atStart => exact ⟨0, 0, Nat.zero_le _, by omega, rfl, rfl, by simp [Hid]⟩
    case round =>
      obtain ⟨k, q, hk, hg, rfl, rfl, heq⟩ := hrel
      by_cases hlt : k < n
      · obtain ⟨b1, o1, rfl, g1⟩ := HX.out.get hlt
        obtain ⟨b2, o2, rfl, g2⟩ := HY.out.get hlt
        generalize hxk : xs.getD k ByteArray.empty = x at g1
        generalize hyk : ys.getD k ByteArray.empty = y at g2
        have X := Lib.hid hxk; clear hxk
        have Y := Lib.hid hyk; clear hyk
        by_cases hxy : x = y
        · subst hxy
          go_wp2_with fail
          go_quiet (fail)
          go_wp2
          go_roundg (n - (k + 1))
          case measure => omega
          case rel => exact ⟨k + 1, _, by omega, by omega, by go_num, rfl, take_same (by rw [HX.out.len]; exact hlt) (by rw [HY.out.len]; exact hlt) heq.out (X.out.trans Y.out.symm)⟩
        · have hb := text_ne hxy
          go_wp2_with fail
          go_quiet (fail)
          go_wp2
          go_ret
          refine ⟨?_, _, World.drewN_drewN _ _ _⟩
          rw [beq_of_other (by rw [X.out, Y.out]; exact hxy)]
          rfl
      · have hkn : k = n := by omega
        have e : sameB xs ys = true := by
          rw [hkn, List.take_of_length_le (by rw [HX.out.len]; omega), List.take_of_length_le (by rw [HY.out.len]; omega)] at heq
          exact sameB_yes heq.out
        have E := Lib.hid e; clear e heq
        go_wp2
        go_ret
        exact ⟨by rw [E.out]; rfl, _, rfl⟩
  · have e : sameB xs ys = false := by
      refine sameB_no fun h => ?_; rw [h] at hx; exact hnm (hx.len.symm.trans hy.len)
    have E := Lib.hid e; clear e hx hy
    have hnm' : ¬ (n : Int) = (m : Int) := by omega
    go_enter Tryz.func79, Tryz.ntmps79
    go_wp2
    go_ret
    exact ⟨by rw [E.out]; rfl, 0, rfl⟩

end Go.Proofs.YtlnjhimbgckdcaaGreat

/-
  What line.Same comes to, as a call.
-/
namespace Go.Proofs.YtlnjhimbgckdcaaGreat
open Go.RowKit

set_option maxHeartbeats 400000 in
theorem same_any (A B : Option Addr) (n c m d : Nat) (xs ys : List ByteArray) (w : World) (hx : Row w A n xs) (hy : Row w B m ys) (hn : n ≤ 65536) (hm : m ≤ 65536) :
    Calls Tryz.prog 69 #[.slice A n c, .slice B m d] w fun e w' => e = .returned (.bool (sameB xs ys)) ∧ ∃ q, w' = w.drewN q := by
  have H := Lib.hid (equal_any A B n c m d xs ys w hx hy hn hm)
  clear hx hy
  go_enter Tryz.func69, Tryz.ntmps69
  go_wp2_with (go_at_call 79; refine H.out.mono ?_; rintro e w' ⟨rfl, q, rfl⟩)
  go_ret
  exact ⟨rfl, q, rfl⟩

end Go.Proofs.YtlnjhimbgckdcaaGreat

/-
  What prim's Same comes to, as a call.
-/
namespace Go.Proofs.YtlnjhimbgckdcaaGreat
open Go.RowKit

set_option maxRecDepth 100000 in
set_option maxHeartbeats 800000 in
theorem primSame_any (x y : PrC) (w : World) (hx : PrOk w x) (hy : PrOk w y) :
    Calls Tryz.prog 57 #[prV x, prV y] w (Says (sameP x.v y.v) w) := by
  obtain ⟨⟨kd, nm, to, pl, old, new⟩, A, n, c, B, m, d⟩ := x
  obtain ⟨⟨kd', nm', to', pl', old', new'⟩, A', n', c', B', m', d'⟩ := y
  have hlb : Later w ((w.alloc (.cells #[.int .i64 kd, .string nm, .string to, .int .i64 pl, .slice A n c, .slice B m d] 58)).alloc (.cells #[.int .i64 kd', .string nm', .string to', .int .i64 pl', .slice A' n' c', .slice B' m' d'] 58)) := ((Later.refl w).alloc _).alloc _
  have H1 := Lib.hid (same_any A A' n c n' c' old old' _ (hx.old.later hlb) (hy.old.later hlb) hx.omost hy.omost)
  have H2 := Lib.hid (fun (w1 : World) (h : Later w w1) => same_any B B' m d m' d' new new' w1 (hx.new.later h) (hy.new.later h) hx.nmost hy.nmost)
  have HLB := Lib.hid hlb
  have HX := Lib.hid hx; have HY := Lib.hid hy
  unfold prV
  dsimp only
  clear hx hy hlb
  by_cases h1 : kd = kd'
  · subst h1
    by_cases h2 : nm = nm'
    · subst h2
      by_cases h3 : to = to'
      · subst h3
        by_cases h4 : pl = pl'
        · subst h4
          have E : Hid (sameP ⟨kd, nm, to, pl, old, new⟩ ⟨kd, nm, to, pl, old', new'⟩ = (sameB old old' && sameB new new')) := by simp [Hid, sameP]
          rw [E.out]
          clear E
          cases h5 : sameB old old'
          · rw [h5] at H1
            rw [Bool.false_and]
            go_enter Tryz.func57, Tryz.ntmps57
            go_wp2_with fail
            refine H1.out.mono ?_
            rintro e w1 ⟨rfl, q, rfl⟩
            go_wp2
            go_ret
            exact ⟨rfl, HLB.out.drewN q⟩
          · rw [h5] at H1
            rw [Bool.true_and]
            generalize sameB new new' = b at H2 ⊢
            go_enter Tryz.func57, Tryz.ntmps57
            go_wp2_with fail
            refine H1.out.mono ?_
            rintro e w1 ⟨rfl, q, rfl⟩
            go_wp2_with fail
            refine (H2.out _ (HLB.out.drewN q)).mono ?_
            rintro e w1 ⟨rfl, q2, rfl⟩
            go_wp2
            go_ret
            exact ⟨rfl, HLB.out.drewN _⟩
        · have E : Hid (sameP ⟨kd, nm, to, pl, old, new⟩ ⟨kd, nm, to, pl', old', new'⟩ = false) := by simp [Hid, sameP, h4]
          rw [E.out]
          clear E
          go_enter Tryz.func57, Tryz.ntmps57
          go_wp2
          go_ret
          exact ⟨rfl, HLB.out⟩
      · have E : Hid (sameP ⟨kd, nm, to, pl, old, new⟩ ⟨kd, nm, to', pl', old', new'⟩ = false) := by simp [Hid, sameP, h3]
        rw [E.out]
        have hb := text_ne h3
        clear E
        go_enter Tryz.func57, Tryz.ntmps57
        go_wp2
        go_ret
        exact ⟨rfl, HLB.out⟩
    · have E : Hid (sameP ⟨kd, nm, to, pl, old, new⟩ ⟨kd, nm', to', pl', old', new'⟩ = false) := by simp [Hid, sameP, h2]
      rw [E.out]
      have hb := text_ne h2
      clear E
      go_enter Tryz.func57, Tryz.ntmps57
      go_wp2
      go_ret
      exact ⟨rfl, HLB.out⟩
  · have E : Hid (sameP ⟨kd, nm, to, pl, old, new⟩ ⟨kd', nm', to', pl', old', new'⟩ = false) := by simp [Hid, sameP, h1]
    rw [E.out]
    clear E
    go_enter Tryz.func57, Tryz.ntmps57
    go_wp2
    go_ret
    exact ⟨rfl, HLB.out⟩

end Go.Proofs.YtlnjhimbgckdcaaGreat

/-
  What prim's changesLines and hasNoLines come to, as calls.
-/
namespace Go.Proofs.YtlnjhimbgckdcaaGreat
open Go.RowKit

set_option maxHeartbeats 400000 in
theorem changes_any (x : PrC) (w : World) (hx : PrOk w x) :
    Calls Tryz.prog 73 #[prV x] w (Says (allB x.v.old && allB x.v.new && !sameB x.v.old x.v.new) w) := by
  obtain ⟨⟨kd, nm, to, pl, old, new⟩, A, n, c, B, m, d⟩ := x
  unfold prV
  dsimp only
  have hlb : Later w (w.alloc (.cells #[.int .i64 kd, .string nm, .string to, .int .i64 pl, .slice A n c, .slice B m d] 58)) := (Later.refl w).alloc _
  have H1 := Lib.hid (all_any A n c old _ (hx.old.later hlb) hx.omost hx.olds)
  have H2 := Lib.hid (all_any B m d new _ (hx.new.later hlb) hx.nmost hx.news)
  have H3 := Lib.hid (same_any A B n c m d old new _ (hx.old.later hlb) (hx.new.later hlb) hx.omost hx.nmost)
  have HLB := Lib.hid hlb
  clear hx hlb
  cases h1 : allB old
  · rw [h1] at H1
    go_enter Tryz.func73, Tryz.ntmps73
    go_wp2_with fail
    refine H1.out.mono ?_
    rintro e w1 ⟨rfl, rfl⟩
    go_wp2
    go_ret
    exact ⟨rfl, HLB.out⟩
  · rw [h1] at H1
    cases h2 : allB new
    · rw [h2] at H2
      go_enter Tryz.func73, Tryz.ntmps73
      go_wp2_with fail
      refine H1.out.mono ?_
      rintro e w1 ⟨rfl, rfl⟩
      go_wp2_with fail
      refine H2.out.mono ?_
      rintro e w1 ⟨rfl, rfl⟩
      go_wp2
      go_ret
      exact ⟨rfl, HLB.out⟩
    · rw [h2] at H2
      generalize sameB old new = b at H3 ⊢
      go_enter Tryz.func73, Tryz.ntmps73
      go_wp2_with fail
      refine H1.out.mono ?_
      rintro e w1 ⟨rfl, rfl⟩
      go_wp2_with fail
      refine H2.out.mono ?_
      rintro e w1 ⟨rfl, rfl⟩
      go_wp2_with fail
      refine H3.out.mono ?_
      rintro e w1 ⟨rfl, q, rfl⟩
      go_wp2
      go_ret
      exact ⟨rfl, HLB.out.drewN q⟩

def bareP (p : Pr) : Bool := decide (p.place = 0) && decide (p.old = []) && decide (p.new = [])

set_option maxHeartbeats 400000 in
theorem bare_any (x : PrC) (w : World) (hx : PrOk w x) :
    Calls Tryz.prog 74 #[prV x] w (Says (bareP x.v) w) := by
  obtain ⟨⟨kd, nm, to, pl, old, new⟩, A, n, c, B, m, d⟩ := x
  unfold prV
  dsimp only
  have hlb : Later w (w.alloc (.cells #[.int .i64 kd, .string nm, .string to, .int .i64 pl, .slice A n c, .slice B m d] 58)) := (Later.refl w).alloc _
  have HLB := Lib.hid hlb
  have hn := hx.old.len
  have hm := hx.new.len
  have hn1 := hx.omost
  have hm1 := hx.nmost
  dsimp only at hn hm hn1 hm1
  clear hx hlb
  by_cases h0 : pl = 0
  · subst h0
    by_cases h1 : n = 0
    · have e1 : old = [] := List.eq_nil_of_length_eq_zero (hn.trans h1)
      by_cases h2 : m = 0
      · have e2 : new = [] := List.eq_nil_of_length_eq_zero (hm.trans h2)
        have E : Hid (bareP ⟨kd, nm, to, 0, old, new⟩ = true) := by simp [Hid, bareP, e1, e2]
        subst h1 h2
        clear e1 e2
        go_enter Tryz.func74, Tryz.ntmps74
        go_wp2
        go_ret
        exact ⟨ret_bool E.out.symm, HLB.out⟩
      · have e2 : new ≠ [] := by rintro rfl; exact h2 hm.symm
        have E : Hid (bareP ⟨kd, nm, to, 0, old, new⟩ = false) := by simp [Hid, bareP, e2]
        subst h1
        have h2' : ¬ (m : Int) = 0 := by omega
        clear e1 e2
        go_enter Tryz.func74, Tryz.ntmps74
        go_wp2
        go_ret
        exact ⟨by rw [E.out]; simp [h2], HLB.out⟩
    · have e1 : old ≠ [] := by rintro rfl; exact h1 hn.symm
      have E : Hid (bareP ⟨kd, nm, to, 0, old, new⟩ = false) := by simp [Hid, bareP, e1]
      have h1' : ¬ (n : Int) = 0 := by omega
      clear e1
      go_enter Tryz.func74, Tryz.ntmps74
      go_wp2
      go_ret
      exact ⟨ret_bool E.out.symm, HLB.out⟩
  · have E : Hid (bareP ⟨kd, nm, to, pl, old, new⟩ = false) := by simp [Hid, bareP, h0]
    go_enter Tryz.func74, Tryz.ntmps74
    go_wp2
    go_ret
    exact ⟨ret_bool E.out.symm, HLB.out⟩

end Go.Proofs.YtlnjhimbgckdcaaGreat

/-
  What prim's Right comes to, as a call.
-/
namespace Go.Proofs.YtlnjhimbgckdcaaGreat
open Go.RowKit

theorem rightP_hunk (nm to : ByteArray) (pl : Int) (old new : List ByteArray) (hn : namedB nm = true) : rightP ⟨0, nm, to, pl, old, new⟩ = (decide (to = ByteArray.empty) && decide (0 ≤ pl ∧ pl ≤ 1048576) && (allB old && allB new && !sameB old new)) := by
  simp only [rightP, hn, Bool.true_and, if_true, Bool.and_assoc]
theorem rightP_one (k : Int) (nm to : ByteArray) (pl : Int) (old new : List ByteArray) (hn : namedB nm = true) (hk : k = 1 ∨ k = 2) : rightP ⟨k, nm, to, pl, old, new⟩ = (decide (to = ByteArray.empty) && bareP ⟨k, nm, to, pl, old, new⟩) := by
  have h0 : k ≠ 0 := by omega
  have h3 : k ≠ 3 := by omega
  simp only [rightP, bareP, hn, Bool.true_and, if_neg h0, if_neg h3, decide_eq_true hk]
  rw [Bool.and_comm]
theorem rightP_move (nm to : ByteArray) (pl : Int) (old new : List ByteArray) (hn : namedB nm = true) : rightP ⟨3, nm, to, pl, old, new⟩ = (namedB to && (decide (to ≠ nm) && bareP ⟨3, nm, to, pl, old, new⟩)) := by
  simp only [rightP, bareP, hn, Bool.true_and, Int.reduceEq, if_false, if_true]
  rw [Bool.and_comm, Bool.and_assoc]
theorem rightP_none (k : Int) (nm to : ByteArray) (pl : Int) (old new : List ByteArray) (h0 : k ≠ 0) (h1 : k ≠ 1) (h2 : k ≠ 2) (h3 : k ≠ 3) : rightP ⟨k, nm, to, pl, old, new⟩ = false := by
  simp [rightP, h0, h1, h2, h3]
theorem rightP_name (k : Int) (nm to : ByteArray) (pl : Int) (old new : List ByteArray) (hn : namedB nm = false) : rightP ⟨k, nm, to, pl, old, new⟩ = false := by
  simp [rightP, hn]

set_option maxRecDepth 100000 in
set_option maxHeartbeats 800000 in
theorem primRight_any (x : PrC) (w : World) (hx : PrOk w x) :
    Calls Tryz.prog 61 #[prV x] w (Says (rightP x.v) w) := by
  have hlb0 : Later w (w.alloc (.cells #[.int .i64 x.v.kind, .string x.v.name, .string x.v.to, .int .i64 x.v.place, .slice x.A x.n x.c, .slice x.B x.m x.d] 58)) := (Later.refl w).alloc _
  have HC := Lib.hid (changes_any x _ (hx.later hlb0))
  have HB := Lib.hid (bare_any x _ (hx.later hlb0))
  obtain ⟨⟨kd, nm, to, pl, old, new⟩, A, n, c, B, m, d⟩ := x
  have hn := named_any nm (w.alloc (.cells #[.int .i64 kd, .string nm, .string to, .int .i64 pl, .slice A n c, .slice B m d] 58)) hx.name
  have ht := named_any to (w.alloc (.cells #[.int .i64 kd, .string nm, .string to, .int .i64 pl, .slice A n c, .slice B m d] 58)) hx.to
  have HLB := Lib.hid hlb0
  unfold prV at HC HB ⊢
  dsimp only at HC HB HLB ⊢
  clear hx hlb0
  cases h1 : namedB nm
  · rw [h1] at hn
    have HN := Lib.hid hn
    rw [rightP_name kd nm to pl old new h1]
    clear hn ht h1
    go_enter Tryz.func61, Tryz.ntmps61
    go_wp2_with fail
    refine HN.out.mono ?_
    rintro e w1 ⟨rfl, rfl⟩
    go_wp2
    go_ret
    exact ⟨rfl, HLB.out⟩
  rw [h1] at hn
  have HN := Lib.hid hn
  have HT := Lib.hid ht
  clear hn ht
  by_cases k0 : kd = 0
  · subst k0
    rw [rightP_hunk nm to pl old new h1]
    clear h1
    by_cases h2 : to = ByteArray.empty
    · subst h2
      by_cases h3 : 0 ≤ pl
      · by_cases h4 : pl ≤ 1048576
        · rw [decide_eq_true (show 0 ≤ pl ∧ pl ≤ 1048576 from ⟨h3, h4⟩), decide_eq_true (rfl : ByteArray.empty = ByteArray.empty), Bool.true_and, Bool.true_and]
          generalize (allB old && allB new && !sameB old new) = b at HC ⊢
          go_enter Tryz.func61, Tryz.ntmps61
          go_wp2_with fail
          refine HN.out.mono ?_
          rintro e w1 ⟨rfl, rfl⟩
          go_wp2_with fail
          refine HC.out.mono ?_
          rintro e w1 ⟨rfl, hl1⟩
          have HL1 := Lib.hid hl1; clear hl1
          go_wp2
          go_ret
          exact ⟨rfl, HLB.out.trans HL1.out⟩
        · have e : ¬ (0 ≤ pl ∧ pl ≤ 1048576) := fun h => h4 h.2
          rw [decide_eq_false e, Bool.and_false, Bool.false_and]
          clear e
          go_enter Tryz.func61, Tryz.ntmps61
          go_wp2_with fail
          refine HN.out.mono ?_
          rintro e w1 ⟨rfl, rfl⟩
          go_wp2
          go_ret
          exact ⟨rfl, HLB.out⟩
      · have e : ¬ (0 ≤ pl ∧ pl ≤ 1048576) := fun h => h3 h.1
        rw [decide_eq_false e, Bool.and_false, Bool.false_and]
        clear e
        go_enter Tryz.func61, Tryz.ntmps61
        go_wp2_with fail
        refine HN.out.mono ?_
        rintro e w1 ⟨rfl, rfl⟩
        go_wp2
        go_ret
        exact ⟨rfl, HLB.out⟩
    · have hb := list_ne h2
      rw [decide_eq_false h2, Bool.false_and, Bool.false_and]
      go_enter Tryz.func61, Tryz.ntmps61
      go_wp2_with fail
      refine HN.out.mono ?_
      rintro e w1 ⟨rfl, rfl⟩
      go_wp2
      go_ret
      exact ⟨rfl, HLB.out⟩
  by_cases k12 : kd = 1 ∨ kd = 2
  · rw [rightP_one kd nm to pl old new h1 k12]
    clear h1
    by_cases h2 : to = ByteArray.empty
    · subst h2
      rw [decide_eq_true (rfl : ByteArray.empty = ByteArray.empty), Bool.true_and]
      generalize bareP ⟨kd, nm, ByteArray.empty, pl, old, new⟩ = b at HB ⊢
      rcases k12 with rfl | rfl
      all_goals
        go_enter Tryz.func61, Tryz.ntmps61
        go_wp2_with fail
        refine HN.out.mono ?_
        rintro e w1 ⟨rfl, rfl⟩
        go_wp2_with fail
        refine HB.out.mono ?_
        rintro e w1 ⟨rfl, hl1⟩
        have HL1 := Lib.hid hl1; clear hl1
        go_wp2
        go_ret
        exact ⟨rfl, HLB.out.trans HL1.out⟩
    · have hb := list_ne h2
      rw [decide_eq_false h2, Bool.false_and]
      rcases k12 with rfl | rfl
      all_goals
        go_enter Tryz.func61, Tryz.ntmps61
        go_wp2_with fail
        refine HN.out.mono ?_
        rintro e w1 ⟨rfl, rfl⟩
        go_wp2
        go_ret
        exact ⟨rfl, HLB.out⟩
  by_cases k3 : kd = 3
  · subst k3
    rw [rightP_move nm to pl old new h1]
    clear h1 k0 k12
    cases h2 : namedB to
    · rw [h2] at HT
      rw [Bool.false_and]
      go_enter Tryz.func61, Tryz.ntmps61
      go_wp2_with fail
      refine HN.out.mono ?_
      rintro e w1 ⟨rfl, rfl⟩
      go_wp2_with fail
      refine HT.out.mono ?_
      rintro e w1 ⟨rfl, rfl⟩
      go_wp2
      go_ret
      exact ⟨rfl, HLB.out⟩
    · rw [h2] at HT
      rw [Bool.true_and]
      clear h2
      by_cases h3 : to = nm
      · subst h3
        rw [decide_eq_false (fun h : to ≠ to => h rfl), Bool.false_and]
        go_enter Tryz.func61, Tryz.ntmps61
        go_wp2_with fail
        refine HN.out.mono ?_
        rintro e w1 ⟨rfl, rfl⟩
        go_wp2_with fail
        refine HT.out.mono ?_
        rintro e w1 ⟨rfl, rfl⟩
        go_wp2
        go_ret
        exact ⟨rfl, HLB.out⟩
      · rw [decide_eq_true h3, Bool.true_and]
        have hb := text_ne h3
        generalize bareP ⟨3, nm, to, pl, old, new⟩ = b at HB ⊢
        go_enter Tryz.func61, Tryz.ntmps61
        go_wp2_with fail
        refine HN.out.mono ?_
        rintro e w1 ⟨rfl, rfl⟩
        go_wp2_with fail
        refine HT.out.mono ?_
        rintro e w1 ⟨rfl, rfl⟩
        go_wp2_with fail
        refine HB.out.mono ?_
        rintro e w1 ⟨rfl, hl1⟩
        have HL1 := Lib.hid hl1; clear hl1
        go_wp2
        go_ret
        exact ⟨rfl, HLB.out.trans HL1.out⟩
  · have k1 : kd ≠ 1 := fun h => k12 (.inl h)
    have k2 : kd ≠ 2 := fun h => k12 (.inr h)
    rw [rightP_none kd nm to pl old new k0 k1 k2 k3]
    clear h1 k12
    go_enter Tryz.func61, Tryz.ntmps61
    go_wp2_with fail
    refine HN.out.mono ?_
    rintro e w1 ⟨rfl, rfl⟩
    go_wp2
    go_ret
    exact ⟨rfl, HLB.out⟩

end Go.Proofs.YtlnjhimbgckdcaaGreat
