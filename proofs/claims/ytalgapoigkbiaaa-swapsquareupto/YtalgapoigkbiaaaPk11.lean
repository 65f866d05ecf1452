import Derived.Test.YtalgapoigkbiaaaPk10
import Derived.Test.YtalgapoigkbiaaaPk4
import Derived.Test.YtalgapoigkbiaaaChecked
import Derived.Test.YtalgapoigkbiaaaPk1
import Derived.Deep.LoopGhost
import Derived.Deep.QuietTactic
import Derived.BigQuiet
import Derived.Lib.Hide
import Derived.Test.YtalgapoigkbiaaaPk5
import Derived.Test.YtalgapoigkbiaaaPk3
import Derived.Deep.RegionHeld3

/-
  The operations of a region that draws its order, one by one; the frame behind them.
-/
namespace Go.Proofs.Ytalgapoigkbiaaa
open Go.RowKit

/-- It waits for these. -/
def needs (o : Oper) (js : List Nat) : Bool := js.all fun j => o.after.any fun e => decide (e.on = j) && Region.binds .any e
/-- Operation i of the region. -/
def OpIs (ops : Array Oper) (i : Nat) (op : Op) (dst : Option Tmp) (js : List Nat) : Prop := ∃ o, ops[i]? = some o ∧ o.op = op ∧ o.dst = dst ∧ o.guard = none ∧ needs o js = true
theorem OpIs.waits {ops : Array Oper} {i : Nat} {op : Op} {dst : Option Tmp} {js : List Nat} (h : OpIs ops i op dst js) {o : Oper} (ho : ops[i]? = some o) {l : Nat → Bool} (hl : ∀ e ∈ o.after, Region.binds .any e = true → l e.on = true) : ∀ j ∈ js, l j = true := by
  obtain ⟨o', h1, -, -, -, h5⟩ := h
  rw [ho] at h1
  cases h1
  intro j hj
  have := List.all_eq_true.1 h5 j hj
  simp only [Array.any_eq_true, Bool.and_eq_true, decide_eq_true_eq] at this
  obtain ⟨k, hk, e1, e2⟩ := this
  rw [← e1]
  exact hl _ (Array.getElem_mem hk) e2

section
variable {P : Program} {ops : Array Oper} {Q : Exit → Act → World → Prop} {K : Act → World → Prop} {i : Nat} {dst : Option Tmp} {js : List Nat} {a : Act} {w : World}
theorem OpIs.go {op : Op} (h : OpIs ops i op dst js) (hk : ∀ o : Oper, o.op = op → o.dst = dst → o.wp P a w K Q) : wpOp P ops Q i K a w := by
  obtain ⟨o, h1, h2, h3, h4, -⟩ := h
  unfold wpOp
  rw [h1]
  dsimp only
  rw [if_pos (by simp [Region.wanted, h4])]
  exact .inl (hk o h2 h3)
theorem OpIs.move {k : Tmp} (h : OpIs ops i (.move (.tmp k)) dst js) (hk : K (a.put dst (a.eval (.tmp k))) w) : wpOp P ops Q i K a w :=
  h.go fun o h1 h2 => by
    unfold Oper.wp execOp
    rw [h1]
    simp only [Sem.run_pure]
    show K _ _
    rw [h2]
    exact hk
theorem OpIs.assign {k : Tmp} (h : OpIs ops i (.assign (.tmp k)) dst js) (hk : K (a.put dst (a.eval (.tmp k))) w) : wpOp P ops Q i K a w :=
  h.go fun o h1 h2 => by
    unfold Oper.wp execOp
    rw [h1]
    simp only [Sem.run_pure]
    show K _ _
    rw [h2]
    exact hk
theorem OpIs.extract {k : Tmp} {n : Nat} {vs : Array Value} {v : Value} (h : OpIs ops i (.extract (.tmp k) n) dst js) (he : a.eval (.tmp k) = .tuple vs) (hv : vs[n]? = some v) (hk : K (a.put dst v) w) : wpOp P ops Q i K a w :=
  h.go fun o h1 h2 => by
    unfold Oper.wp execOp
    rw [h1]
    simp only [he, Instr.extract, hv, Sem.run_bind, Sem.run_pure, Result.andThen_ok]
    show K _ _
    rw [h2]
    exact hk
end

section
variable {ops : Array Oper} {Q : Exit → Act → World → Prop} {K : Act → World → Prop} {i : Nat} {dst : Option Tmp} {js : List Nat} {a : Act} {w : World}
theorem OpIs.load {ty : TypeId} {k : Tmp} {g : Nat} {x : PrC} {t : TypeId} {fs : Array Field} (h : OpIs ops i (.load ty (.tmp k)) dst js) (hu : Try.prog.underlying ty = some (.struct fs)) (hi : (Try.prog.info? ty).map (·.size) = some 6)
    (he : a.eval (.tmp k) = .pointer (some ⟨g, 0, none⟩)) (hb : BoxAt w g (prL x).toArray t) (hk : K (a.put dst (prV x)) w) : wpOp Try.prog ops Q i K a w :=
  h.go fun o h1 h2 => by
    refine wp_load_row ty (.tmp k) h1 g he t (prL x).toArray (0, 0) _ hb hu rfl hi ?_
    rw [h2]
    exact hk
theorem OpIs.call1 {f : FuncId} {k : Tmp} {t : TypeId} {v : Value} {Post : Ending → World → Prop} (h : OpIs ops i (.call { callee := .value (.func f), args := #[.tmp k], argTypes := #[t] }) dst js) (hf : ∀ args w, (callFunc f args).run Try.prog w = .ok (.enter f args) w)
    (he : a.eval (.tmp k) = v) (hc : Calls Try.prog f #[v] w Post) (hk : ∀ e w', Post e w' → ∃ u, e = .returned u ∧ K (a.put dst u) w') : wpOp Try.prog ops Q i K a w :=
  h.go fun o h1 h2 => by
    have hr : (execOp a.eval o).run Try.prog w = .ok (.enter f #[v]) w := by
      unfold execOp
      rw [h1]
      simp only [resolve, invoke, Sem.run_bind, List.map_toArray, List.map_cons, List.map_nil, he]
      go_simp
    unfold Oper.wp
    rw [hr]
    show Calls _ _ _ _ _
    refine hc.mono ?_
    intro e w' hp
    obtain ⟨u, rfl, hku⟩ := hk e w' hp
    dsimp only
    rw [h2]
    exact hku
theorem OpIs.call2 {f : FuncId} {k m : Tmp} {t s : TypeId} {v u : Value} {Post : Ending → World → Prop} (h : OpIs ops i (.call { callee := .value (.func f), args := #[.tmp k, .tmp m], argTypes := #[t, s] }) dst js) (hf : ∀ args w, (callFunc f args).run Try.prog w = .ok (.enter f args) w)
    (he : a.eval (.tmp k) = v) (he2 : a.eval (.tmp m) = u) (hc : Calls Try.prog f #[v, u] w Post) (hk : ∀ e w', Post e w' → ∃ r, e = .returned r ∧ K (a.put dst r) w') : wpOp Try.prog ops Q i K a w :=
  h.go fun o h1 h2 => by
    have hr : (execOp a.eval o).run Try.prog w = .ok (.enter f #[v, u]) w := by
      unfold execOp
      rw [h1]
      simp only [resolve, invoke, Sem.run_bind, List.map_toArray, List.map_cons, List.map_nil, he, he2]
      go_simp
    unfold Oper.wp
    rw [hr]
    show Calls _ _ _ _ _
    refine hc.mono ?_
    intro e w' hp
    obtain ⟨r, rfl, hku⟩ := hk e w' hp
    dsimp only
    rw [h2]
    exact hku
def zeroL : Array Value := #[.int .i64 0, .string ⟨#[]⟩, .string ⟨#[]⟩, .int .i64 0, .slice none 0 0, .slice none 0 0]
theorem OpIs.alloc (h : OpIs ops i (.alloc 27) dst js) (hk : K (a.put dst (.pointer (some ⟨w.heap.size, 0, none⟩))) (w.alloc (.cells zeroL 27))) : wpOp Try.prog ops Q i K a w :=
  h.go fun o h1 h2 => by
    have hr : (execOp a.eval o).run Try.prog w = .ok (.value (.pointer (some ⟨w.heap.size, 0, none⟩))) (w.alloc (.cells zeroL 27)) := by
      unfold execOp
      rw [h1]
      go_simp
      rfl
    unfold Oper.wp
    rw [hr]
    show K _ _
    rw [h2]
    exact hk
theorem OpIs.store {j k : Tmp} {g : Nat} {x : PrC} {cs : Array Value} (h : OpIs ops i (.store 27 (.tmp j) (.tmp k)) none js) (hj : a.eval (.tmp j) = .pointer (some ⟨g, 0, none⟩)) (hv : a.eval (.tmp k) = prV x) (hb : BoxAt w g cs 27) (hs : cs.size = 6)
    (hk : ∀ w', BoxAt w' g (prL x).toArray 27 → Turned g w w' → K a w') : wpOp Try.prog ops Q i K a w :=
  h.go fun o h1 h2 => by
    match cs, hs with
    | ⟨[x0, x1, x2, x3, x4, x5]⟩, _ =>
      have y0 : w.cell? ⟨g, 0, none⟩ = some x0 := hb.cell rfl
      have y1 : w.cell? ⟨g, 1, none⟩ = some x1 := hb.cell rfl
      have y2 : w.cell? ⟨g, 2, none⟩ = some x2 := hb.cell rfl
      have y3 : w.cell? ⟨g, 3, none⟩ = some x3 := hb.cell rfl
      have y4 : w.cell? ⟨g, 4, none⟩ = some x4 := hb.cell rfl
      have y5 : w.cell? ⟨g, 5, none⟩ = some x5 := hb.cell rfl
      have z0 := hb.frozen 0; have z1 := hb.frozen 1; have z2 := hb.frozen 2; have z3 := hb.frozen 3; have z4 := hb.frozen 4; have z5 := hb.frozen 5
      have hb' := hb.set6 (.int .i64 x.v.kind) (.string x.v.name) (.string x.v.to) (.int .i64 x.v.place) (.slice x.A x.n x.c) (.slice x.B x.m x.d)
      have ht := turned_set6 w g (.int .i64 x.v.kind) (.string x.v.name) (.string x.v.to) (.int .i64 x.v.place) (.slice x.A x.n x.c) (.slice x.B x.m x.d)
      have hr : (execOp a.eval o).run Try.prog w = .ok .skip ((((((w.setCell ⟨g, 0, none⟩ (.int .i64 x.v.kind)).setCell ⟨g, 1, none⟩ (.string x.v.name)).setCell ⟨g, 2, none⟩ (.string x.v.to)).setCell ⟨g, 3, none⟩ (.int .i64 x.v.place)).setCell ⟨g, 4, none⟩ (.slice x.A x.n x.c)).setCell ⟨g, 5, none⟩ (.slice x.B x.m x.d)) := by
        clear hb hb' ht hk
        unfold prV at hv
        unfold execOp
        rw [h1]
        dsimp only
        rw [hj, hv]
        go_simp
      unfold Oper.wp
      rw [hr]
      show K _ _
      rw [h2]
      exact hk _ hb' ht
end

theorem eval_put_same' (a : Act) (k : Tmp) (v : Value) (h : k < a.tmps.size) : (a.put (some k) v).eval (.tmp k) = v := by
  simp [Act.put, Act.eval, h]
theorem eval_put_other' (a : Act) {j k : Tmp} (v : Value) (h : j ≠ k) : (a.put (some j) v).eval (.tmp k) = a.eval (.tmp k) := by
  simp [Act.put, Act.eval, h]

/-- The frame is as it was but for these slots. -/
structure SameOut (a1 a : Act) (ds : List Nat) : Prop where
  defers : a.defers = a1.defers
  size : a.tmps.size = a1.tmps.size
  out : ∀ k, k ∉ ds → a.tmps[k]? = a1.tmps[k]?
theorem SameOut.refl (a : Act) (ds : List Nat) : SameOut a a ds := ⟨rfl, rfl, fun _ _ => rfl⟩
theorem SameOut.put {a1 a : Act} {ds : List Nat} (h : SameOut a1 a ds) {k : Nat} (hk : k ∈ ds) (v : Value) : SameOut a1 (a.put (some k) v) ds :=
  ⟨by simp [Act.put, h.defers], by simp [Act.put, h.size], fun j hj => by
    have hne : k ≠ j := fun e => hj (e ▸ hk)
    simp only [Act.put]
    rw [Array.getElem?_setIfInBounds_ne hne]
    exact h.out j hj⟩
theorem SameOut.is {a1 a : Act} {ds : List Nat} (h : SameOut a1 a ds) : a = ds.foldl (fun b k => b.put (some k) (a.eval (.tmp k))) a1 := by
  obtain ⟨h1, h2, h3⟩ := h
  induction ds generalizing a1 with
  | nil =>
    cases a; cases a1
    simp only [List.foldl_nil] at *
    subst h1
    congr 1
    exact Array.ext h2 fun i hi hj => by
      have := h3 i (by simp)
      rw [Array.getElem?_eq_getElem hi, Array.getElem?_eq_getElem hj] at this
      exact Option.some.inj this
  | cons k ds ih =>
    rw [List.foldl_cons]
    refine ih (by simp [Act.put, h1]) (by simp [Act.put, h2]) fun j hj => ?_
    by_cases e : k = j
    · subst e
      simp only [Act.put, Act.eval]
      by_cases hs : k < a1.tmps.size
      · rw [Array.getElem?_setIfInBounds_self_of_lt hs, Array.getElem?_eq_getElem (by omega)]
        simp [Array.getD, h2, hs]
      · rw [Array.getElem?_eq_none (by omega), Array.getElem?_eq_none (by simp; omega)]
    · simp only [Act.put]
      rw [Array.getElem?_setIfInBounds_ne e]
      exact h3 j (by simp [hj, Ne.symm e])

end Go.Proofs.Ytalgapoigkbiaaa

/-
  What tree.New, Named, has and Get come to, as calls.
-/
namespace Go.Proofs.Ytalgapoigkbiaaa
open Go.RowKit Go.Maps

set_option maxHeartbeats 400000 in
theorem has_any (p B : Nat) (nm : ByteArray) (t : Tr) (w : World) (ht : TreeAt w p B t) (hs : nm.size ≤ maxLen) :
    Calls Try.prog 74 #[.pointer (some ⟨p, 0, none⟩), .string nm] w fun e w' => e = .returned (.bool (hasT t nm)) ∧ w = w' := by
  obtain ⟨hc, z, hz, rfl⟩ := ht
  rw [hasT_map]
  cases hg : getT z nm with
  | none =>
    have e : hasT z nm = false := hasT_no.2 (getT_none.1 hg)
    have E := Lib.hid e
    have hl := hz.look_no hs hg
    clear e hz hg
    go_enter Try.func74, Try.ntmps74
    go_wp2
    go_ret
    exact ⟨ret_bool E.out.symm, rfl⟩
  | some x =>
    have e : hasT z nm = true := getT_has hg
    have E := Lib.hid e
    have hl := hz.look_yes hs hg
    clear e hz hg
    go_enter Try.func74, Try.ntmps74
    go_wp2
    go_ret
    exact ⟨ret_bool E.out.symm, rfl⟩

/-- A new tree. -/
def NewTree (t : Tr) (w : World) (e : Ending) (w' : World) : Prop :=
  ∃ p B, e = .returned (.pointer (some ⟨p, 0, none⟩)) ∧ TreeAt w' p B t ∧ w.heap.size ≤ p ∧ w.heap.size ≤ B ∧ Later w w'

set_option maxHeartbeats 400000 in
theorem new_any (w : World) : Calls Try.prog 33 #[] w (NewTree [] w) := by
  have hmm := @run_makeMap Try.prog
  go_enter Try.func33, Try.ntmps33
  go_wp2
  go_ret
  refine ⟨_, _, rfl, ⟨?_, [], (FA.made w).later ((Later.refl _).alloc _), rfl⟩, by simp, Nat.le_refl _, ((Later.refl _).alloc _).alloc _⟩
  simp

end Go.Proofs.Ytalgapoigkbiaaa

/-
  What tree's Add, Remove, Move, Put and Get come to, as calls.
-/
namespace Go.Proofs.Ytalgapoigkbiaaa
open Go.RowKit Go.Maps

/-- An error's number; the tree is what the document says; nothing else has turned. -/
def Does (r : Tr × Int) (p B : Nat) (w : World) (e : Ending) (w' : World) : Prop := e = .returned (.int .i64 r.2) ∧ TreeAt w' p B r.1 ∧ Turned B w w'

theorem Does.same {t : Tr} {p B : Nat} {w : World} {k : Int} (h : TreeAt w p B t) : Does (t, k) p B w (.returned (.int .i64 k)) w := ⟨rfl, h, Turned.refl _ _⟩

set_option maxHeartbeats 400000 in
theorem add_any (p B : Nat) (nm : ByteArray) (t : Tr) (w : World) (ht : TreeAt w p B t) (hs : nm.size ≤ maxLen) (hl : t.length ≤ 65536) :
    Calls Try.prog 55 #[.pointer (some ⟨p, 0, none⟩), .string nm] w (Does (addT t nm) p B w) := by
  have hn := named_any nm w hs
  have hh := has_any p B nm t w ht hs
  cases h1 : namedB nm
  · rw [h1] at hn
    have E : Hid (addT t nm = (t, 20)) := by simp [Hid, addT, h1]
    rw [E.out]
    have HN := Lib.hid hn; have HT := Lib.hid ht
    clear hn hh h1 ht E
    go_enter Try.func55, Try.ntmps55
    go_wp2_with (go_at_call 40; refine HN.out.mono ?_; rintro e w' ⟨rfl, rfl⟩)
    go_ret
    exact Does.same HT.out
  · rw [h1] at hn
    cases h2 : hasT t nm
    · rw [h2] at hh
      have E : Hid (addT t nm = (withT t nm [], 0)) := by simp [Hid, addT, h1, h2]
      rw [E.out]
      have HT := Lib.hid ht
      obtain ⟨hc, z, hz, rfl⟩ := ht
      have HZ := Lib.hid hz
      have HN := Lib.hid hn; have HH := Lib.hid hh
      have hzl : z.length < maxLen := by rw [mapT_length] at hl; simp only [maxLen]; omega
      clear hn hh h1 h2 E hl hz
      go_enter Try.func55, Try.ntmps55
      go_wp2_with (first
        | (go_at_call 40; refine HN.out.mono ?_; rintro e w' ⟨rfl, rfl⟩)
        | (go_at_call 74; refine HH.out.mono ?_; rintro e w' ⟨rfl, rfl⟩)
        | (at_mapUpdate; refine wpList_mapUpdate_in _ rfl _ _ _ 64 rfl 9 22 keyed9 Try.underlying64 raw B z.length _ rfl HZ.out.own hzl _ _ _ rfl rfl (key9 hs) _ [] (raw_mk none 0 0) ?_; intro w1 hown1 hturn1; have HO := Lib.hid hown1; have HU := Lib.hid hturn1; clear hown1 hturn1))
      go_ret
      have hg := Turned.of_map HU.out
      exact ⟨rfl, HT.out.to hg ⟨_, HZ.out.put HO.out HU.out (Reads.nil w), (withT_map (fun x : Held => x.2) z nm (_, [])).symm⟩, hg⟩
    · rw [h2] at hh
      have E : Hid (addT t nm = (t, 21)) := by simp [Hid, addT, h1, h2]
      rw [E.out]
      have HN := Lib.hid hn; have HH := Lib.hid hh; have HT := Lib.hid ht
      clear hn hh h1 h2 ht E
      go_enter Try.func55, Try.ntmps55
      go_wp2_with (first
        | (go_at_call 40; refine HN.out.mono ?_; rintro e w' ⟨rfl, rfl⟩)
        | (go_at_call 74; refine HH.out.mono ?_; rintro e w' ⟨rfl, rfl⟩))
      go_ret
      exact Does.same HT.out

set_option maxHeartbeats 400000 in
theorem remove_any (p B : Nat) (nm : ByteArray) (t : Tr) (w : World) (ht : TreeAt w p B t) (hs : nm.size ≤ maxLen) (hl : ∀ f ∈ t, f.2.length ≤ 65536) :
    Calls Try.prog 56 #[.pointer (some ⟨p, 0, none⟩), .string nm] w (Does (removeT t nm) p B w) := by
  have HT := Lib.hid ht
  obtain ⟨hc, z, hz, rfl⟩ := ht
  cases hg : getT z nm with
  | none =>
    have E : Hid (removeT (mapT (·.2) z) nm = (mapT (·.2) z, 20)) := by simp [Hid, removeT, getT_map, hg]
    rw [E.out]
    have hl := hz.look_no hs hg
    clear hz hg E
    go_enter Try.func56, Try.ntmps56
    go_wp2
    go_ret
    exact Does.same HT.out
  | some x =>
    have hlk := hz.look_yes hs hg
    obtain ⟨A, n, c, hv, hnc, hr⟩ := hz.get hg
    have hlen : n ≤ 65536 := by
      have := hl (nm, x.2) (by simp only [mapT, List.mem_map]; exact ⟨_, getT_mem hg, rfl⟩)
      rw [← hr.len]; exact this
    rw [hv] at hlk
    by_cases h0 : 0 < n
    · have E : Hid (removeT (mapT (·.2) z) nm = (mapT (·.2) z, 22)) := by simp [Hid, removeT, getT_map, hg, hr.len, h0]
      rw [E.out]
      have hd : decide (0 < n) = true := by simpa using h0
      clear hz hg E hr hv hl
      go_enter Try.func56, Try.ntmps56
      go_wp2
      go_ret
      exact Does.same HT.out
    · have E : Hid (removeT (mapT (·.2) z) nm = (withoutT (mapT (·.2) z) nm, 0)) := by simp [Hid, removeT, getT_map, hg, hr.len, h0]
      rw [E.out]
      have hd : decide (0 < n) = false := by simpa using h0
      have HZ := Lib.hid hz
      clear hz hg E hr hv hl
      go_enter Try.func56, Try.ntmps56
      go_wp2_with (at_delete; refine wpList_delete_own _ rfl _ _ 64 9 rfl 22 keyed9 Try.underlying64 raw B z.length _ rfl HZ.out.own _ _ rfl (key9 hs) ?_; intro w1 hown1 hturn1; have HO := Lib.hid hown1; have HU := Lib.hid hturn1; clear hown1 hturn1)
      go_ret
      have hg := Turned.of_map HU.out
      exact ⟨rfl, HT.out.to hg ⟨_, HZ.out.del HO.out HU.out, (withoutT_map (fun x : Held => x.2) z nm).symm⟩, hg⟩

end Go.Proofs.Ytalgapoigkbiaaa

/-
  What tree's Move, Put and Get come to, as calls.
-/
namespace Go.Proofs.Ytalgapoigkbiaaa
open Go.RowKit Go.Maps

set_option maxHeartbeats 400000 in
theorem move_any (p B : Nat) (nm to : ByteArray) (t : Tr) (w : World) (ht : TreeAt w p B t) (hs : nm.size ≤ maxLen) (hs2 : to.size ≤ maxLen) (hl : t.length ≤ 65536) :
    Calls Try.prog 57 #[.pointer (some ⟨p, 0, none⟩), .string nm, .string to] w (Does (moveT t nm to) p B w) := by
  have HT := Lib.hid ht
  have hn := named_any to w hs2
  have hh := has_any p B to t w ht hs2
  obtain ⟨hc, z, hz, rfl⟩ := ht
  cases hg : getT z nm with
  | none =>
    have E : Hid (moveT (mapT (·.2) z) nm to = (mapT (·.2) z, 20)) := by simp [Hid, moveT, getT_map, hg]
    rw [E.out]
    have hl := hz.look_no hs hg
    clear hz hg E hn hh
    go_enter Try.func57, Try.ntmps57
    go_wp2
    go_ret
    exact Does.same HT.out
  | some x =>
    have hlk := hz.look_yes hs hg
    obtain ⟨A, n, c, hv, hnc, hr⟩ := hz.get hg
    rw [hv] at hlk
    cases h1 : namedB to
    · rw [h1] at hn
      have E : Hid (moveT (mapT (·.2) z) nm to = (mapT (·.2) z, 20)) := by simp [Hid, moveT, getT_map, hg, h1]
      rw [E.out]
      have HN := Lib.hid hn
      clear hz hg E hn hh h1 hr hv
      go_enter Try.func57, Try.ntmps57
      go_wp2_with (go_at_call 40; refine HN.out.mono ?_; rintro e w' ⟨rfl, rfl⟩)
      go_ret
      exact Does.same HT.out
    · rw [h1] at hn
      cases h2 : hasT (mapT (·.2) z) to
      · rw [h2] at hh
        have E : Hid (moveT (mapT (·.2) z) nm to = (withT (withoutT (mapT (·.2) z) nm) to x.2, 0)) := by simp [Hid, moveT, getT_map, hg, h1, h2]
        rw [E.out]
        have HN := Lib.hid hn; have HH := Lib.hid hh; have HZ := Lib.hid hz
        have hrd : Reads w (.slice A n c) x.2 := ⟨A, n, c, rfl, hnc, hr⟩
        have HR := Lib.hid hrd
        have hzl : (withoutT z nm).length < maxLen := by
          have := without_length z nm
          rw [mapT_length] at hl; simp only [maxLen]; omega
        clear hz hg E hn hh h1 h2 hr hv hrd hl
        go_enter Try.func57, Try.ntmps57
        go_wp2_with (first
          | (go_at_call 40; refine HN.out.mono ?_; rintro e w' ⟨rfl, rfl⟩)
          | (go_at_call 74; refine HH.out.mono ?_; rintro e w' ⟨rfl, rfl⟩)
          | (at_delete; refine wpList_delete_own _ rfl _ _ 64 9 rfl 22 keyed9 Try.underlying64 raw B z.length _ rfl HZ.out.own _ _ rfl (key9 hs) ?_; intro w1 hown1 hturn1; have HO := Lib.hid (HZ.out.del hown1 hturn1); have HU := Lib.hid (Turned.of_map hturn1); have hc1 := HU.out.cell hc HT.out.ne; obtain ⟨mes, mcl, hmm⟩ := HZ.out.map; have HRR := Lib.hid (HR.out.turned HU.out hmm); clear hown1 hturn1 hmm)
          | (at_mapUpdate; refine wpList_mapUpdate_in _ rfl _ _ _ 64 rfl 9 22 keyed9 Try.underlying64 raw B (withoutT z nm).length _ rfl HO.out.own hzl _ _ _ rfl rfl (key9 hs2) _ [] (raw_mk A n c) ?_; intro w2 hown2 hturn2; have HO2 := Lib.hid hown2; have HU2 := Lib.hid hturn2; clear hown2 hturn2))
        go_ret
        have hg := Turned.of_map HU2.out
        refine ⟨rfl, (HT.out.to HU.out ⟨_, HO.out, (withoutT_map (fun x : Held => x.2) z nm).symm⟩).to hg ⟨_, HO.out.put HO2.out HU2.out HRR.out, ?_⟩, HU.out.trans hg⟩
        rw [withoutT_map, withT_map (fun x : Held => x.2) (withoutT z nm) to (.slice A n c, x.2)]
      · rw [h2] at hh
        have E : Hid (moveT (mapT (·.2) z) nm to = (mapT (·.2) z, 21)) := by simp [Hid, moveT, getT_map, hg, h1, h2]
        rw [E.out]
        have HN := Lib.hid hn; have HH := Lib.hid hh
        clear hz hg E hn hh h1 h2 hr hv
        go_enter Try.func57, Try.ntmps57
        go_wp2_with (first
          | (go_at_call 40; refine HN.out.mono ?_; rintro e w' ⟨rfl, rfl⟩)
          | (go_at_call 74; refine HH.out.mono ?_; rintro e w' ⟨rfl, rfl⟩))
        go_ret
        exact Does.same HT.out

set_option maxRecDepth 100000 in
set_option maxHeartbeats 800000 in
theorem put_any (p B : Nat) (nm : ByteArray) (A : Option Addr) (n c : Nat) (l : List ByteArray) (t : Tr) (w : World) (ht : TreeAt w p B t) (hx : Row w A n l) (hs : nm.size ≤ maxLen) (hl : t.length ≤ 65536) (hn : n ≤ 65536) (hb : ∀ s ∈ l, s.size ≤ maxLen) :
    Calls Try.prog 58 #[.pointer (some ⟨p, 0, none⟩), .string nm, .slice A n c] w (Does (putT t nm l) p B w) := by
  have HT := Lib.hid ht
  have hh := has_any p B nm t w ht hs
  have ha := all_any A n c l w hx hn hb
  cases h1 : hasT t nm
  · rw [h1] at hh
    have E : Hid (putT t nm l = (t, 20)) := by simp [Hid, putT, h1]
    rw [E.out]
    have HH := Lib.hid hh
    clear hh ha h1 E ht hx hb
    go_enter Try.func58, Try.ntmps58
    go_wp2_with (go_at_call 74; refine HH.out.mono ?_; rintro e w' ⟨rfl, rfl⟩)
    go_ret
    exact Does.same HT.out
  · rw [h1] at hh
    cases h2 : allB l
    · rw [h2] at ha
      have E : Hid (putT t nm l = (t, 1)) := by simp [Hid, putT, h1, h2]
      rw [E.out]
      have HH := Lib.hid hh; have HA := Lib.hid ha
      clear hh ha h1 h2 E ht hx hb
      go_enter Try.func58, Try.ntmps58
      go_wp2_with (first
        | (go_at_call 74; refine HH.out.mono ?_; rintro e w' ⟨rfl, rfl⟩)
        | (go_at_call 66; refine HA.out.mono ?_; rintro e w' ⟨rfl, rfl⟩))
      go_ret
      exact Does.same HT.out
    · rw [h2] at ha
      have E : Hid (putT t nm l = (withT t nm l, 0)) := by simp [Hid, putT, h1, h2]
      rw [E.out]
      have HH := Lib.hid hh; have HA := Lib.hid ha; have HX := Lib.hid hx
      obtain ⟨hc, z, hz, rfl⟩ := ht
      have HZ := Lib.hid hz
      have hzl : Hid (z.length < maxLen) := by rw [mapT_length] at hl; simp only [Hid, maxLen]; omega
      have HS := Lib.hid hs
      clear hs hh ha h1 h2 E hx hb hl hz
      go_enter Try.func58, Try.ntmps58
      go_wp2_with (first
        | (go_at_call 74; refine HH.out.mono ?_; rintro e w' ⟨rfl, rfl⟩)
        | (go_at_call 66; refine HA.out.mono ?_; rintro e w' ⟨rfl, rfl⟩))
      go_region_held3 (fun w' => w'.cell? ⟨p, 0, none⟩ = some (.map (some B))) (go_keep)
        (first
          | (go_at_call 36; refine (clone_any A n c l _ (HX.out.later (by first | exact Later.refl _ | exact (Later.refl _).drew | exact (Later.refl _).drewN _)) hn).mono ?_; rintro e w1 ⟨v1, rfl, hown⟩; have HL : Hid (Later w w1) := Later.trans (by first | exact Later.refl _ | exact (Later.refl _).drew | exact (Later.refl _).drewN _) hown.later; have hc1 := HL.out.cell hc; obtain ⟨A1, c1, rfl, hcc, hr1⟩ := hown.row; have HR := Lib.hid hr1; obtain ⟨w2, hrun2, hown2, hturn2⟩ := (HZ.out.later HL.out).own.store keyed9 Try.underlying64 hzl.out (key9 HS.out) (raw_mk A1 l.length c1); have HO2 := Lib.hid hown2; have HU2 := Lib.hid hturn2; have hc2 := (Turned.of_map hturn2).cell hc1 HT.out.ne; clear hown hr1 hown2 hturn2))
      go_wp2
      go_ret
      have hg := Turned.of_map HU2.out
      exact ⟨rfl, (HT.out.later HL.out).to hg ⟨_, (HZ.out.later HL.out).put HO2.out HU2.out ⟨A1, _, c1, rfl, hcc, HR.out⟩, (withT_map (fun x : Held => x.2) z nm (_, l)).symm⟩, (HL.out.turned B).trans hg⟩

/-- A row of the call's own, and a flag. -/
def Gets (o : Option (List ByteArray)) (w : World) (e : Ending) (w' : World) : Prop := ∃ v, e = .returned (.tuple #[v, .bool o.isSome]) ∧ Own 9 w w' v (o.getD [])

set_option maxHeartbeats 400000 in
theorem get_any (p B : Nat) (nm : ByteArray) (t : Tr) (w : World) (ht : TreeAt w p B t) (hs : nm.size ≤ maxLen) (hl : ∀ f ∈ t, f.2.length ≤ 65536) :
    Calls Try.prog 77 #[.pointer (some ⟨p, 0, none⟩), .string nm] w (Gets (getT t nm) w) := by
  obtain ⟨hc, z, hz, rfl⟩ := ht
  rw [getT_map]
  cases hg : getT z nm with
  | none =>
    have hlk := hz.look_no hs hg
    have HC := Lib.hid (clone_any none 0 0 [] w Row.none (by omega))
    clear hz hg
    go_enter Try.func77, Try.ntmps77
    go_wp2_with (go_at_call 36; refine HC.out.mono ?_; rintro e w1 ⟨v1, rfl, hown⟩; have HO := Lib.hid hown; clear hown)
    go_ret2
    exact ⟨v1, rfl, HO.out⟩
  | some x =>
    have hlk := hz.look_yes hs hg
    obtain ⟨A, n, c, hv, hnc, hr⟩ := hz.get hg
    have hlen : n ≤ 65536 := by
      have := hl (nm, x.2) (by simp only [mapT, List.mem_map]; exact ⟨_, getT_mem hg, rfl⟩)
      rw [← hr.len]; exact this
    rw [hv] at hlk
    have HC := Lib.hid (clone_any A n c x.2 w hr hlen)
    clear hz hg hr hl hv
    go_enter Try.func77, Try.ntmps77
    go_wp2_with (go_at_call 36; refine HC.out.mono ?_; rintro e w1 ⟨v1, rfl, hown⟩; have HO := Lib.hid hown; clear hown)
    go_ret2
    exact ⟨v1, rfl, HO.out⟩

end Go.Proofs.Ytalgapoigkbiaaa

/-
  What tree's Put comes to, as a call, where it is taken: the new row lies behind all that was there.
-/
namespace Go.Proofs.Ytalgapoigkbiaaa
open Go.RowKit Go.Maps

/-- The slice does not lie in block g. -/
def Off (g : Nat) (v : Value) : Prop := v.ownBlock ≠ some g

theorem Row.off {w w' : World} {g n c : Nat} {A : Option Addr} {l : List ByteArray} (h : Row w A n l) (hg : Turned g w w') (ho : l ≠ [] → Off g (.slice A n c)) : Row w' A n l :=
  ⟨h.1, fun hn => by
    obtain ⟨b, o, rfl, hc⟩ := h.2 hn
    have hl : l ≠ [] := by
      rintro rfl
      have := h.1
      simp at this; omega
    refine ⟨b, o, rfl, fun j s hs => hg.cell (hc j s hs) ?_⟩
    intro e
    exact ho hl (by simp only [Value.ownBlock]; rw [show b = g from e])⟩
theorem FA.off {w w' : World} {B g : Nat} {z : Fl Held} (h : FA w B z) (hg : Turned g w w') (hB : B ≠ g) (ho : ∀ f ∈ z, f.2.2 ≠ [] → Off g f.2.1) : FA w' B z :=
  ⟨h.own.kept hg (by simpa using hB), h.rise, fun f hf => by
    obtain ⟨A, n, c, e, h1, h2⟩ := h.reads f hf
    exact ⟨A, n, c, e, h1, h2.off (c := c) hg (by rw [← e]; exact ho f hf)⟩⟩

/-- The tree with the file's new lines, whose row lies behind all that was there at w. -/
def PutOk (p B : Nat) (z : Fl Held) (nm : ByteArray) (l : List ByteArray) (w : World) (e : Ending) (w' : World) : Prop :=
  ∃ v, e = .returned (.int .i64 0) ∧ w'.cell? ⟨p, 0, none⟩ = some (.map (some B)) ∧ FA w' B (withT z nm (v, l)) ∧ (∀ k, v.ownBlock = some k → w.heap.size ≤ k) ∧ Turned B w w'

set_option maxRecDepth 100000 in
set_option maxHeartbeats 800000 in
theorem put_ok (p B : Nat) (nm : ByteArray) (A : Option Addr) (n c : Nat) (l : List ByteArray) (z : Fl Held) (w : World) (hc : w.cell? ⟨p, 0, none⟩ = some (.map (some B))) (hz : FA w B z) (hx : Row w A n l) (hs : nm.size ≤ maxLen) (hl : z.length ≤ 65536) (hn : n ≤ 65536) (hb : ∀ s ∈ l, s.size ≤ maxLen)
    (h1 : hasT z nm = true) (h2 : allB l = true) :
    Calls Try.prog 58 #[.pointer (some ⟨p, 0, none⟩), .string nm, .slice A n c] w (PutOk p B z nm l w) := by
  have ht : TreeAt w p B (mapT (·.2) z) := ⟨hc, z, hz, rfl⟩
  have hne := ht.ne
  have hh := has_any p B nm _ w ht hs
  have ha := all_any A n c l w hx hn hb
  rw [hasT_map, h1] at hh
  rw [h2] at ha
  have HH := Lib.hid hh; have HA := Lib.hid ha; have HX := Lib.hid hx
  have HZ := Lib.hid hz
  have hzl : Hid (z.length < maxLen) := by simp only [Hid, maxLen]; omega
  have HS := Lib.hid hs
  clear hs hh ha h1 h2 hx hb hl hz ht
  go_enter Try.func58, Try.ntmps58
  go_wp2_with (first
    | (go_at_call 74; refine HH.out.mono ?_; rintro e w' ⟨rfl, rfl⟩)
    | (go_at_call 66; refine HA.out.mono ?_; rintro e w' ⟨rfl, rfl⟩))
  go_region_held3 (fun w' => w'.cell? ⟨p, 0, none⟩ = some (.map (some B))) (go_keep)
    (first
      | (go_at_call 36; refine (clone_any A n c l _ (HX.out.later (by first | exact Later.refl _ | exact (Later.refl _).drew | exact (Later.refl _).drewN _)) hn).mono ?_; rintro e w1 ⟨v1, rfl, hown⟩; have HL : Hid (Later w w1) := Later.trans (by first | exact Later.refl _ | exact (Later.refl _).drew | exact (Later.refl _).drewN _) hown.later; have hc1 := HL.out.cell hc; have HBK : Hid (∀ k, v1.ownBlock = some k → w.heap.size ≤ k) := (fun k hk => hown.block k hk); obtain ⟨A1, c1, rfl, hcc, hr1⟩ := hown.row; have HR := Lib.hid hr1; obtain ⟨w2, hrun2, hown2, hturn2⟩ := (HZ.out.later HL.out).own.store keyed9 Try.underlying64 hzl.out (key9 HS.out) (raw_mk A1 l.length c1); have HO2 := Lib.hid hown2; have HU2 := Lib.hid hturn2; have hc2 := (Turned.of_map hturn2).cell hc1 hne; clear hown hr1 hown2 hturn2))
  go_wp2
  go_ret
  have hg := Turned.of_map HU2.out
  exact ⟨_, rfl, hc2, (HZ.out.later HL.out).put HO2.out HU2.out ⟨A1, _, c1, rfl, hcc, HR.out⟩, HBK.out, (HL.out.turned B).trans hg⟩

end Go.Proofs.Ytalgapoigkbiaaa

/-
  What stands in memory while a statement that swaps two prims, and keeps both, goes on in whatever order.
-/
namespace Go.Proofs.Ytalgapoigkbiaaa
open Go.RowKit Go.Maps

/-- No row of the prim lies in block g. -/
def Away (g : Nat) (x : PrC) : Prop := (x.v.old ≠ [] → Off g (.slice x.A x.n x.c)) ∧ (x.v.new ≠ [] → Off g (.slice x.B x.m x.d))
/-- Its rows lie behind all that was there. -/
def Fresh (w : World) (x : PrC) : Prop := (∀ k, (Value.slice x.A x.n x.c).ownBlock = some k → w.heap.size ≤ k) ∧ (∀ k, (Value.slice x.B x.m x.d).ownBlock = some k → w.heap.size ≤ k)
theorem PrOk.off {w w' : World} {g : Nat} {x : PrC} (h : PrOk w x) (hg : Turned g w w') (ha : Away g x) : PrOk w' x :=
  ⟨h.old.off (c := x.c) hg ha.1, h.new.off (c := x.d) hg ha.2, h.oroom, h.nroom, h.omost, h.nmost, h.name, h.to, h.lo, h.hi, h.olds, h.news⟩
theorem Row.awayG {w : World} {A : Option Addr} {n c g : Nat} {l : List ByteArray} (h : Row w A n l) (hg : w.heap.size ≤ g) (hl : l ≠ []) : Off g (.slice A n c) := by
  have hn : 0 < n := by
    have := h.1
    cases l with
    | nil => exact absurd rfl hl
    | cons s l => simp at this; omega
  obtain ⟨b, o, rfl, hc⟩ := h.2 hn
  cases l with
  | nil => exact absurd rfl hl
  | cons s l =>
    have h1 := lt_of_cell (hc 0 s rfl)
    intro e
    simp only [Value.ownBlock, Option.some.injEq] at e
    dsimp only at h1
    omega
theorem PrOk.away {w : World} {x : PrC} {g : Nat} (h : PrOk w x) (hg : w.heap.size ≤ g) : Away g x := ⟨h.old.awayG hg, h.new.awayG hg⟩
theorem Fresh.away {w : World} {x : PrC} {g : Nat} (h : Fresh w x) (hg : g < w.heap.size) : Away g x :=
  ⟨fun _ e => by have := h.1 g e; omega, fun _ e => by have := h.2 g e; omega⟩

/-- What the statement has made. -/
structure Dat where
  i : PrC
  j : PrC
  c : PrC
  d : PrC
  g8 : Nat
  g9 : Nat

/-- By which operations have come: two that are undone, the swap, two blocks, two stores. -/
structure Wd (wx : World) (p q r s : Pr) (bi bj bs b8 b9 bt bu : Bool) (D : Dat) (w : World) : Prop where
  later : Later wx w
  wi : bi = true → bs = false → D.i.v = p ∧ PrOk w D.i
  wj : bj = true → bs = false → D.j.v = q ∧ PrOk w D.j
  wc : bs = true → D.c.v = r ∧ D.d.v = s ∧ PrOk w D.c ∧ PrOk w D.d
  w8 : b8 = true → wx.heap.size ≤ D.g8 ∧ ∃ cs, cs.size = 6 ∧ BoxAt w D.g8 cs 27 ∧ (bt = true → cs = (prL D.c).toArray)
  w9 : b9 = true → wx.heap.size ≤ D.g9 ∧ ∃ cs, cs.size = 6 ∧ BoxAt w D.g9 cs 27 ∧ (bu = true → cs = (prL D.d).toArray)
  n : b8 = true → b9 = true → D.g8 ≠ D.g9
  a8 : bs = true → b8 = true → Away D.g8 D.c ∧ Away D.g8 D.d
  a9 : bs = true → b9 = true → Away D.g9 D.c ∧ Away D.g9 D.d

section
variable {wx w w' : World} {p q r s : Pr} {bi bj bs b8 b9 bt bu : Bool} {D : Dat}
theorem Wd.start (D : Dat) (hl : Later wx w) : Wd wx p q r s false false false false false false false D w :=
  ⟨hl, (fun h => by cases h), (fun h => by cases h), (fun h => by cases h), (fun h => by cases h), (fun h => by cases h), (fun h => by cases h), (fun h => by cases h), (fun h => by cases h)⟩
theorem Wd.on (h : Wd wx p q r s bi bj bs b8 b9 bt bu D w) (hl : Later w w') : Wd wx p q r s bi bj bs b8 b9 bt bu D w' :=
  ⟨h.later.trans hl, fun e f => ⟨(h.wi e f).1, (h.wi e f).2.later hl⟩, fun e f => ⟨(h.wj e f).1, (h.wj e f).2.later hl⟩, fun e => ⟨(h.wc e).1, (h.wc e).2.1, (h.wc e).2.2.1.later hl, (h.wc e).2.2.2.later hl⟩,
    (fun e => by obtain ⟨h1, cs, h2, h3, h4⟩ := h.w8 e; exact ⟨h1, cs, h2, h3.later hl, h4⟩), (fun e => by obtain ⟨h1, cs, h2, h3, h4⟩ := h.w9 e; exact ⟨h1, cs, h2, h3.later hl, h4⟩), h.n, h.a8, h.a9⟩
theorem Wd.inv1 (h : Wd wx p q r s bi bj bs b8 b9 bt bu D w) (hl : Later w w') {i : PrC} (hv : i.v = p) (ho : PrOk w' i) : Wd wx p q r s true bj bs b8 b9 bt bu { D with i := i } w' :=
  { h.on hl with wi := fun _ _ => ⟨hv, ho⟩ }
theorem Wd.inv2 (h : Wd wx p q r s bi bj bs b8 b9 bt bu D w) (hl : Later w w') {j : PrC} (hv : j.v = q) (ho : PrOk w' j) : Wd wx p q r s bi true bs b8 b9 bt bu { D with j := j } w' :=
  { h.on hl with wj := fun _ _ => ⟨hv, ho⟩ }
theorem Wd.swap (h : Wd wx p q r s bi bj false b8 b9 false false D w) (hl : Later w w') {c d : PrC} (hc : c.v = r) (hd : d.v = s) (oc : PrOk w' c) (od : PrOk w' d) (fc : Fresh w c) (fd : Fresh w d) : Wd wx p q r s bi bj true b8 b9 false false { D with c := c, d := d } w' :=
  { h.on hl with
    wi := fun _ e => by cases e
    wj := fun _ e => by cases e
    wc := fun _ => ⟨hc, hd, oc, od⟩
    w8 := fun e => by obtain ⟨h1, cs, h2, h3, h4⟩ := (h.on hl).w8 e; exact ⟨h1, cs, h2, h3, fun e => by cases e⟩
    w9 := fun e => by obtain ⟨h1, cs, h2, h3, h4⟩ := (h.on hl).w9 e; exact ⟨h1, cs, h2, h3, fun e => by cases e⟩
    a8 := fun _ e => by obtain ⟨_, _, _, h3, _⟩ := h.w8 e; exact ⟨fc.away h3.lt, fd.away h3.lt⟩
    a9 := fun _ e => by obtain ⟨_, _, _, h3, _⟩ := h.w9 e; exact ⟨fc.away h3.lt, fd.away h3.lt⟩ }
theorem Wd.alloc8 (h : Wd wx p q r s bi bj bs false b9 false bu D w) : Wd wx p q r s bi bj bs true b9 false bu { D with g8 := w.heap.size } (w.alloc (.cells zeroL 27)) :=
  { h.on ((Later.refl w).alloc _) with
    w8 := fun _ => ⟨h.later.le, zeroL, rfl, BoxAt.made w zeroL 27, fun e => by cases e⟩
    n := fun _ e => by obtain ⟨_, _, _, h3, _⟩ := h.w9 e; have := h3.lt; show w.heap.size ≠ D.g9; omega
    a8 := fun e _ => ⟨(h.wc e).2.2.1.away (Nat.le_refl _), (h.wc e).2.2.2.away (Nat.le_refl _)⟩ }
theorem Wd.alloc9 (h : Wd wx p q r s bi bj bs b8 false bt false D w) : Wd wx p q r s bi bj bs b8 true bt false { D with g9 := w.heap.size } (w.alloc (.cells zeroL 27)) :=
  { h.on ((Later.refl w).alloc _) with
    w9 := fun _ => ⟨h.later.le, zeroL, rfl, BoxAt.made w zeroL 27, fun e => by cases e⟩
    n := fun e _ => by obtain ⟨_, _, _, h3, _⟩ := h.w8 e; have := h3.lt; show D.g8 ≠ w.heap.size; omega
    a9 := fun e _ => ⟨(h.wc e).2.2.1.away (Nat.le_refl _), (h.wc e).2.2.2.away (Nat.le_refl _)⟩ }
theorem Wd.st8 (h : Wd wx p q r s bi bj true true true bt bu D w) (hb : BoxAt w' D.g8 (prL D.c).toArray 27) (ht : Turned D.g8 w w') : Wd wx p q r s bi bj true true true true bu D w' :=
  { h with
    later := h.later.turn ht (h.w8 rfl).1
    wi := fun _ e => by cases e
    wj := fun _ e => by cases e
    wc := fun _ => ⟨(h.wc rfl).1, (h.wc rfl).2.1, (h.wc rfl).2.2.1.off ht (h.a8 rfl rfl).1, (h.wc rfl).2.2.2.off ht (h.a8 rfl rfl).2⟩
    w8 := fun _ => ⟨(h.w8 rfl).1, _, rfl, hb, fun _ => rfl⟩
    w9 := fun _ => by obtain ⟨h1, cs, h2, h3, h4⟩ := h.w9 rfl; exact ⟨h1, cs, h2, h3.other ht (Ne.symm (h.n rfl rfl)), h4⟩ }
theorem Wd.st9 (h : Wd wx p q r s bi bj true true true bt bu D w) (hb : BoxAt w' D.g9 (prL D.d).toArray 27) (ht : Turned D.g9 w w') : Wd wx p q r s bi bj true true true bt true D w' :=
  { h with
    later := h.later.turn ht (h.w9 rfl).1
    wi := fun _ e => by cases e
    wj := fun _ e => by cases e
    wc := fun _ => ⟨(h.wc rfl).1, (h.wc rfl).2.1, (h.wc rfl).2.2.1.off ht (h.a9 rfl rfl).1, (h.wc rfl).2.2.2.off ht (h.a9 rfl rfl).2⟩
    w9 := fun _ => ⟨(h.w9 rfl).1, _, rfl, hb, fun _ => rfl⟩
    w8 := fun _ => by obtain ⟨h1, cs, h2, h3, h4⟩ := h.w8 rfl; exact ⟨h1, cs, h2, h3.other ht (h.n rfl rfl), h4⟩ }
theorem Wd.swap' (h : Wd wx p q r s bi bj bs b8 b9 bt bu D w) (e1 : bs = false) (e2 : bt = false) (e3 : bu = false) (hl : Later w w') {c d : PrC} (hc : c.v = r) (hd : d.v = s) (oc : PrOk w' c) (od : PrOk w' d) (fc : Fresh w c) (fd : Fresh w d) : Wd wx p q r s bi bj true b8 b9 bt bu { D with c := c, d := d } w' := by
  subst e1 e2 e3; exact h.swap hl hc hd oc od fc fd
theorem Wd.alloc8' (h : Wd wx p q r s bi bj bs b8 b9 bt bu D w) (e1 : b8 = false) (e2 : bt = false) : Wd wx p q r s bi bj bs true b9 bt bu { D with g8 := w.heap.size } (w.alloc (.cells zeroL 27)) := by
  subst e1 e2; exact h.alloc8
theorem Wd.alloc9' (h : Wd wx p q r s bi bj bs b8 b9 bt bu D w) (e1 : b9 = false) (e2 : bu = false) : Wd wx p q r s bi bj bs b8 true bt bu { D with g9 := w.heap.size } (w.alloc (.cells zeroL 27)) := by
  subst e1 e2; exact h.alloc9
theorem Wd.st8' (h : Wd wx p q r s bi bj bs b8 b9 bt bu D w) (e1 : bs = true) (e2 : b8 = true) (e3 : b9 = true) (hb : BoxAt w' D.g8 (prL D.c).toArray 27) (ht : Turned D.g8 w w') : Wd wx p q r s bi bj bs b8 b9 true bu D w' := by
  subst e1 e2 e3; exact h.st8 hb ht
theorem Wd.st9' (h : Wd wx p q r s bi bj bs b8 b9 bt bu D w) (e1 : bs = true) (e2 : b8 = true) (e3 : b9 = true) (hb : BoxAt w' D.g9 (prL D.d).toArray 27) (ht : Turned D.g9 w w') : Wd wx p q r s bi bj bs b8 b9 bt true D w' := by
  subst e1 e2 e3; exact h.st9 hb ht
end

end Go.Proofs.Ytalgapoigkbiaaa
