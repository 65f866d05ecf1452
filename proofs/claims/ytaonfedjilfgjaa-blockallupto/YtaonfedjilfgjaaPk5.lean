import Derived.Test.YtaonfedjilfgjaaPk4
import Derived.Test.YtaonfedjilfgjaaPk3

/-
  Operations of a region that draws its order: those over a device.
-/
namespace Go.Proofs.Ytaonfedjilfgjaa
open Go.RowKit

section
variable {ops : Array Oper} {Q : Exit → Act → World → Prop} {K : Act → World → Prop} {i : Nat} {dst : Option Tmp} {js : List Nat} {a : Act} {w : World}
theorem OpIs.fieldDev {k : Tmp} {f g o : Nat} (h : OpIs ops i (.fieldAddr 95 (.tmp k) f) dst js) (hf : f < 6) (he : a.eval (.tmp k) = .pointer (some ⟨g, o, none⟩)) (hk : K (a.put dst (.pointer (some ⟨g, o + f, none⟩))) w) : wpOp Try.prog ops Q i K a w :=
  h.go fun op h1 h2 => by
    have hr : (execOp a.eval op).run Try.prog w = .ok (.value (.pointer (some ⟨g, o + f, none⟩))) w := by
      clear hk
      unfold execOp
      rw [h1]
      dsimp only
      rw [he]
      have h4 : f = 0 ∨ f = 1 ∨ f = 2 ∨ f = 3 ∨ f = 4 ∨ f = 5 := by omega
      rcases h4 with rfl | rfl | rfl | rfl | rfl | rfl <;> go_simp
    unfold Oper.wp
    rw [hr]
    show K _ _
    rw [h2]
    exact hk
theorem OpIs.loadDW {k : Tmp} {g o : Nat} {u : Value} (h : OpIs ops i (.load 93 (.tmp k)) dst js) (he : a.eval (.tmp k) = .pointer (some ⟨g, o, none⟩)) (hc : w.cell? ⟨g, o, none⟩ = some u) (hk : K (a.put dst (u)) w) : wpOp Try.prog ops Q i K a w :=
  h.go fun op h1 h2 => by
    have hr : (execOp a.eval op).run Try.prog w = .ok (.value (u)) w := by
      clear hk
      unfold execOp
      rw [h1]
      dsimp only
      rw [he]
      go_simp
    unfold Oper.wp
    rw [hr]
    show K _ _
    rw [h2]
    exact hk
theorem OpIs.loadDC {k : Tmp} {g o : Nat} {u : Value} (h : OpIs ops i (.load 92 (.tmp k)) dst js) (he : a.eval (.tmp k) = .pointer (some ⟨g, o, none⟩)) (hc : w.cell? ⟨g, o, none⟩ = some u) (hk : K (a.put dst (u)) w) : wpOp Try.prog ops Q i K a w :=
  h.go fun op h1 h2 => by
    have hr : (execOp a.eval op).run Try.prog w = .ok (.value (u)) w := by
      clear hk
      unfold execOp
      rw [h1]
      dsimp only
      rw [he]
      go_simp
    unfold Oper.wp
    rw [hr]
    show K _ _
    rw [h2]
    exact hk
theorem OpIs.loadMid {ty : TypeId} {k : Tmp} {b o : Nat} {cs : List Value} {d : TypeDesc} (h : OpIs ops i (.load ty (.tmp k)) dst js) (he : a.eval (.tmp k) = .pointer (some ⟨b, o, none⟩)) (hc : w.rangeAt b o cs) (hu : Try.prog.underlying ty = some d) (hd : d.isRow = true) (hi : (Try.prog.info? ty).map (·.size) = some cs.length)
    (hk : K (a.put dst (.agg cs.toArray)) w) : wpOp Try.prog ops Q i K a w :=
  h.go fun op h1 h2 => wp_load_mid ty _ h1 b o he cs d hc hu hd hi (by rw [h2]; exact hk)
theorem run_buildOne {P : Program} (w : World) (t e : TypeId) (i : TypeInfo) (z : Value) (cs : List Value) (ht : P.underlying t = some (.slice e)) (hi : P.info? e = some i) (hz : i.zero = some z) (hs : i.size = cs.length) (hzs : z.cells.size = cs.length) (h0 : 0 < cs.length) (h1 : cs.length ≤ 16777216) :
    (Instr.buildSlice t 1 #[(0, .agg cs.toArray)]).run P w = .ok (.slice (some ⟨w.heap.size, 0, none⟩) 1 1) (w.alloc (.cells cs.toArray e)) := by
  have n1 : ¬ 2 ^ 24 < cs.length := by omega
  have n2 : ¬ cs.length = 0 := by omega
  have hf : Instr.fill (fun q => some (q * cs.length, cs.length)) ((Array.range cs.length).map (z.cells[· % cs.length]!)) [(0, .agg cs.toArray)] = some cs.toArray := by
    rw [fill_step (off := 0 * cs.length) (size := cs.length) (vs := cs) rfl rfl rfl (by simp), Instr.fill, Nat.zero_mul, set_all (by simp)]
  simp [Instr.buildSlice, run_underlying ht, sizeOf, typeInfo, hi, hs, zeroValue, hz, hzs, n1, n2, hf, newRow]
theorem OpIs.buildOne {k : Tmp} {t e : TypeId} {cs : List Value} (ti : TypeInfo) (z : Value) (h : OpIs ops i (.buildSlice t 1 #[(0, .tmp k)]) dst js) (hv : a.eval (.tmp k) = .agg cs.toArray) (ht : Try.prog.underlying t = some (.slice e)) (hi : Try.prog.info? e = some ti) (hz : ti.zero = some z) (hs : ti.size = cs.length) (hzs : z.cells.size = cs.length) (h0 : 0 < cs.length) (h1 : cs.length ≤ 16777216)
    (hk : K (a.put dst (.slice (some ⟨w.heap.size, 0, none⟩) 1 1)) (w.alloc (.cells cs.toArray e))) : wpOp Try.prog ops Q i K a w :=
  h.go fun o h3 h2 => by
    have hr : (execOp a.eval o).run Try.prog w = .ok (.value (.slice (some ⟨w.heap.size, 0, none⟩) 1 1)) (w.alloc (.cells cs.toArray e)) := by
      unfold execOp
      rw [h3]
      simp only [hv, List.map_toArray, List.map_cons, List.map_nil, Sem.run_bind, run_buildOne w t e ti z cs ht hi hz hs hzs h0 h1, Result.andThen_ok]
      rfl
    unfold Oper.wp
    rw [hr]
    show K _ _
    rw [h2]
    exact hk
/-- append, by its own run. -/
theorem OpIs.appendD {P : Program} {j k : Tmp} {t s : TypeId} {v u : Value} (h : OpIs ops i (.call { callee := .builtin .append, args := #[.tmp j, .tmp k], argTypes := #[t, s] }) dst js) (hj : a.eval (.tmp j) = v) (hv : a.eval (.tmp k) = u)
    (hk : ∀ ty, ∃ v' w', (Builtin.append_ #[t, s] ty #[v, u]).run P w = .ok v' w' ∧ K (a.put dst v') w') : wpOp P ops Q i K a w :=
  h.go fun o h1 h2 => by
    obtain ⟨v', w', hrun, ho⟩ := hk o.type
    unfold Oper.wp execOp
    simp only [h1, resolve, invoke, builtin, Sem.run_bind, Sem.run_pure, Result.andThen_ok, List.map_toArray, List.map_cons, List.map_nil, hj, hv, hrun]
    show K _ _
    rw [h2]
    exact ho
/-- A slice is stored into a cell of a block. -/
theorem OpIs.storeDW {j k : Tmp} {g f : Nat} {A : Option Addr} {n c : Nat} {cs : Array Value} {t : TypeId} (h : OpIs ops i (.store 93 (.tmp j) (.tmp k)) none js) (hj : a.eval (.tmp j) = .pointer (some ⟨g, f, none⟩)) (hv : a.eval (.tmp k) = .slice A n c) (hb : CellsAt w g cs t) (hf : f < cs.size)
    (hk : ∀ w', CellsAt w' g (cs.setIfInBounds f (.slice A n c)) t → Chg (fun q => q = g) w w' → K a w') : wpOp Try.prog ops Q i K a w :=
  h.go fun o h1 h2 => by
    have hc : w.cell? ⟨g, f, none⟩ = some cs[f] := hb.cell (Array.getElem?_eq_getElem hf)
    have hz := hb.frozen f
    have hb' := hb.set1 f (.slice A n c)
    have ht := chg_set w g f (.slice A n c)
    have hr : (execOp a.eval o).run Try.prog w = .ok .skip (w.setCell ⟨g, f, none⟩ (.slice A n c)) := by
      clear hb hb' ht hk
      unfold execOp
      rw [h1]
      dsimp only
      rw [hj, hv]
      go_simp
    unfold Oper.wp
    rw [hr]
    show K _ _
    rw [h2]
    exact hk _ hb' ht
/-- A slice is stored into a cell of a block. -/
theorem OpIs.storeDC {j k : Tmp} {g f : Nat} {A : Option Addr} {n c : Nat} {cs : Array Value} {t : TypeId} (h : OpIs ops i (.store 92 (.tmp j) (.tmp k)) none js) (hj : a.eval (.tmp j) = .pointer (some ⟨g, f, none⟩)) (hv : a.eval (.tmp k) = .slice A n c) (hb : CellsAt w g cs t) (hf : f < cs.size)
    (hk : ∀ w', CellsAt w' g (cs.setIfInBounds f (.slice A n c)) t → Chg (fun q => q = g) w w' → K a w') : wpOp Try.prog ops Q i K a w :=
  h.go fun o h1 h2 => by
    have hc : w.cell? ⟨g, f, none⟩ = some cs[f] := hb.cell (Array.getElem?_eq_getElem hf)
    have hz := hb.frozen f
    have hb' := hb.set1 f (.slice A n c)
    have ht := chg_set w g f (.slice A n c)
    have hr : (execOp a.eval o).run Try.prog w = .ok .skip (w.setCell ⟨g, f, none⟩ (.slice A n c)) := by
      clear hb hb' ht hk
      unfold execOp
      rw [h1]
      dsimp only
      rw [hj, hv]
      go_simp
    unfold Oper.wp
    rw [hr]
    show K _ _
    rw [h2]
    exact hk _ hb' ht
end

end Go.Proofs.Ytaonfedjilfgjaa

/-
  The statement of Write that draws its order and appends.
-/
namespace Go.Proofs.Ytaonfedjilfgjaa
open Go.RowKit

def bkWr8_p6 (x : WrP) (v : Value) (w : World) : Prop := ∃ b : Nat, v = .slice (some ⟨b, 0, none⟩) 1 1 ∧ CellsAt w b (wrL x).toArray 103
def bkWr8_R (g : Nat) (vs : Value) (x : WrP) : Nat → Value → World → Prop
  | 0, v, _ => v = .pointer (some ⟨g, 0, none⟩)
  | 1, v, _ => v = .pointer (some ⟨g, 0, none⟩)
  | 2, v, _ => v = .pointer (some ⟨g, 0, none⟩)
  | 3, v, _ => v = .pointer (some ⟨g, 0 + 1, none⟩)
  | 4, v, _ => v = vs
  | 5, v, _ => v = .agg (wrL x).toArray
  | 6, v, w => bkWr8_p6 x v w
  | 7, _, _ => True
  | 8, v, _ => v = .pointer (some ⟨g, 0, none⟩)
  | 9, v, _ => v = .pointer (some ⟨g, 0 + 1, none⟩)
  | 10, _, _ => True
  | _, _, _ => True
def bkWr8_X (w0 : World) (g : Nat) (vs : Value) (v0' : Value) (o' : Int) (l' : Int) (a' : Bool) (d' : Bool) (xs : List (List Value)) (x : WrP) : Nat → List Value → World → World → Prop
  | 0, _, w1, w => w = w1
  | 1, [v0], w1, w => OwnK 103 129 w0 w v0 (xs ++ [wrL x]) ∧ w1.grownBy w vs.ownBlock ∧ (v0.ownBlock = vs.ownBlock ∨ v0.ownBlock = some w1.heap.size)
  | 2, [v0, _], w1, w => ∃ wm : World, OwnK 103 129 w0 wm v0 (xs ++ [wrL x]) ∧ w1.grownBy wm vs.ownBlock ∧ (v0.ownBlock = vs.ownBlock ∨ v0.ownBlock = some w1.heap.size) ∧ CellsAt w g #[v0', v0, .int .i64 o', .bool a', .int .i64 l', .bool d'] 95 ∧ Chg (fun q => q = g) wm w
  | _, _, _, _ => False
set_option maxRecDepth 100000 in
set_option maxHeartbeats 1600000 in
theorem bkWr8 {ops : Array Oper} (hn : ops.size = 11) (hg : goesBack ops = true)
    (o0 : OpIs ops 0 (.move (.tmp 0)) (some 42) [])
    (o1 : OpIs ops 1 (.move (.tmp 0)) (some 43) [])
    (o2 : OpIs ops 2 (.nilCheck (.tmp 43)) (some 44) [1])
    (o3 : OpIs ops 3 (.fieldAddr 95 (.tmp 44) 1) (some 45) [2])
    (o4 : OpIs ops 4 (.load 93 (.tmp 45)) (some 46) [3])
    (o5 : OpIs ops 5 (.load 103 (.tmp 7)) (some 47) [])
    (o6 : OpIs ops 6 (.buildSlice 93 1 #[(0, .tmp 47)]) (some 48) [5])
    (o7 : OpIs ops 7 (.call { callee := .builtin .append, args := #[.tmp 46, .tmp 48], argTypes := #[93, 93] }) (some 49) [4, 6])
    (o8 : OpIs ops 8 (.nilCheck (.tmp 42)) (some 50) [0, 1, 2, 3, 4, 5, 6, 7])
    (o9 : OpIs ops 9 (.fieldAddr 95 (.tmp 50) 1) (some 51) [0, 1, 2, 3, 4, 5, 6, 7, 8])
    (o10 : OpIs ops 10 (.store 93 (.tmp 51) (.tmp 49)) none [0, 1, 2, 3, 4, 5, 6, 7, 9])
    {a1 : Act} (hs : 54 ≤ a1.tmps.size) {wx : World} {w0 : World} {g gw : Nat} {vs v0' : Value} {o' l' : Int} {a' d' : Bool} {xs : List (List Value)} {x : WrP} (e0 : a1.eval (.tmp 0) = .pointer (some ⟨g, 0, none⟩)) (e7 : a1.eval (.tmp 7) = .pointer (some ⟨gw, 0, none⟩)) (hc1 : wx.cell? ⟨g, 0 + 1, none⟩ = some vs) (hbw : CellsAt wx gw (wrL x).toArray 103) (hlen : (wrL x).length = 129) (how : OwnK 103 129 w0 wx vs xs) (hxl : xs.length ≤ 900000) (hbg : CellsAt wx g #[v0', vs, .int .i64 o', .bool a', .int .i64 l', .bool d'] 95) (hvg : vs.ownBlock ≠ some g)
    {Q : Exit → Act → World → Prop} {id : Nat} (hend : ∀ (a : Act) (w1 w : World) (v0 v1 : Value), SameOut a1 a [42, 43, 44, 45, 46, 47, 48, 49, 50, 51] → Later wx w1 → a.eval (.tmp 49) = v0 → bkWr8_X w0 g vs v0' o' l' a' d' xs x 2 [v0, v1] w1 w → Q .normal a w) :
    (Code.region id ops true).wp Try.prog Q a1 wx := by
  refine region_turns (n := 11) (by kernel_rfl) hg hn [42, 43, 44, 45, 46, 47, 48, 49, 50, 51, 1010] (by decide +kernel) rfl [42, 43, 44, 45, 46, 47, 48, 49, 50, 51] (fun i => decide (i = 7) || decide (i = 10)) (fun i => decide (i = 0) || decide (i = 1) || decide (i = 2) || decide (i = 3) || decide (i = 8) || decide (i = 9)) (fun i => !decide (i = 10)) [7, 10] ?_ ?_ (bkWr8_R g vs x) (bkWr8_X w0 g vs v0' o' l' a' d' xs x) ?_ ?_ (by decide) ?_ ?_ ?_ ?_ (fun _ _ _ => Iff.rfl) ?_ ?_ ?_ ?_
  · intro i hi hs'
    have hc : i = 0 ∨ i = 1 ∨ i = 2 ∨ i = 3 ∨ i = 4 ∨ i = 5 ∨ i = 6 ∨ i = 7 ∨ i = 8 ∨ i = 9 ∨ i = 10 := by omega
    rcases hc with rfl | rfl | rfl | rfl | rfl | rfl | rfl | rfl | rfl | rfl | rfl
    · decide
    · decide
    · decide
    · decide
    · decide
    · decide
    · decide
    · decide
    · decide
    · decide
    · cases hs'
  · intro i hi hs'
    have hc : i = 0 ∨ i = 1 ∨ i = 2 ∨ i = 3 ∨ i = 4 ∨ i = 5 ∨ i = 6 ∨ i = 7 ∨ i = 8 ∨ i = 9 ∨ i = 10 := by omega
    rcases hc with rfl | rfl | rfl | rfl | rfl | rfl | rfl | rfl | rfl | rfl | rfl
    · show (42 : Nat) < _; omega
    · show (43 : Nat) < _; omega
    · show (44 : Nat) < _; omega
    · show (45 : Nat) < _; omega
    · show (46 : Nat) < _; omega
    · show (47 : Nat) < _; omega
    · show (48 : Nat) < _; omega
    · show (49 : Nat) < _; omega
    · show (50 : Nat) < _; omega
    · show (51 : Nat) < _; omega
    · cases hs'
  · intro i hi
    simp only [Bool.or_eq_true, decide_eq_true_eq] at hi
    rcases hi with rfl | rfl
    · decide
    · decide
  · intro i hi
    simp only [List.mem_cons, List.not_mem_nil, or_false] at hi
    rcases hi with rfl | rfl
    · decide
    · decide
  · intro i hi hT
    have hc : i = 0 ∨ i = 1 ∨ i = 2 ∨ i = 3 ∨ i = 4 ∨ i = 5 ∨ i = 6 ∨ i = 7 ∨ i = 8 ∨ i = 9 ∨ i = 10 := by omega
    rcases hc with rfl | rfl | rfl | rfl | rfl | rfl | rfl | rfl | rfl | rfl | rfl
    · rfl
    · rfl
    · rfl
    · rfl
    · rfl
    · rfl
    · rfl
    · rfl
    · rfl
    · rfl
    · cases hT
  · intro l dn i hi h k hk hp hT
    simp only [List.mem_cons, List.not_mem_nil, or_false] at hi
    rcases hi with rfl | rfl
    · have c4 := o7.back dn h 4 (by simp)
      have c6 := o7.back dn h 6 (by simp)
      have c3 := o4.back dn c4 3 (by simp)
      have c5 := o6.back dn c6 5 (by simp)
      have c2 := o3.back dn c3 2 (by simp)
      have c1 := o2.back dn c2 1 (by simp)
      have hc : k = 0 ∨ k = 1 ∨ k = 2 ∨ k = 3 ∨ k = 4 ∨ k = 5 ∨ k = 6 ∨ k = 7 ∨ k = 8 ∨ k = 9 ∨ k = 10 := by omega
      rcases hc with rfl | rfl | rfl | rfl | rfl | rfl | rfl | rfl | rfl | rfl | rfl
      · cases hp
      · cases hp
      · cases hp
      · cases hp
      · exact c4
      · exact c5
      · exact c6
      · cases hT
      · cases hp
      · cases hp
      · cases hT
    · have c0 := o10.back dn h 0 (by simp)
      have c1 := o10.back dn h 1 (by simp)
      have c2 := o10.back dn h 2 (by simp)
      have c3 := o10.back dn h 3 (by simp)
      have c4 := o10.back dn h 4 (by simp)
      have c5 := o10.back dn h 5 (by simp)
      have c6 := o10.back dn h 6 (by simp)
      have c7 := o10.back dn h 7 (by simp)
      have c9 := o10.back dn h 9 (by simp)
      have c8 := o9.back dn c9 8 (by simp)
      have hc : k = 0 ∨ k = 1 ∨ k = 2 ∨ k = 3 ∨ k = 4 ∨ k = 5 ∨ k = 6 ∨ k = 7 ∨ k = 8 ∨ k = 9 ∨ k = 10 := by omega
      rcases hc with rfl | rfl | rfl | rfl | rfl | rfl | rfl | rfl | rfl | rfl | rfl
      · cases hp
      · cases hp
      · cases hp
      · cases hp
      · exact c4
      · exact c5
      · exact c6
      · cases hT
      · cases hp
      · cases hp
      · cases hT
  · intro l dn t i i' h1 h2 h
    match t, h1, h2 with
    | 0, h1, h2 => cases h1; cases h2; have c0 := o10.back dn h 0 (by simp); have c1 := o10.back dn h 1 (by simp); have c2 := o10.back dn h 2 (by simp); have c3 := o10.back dn h 3 (by simp); have c4 := o10.back dn h 4 (by simp); have c5 := o10.back dn h 5 (by simp); have c6 := o10.back dn h 6 (by simp); have c7 := o10.back dn h 7 (by simp); have c9 := o10.back dn h 9 (by simp); have c8 := o9.back dn c9 8 (by simp); exact c7
    | t + 1, h1, h2 => simp at h2
  · intro i hi v w
    simp only [Bool.or_eq_true, decide_eq_true_eq] at hi
    rcases hi with rfl | rfl
    · trivial
    · trivial
  · intro l a w i o K ho hi hp hT hwait so hl0 F hK
    have hc : i = 0 ∨ i = 1 ∨ i = 2 ∨ i = 3 ∨ i = 4 ∨ i = 5 ∨ i = 6 ∨ i = 7 ∨ i = 8 ∨ i = 9 ∨ i = 10 := by omega
    rcases hc with rfl | rfl | rfl | rfl | rfl | rfl | rfl | rfl | rfl | rfl | rfl
    · cases hp
    · cases hp
    · cases hp
    · cases hp
    · have ws := o4.waits ho hwait
      have f3 : a.eval (.tmp 45) = .pointer (some ⟨g, 0 + 1, none⟩) := by obtain ⟨_, _, _, h⟩ := F 3 (ws 3 (by simp)) (by decide); exact h
      refine o4.loadDW f3 (Later.cell hl0 hc1) ?_
      exact hK _ _ (Later.refl w) rfl
    · refine o5.loadMid ((show _ = a1.eval _ from by simp only [Act.eval, Array.getD_eq_getD_getElem?, so.out 7 (by decide)]).trans e7) (CellsAt.range (o := 0) (hbw.later hl0) (fun j u hj => by rw [Nat.zero_add, arr_get]; exact hj)) Try.underlying103 rfl (by rw [hlen]; exact Try.writeSize) ?_
      exact hK _ _ (Later.refl w) rfl
    · have ws := o6.waits ho hwait
      have f5 : a.eval (.tmp 47) = .agg (wrL x).toArray := by obtain ⟨_, _, _, h⟩ := F 5 (ws 5 (by simp)) (by decide); exact h
      obtain ⟨i0, hi0, hz0, hz1, hz2⟩ := info_parts Try.writeInfo
      refine o6.buildOne i0 _ f5 Try.underlying93 hi0 hz0 (hz1.trans hlen.symm) ((wrL_len ⟨zeros_length 64, zeros_length 64⟩).trans hlen.symm) (by omega) (by omega) ?_
      exact hK _ _ ((Later.refl w).alloc _) ⟨_, rfl, CellsAt.made w _ _⟩
    · cases hT
    · cases hp
    · cases hp
    · cases hT
  · intro l a w w1 i o K ho hi hp hwait so hl0 F hK
    have hc : i = 0 ∨ i = 1 ∨ i = 2 ∨ i = 3 ∨ i = 4 ∨ i = 5 ∨ i = 6 ∨ i = 7 ∨ i = 8 ∨ i = 9 ∨ i = 10 := by omega
    rcases hc with rfl | rfl | rfl | rfl | rfl | rfl | rfl | rfl | rfl | rfl | rfl
    · refine o0.move ?_
      rw [show a.eval (.tmp 0) = .pointer (some ⟨g, 0, none⟩) from ((show _ = a1.eval _ from by simp only [Act.eval, Array.getD_eq_getD_getElem?, so.out 0 (by decide)]).trans e0)]
      exact hK _ rfl
    · refine o1.move ?_
      rw [show a.eval (.tmp 0) = .pointer (some ⟨g, 0, none⟩) from ((show _ = a1.eval _ from by simp only [Act.eval, Array.getD_eq_getD_getElem?, so.out 0 (by decide)]).trans e0)]
      exact hK _ rfl
    · have ws := o2.waits ho hwait
      have f1 : a.eval (.tmp 43) = .pointer (some ⟨g, 0, none⟩) := by obtain ⟨_, _, _, h⟩ := F 1 (ws 1 (by simp)) (by decide); exact h
      refine o2.nilCk f1 ?_
      exact hK _ rfl
    · have ws := o3.waits ho hwait
      have f2 : a.eval (.tmp 44) = .pointer (some ⟨g, 0, none⟩) := by obtain ⟨_, _, _, h⟩ := F 2 (ws 2 (by simp)) (by decide); exact h
      refine o3.fieldDev (by omega) f2 ?_
      exact hK _ rfl
    · cases hp
    · cases hp
    · cases hp
    · cases hp
    · have ws := o8.waits ho hwait
      have f0 : a.eval (.tmp 42) = .pointer (some ⟨g, 0, none⟩) := by obtain ⟨_, _, _, h⟩ := F 0 (ws 0 (by simp)) (by decide); exact h
      refine o8.nilCk f0 ?_
      exact hK _ rfl
    · have ws := o9.waits ho hwait
      have f8 : a.eval (.tmp 50) = .pointer (some ⟨g, 0, none⟩) := by obtain ⟨_, _, _, h⟩ := F 8 (ws 8 (by simp)) (by decide); exact h
      refine o9.fieldDev (by omega) f8 ?_
      exact hK _ rfl
    · cases hp
  · intro l a w1 w tq iq o vals K htq ho hwait so hl0 F hvl hvs hx hK
    match tq, htq with
    | 0, htq =>
      cases htq
      have hv0 := List.eq_nil_of_length_eq_zero hvl
      subst hv0
      have hw : w = w1 := hx
      subst hw
      have ws := o7.waits ho hwait
      have f4 : a.eval (.tmp 46) = vs := by obtain ⟨_, _, _, h⟩ := F 4 (ws 4 (by simp)) (by decide); exact h
      obtain ⟨x6, y6, z6, f6⟩ := F 6 (ws 6 (by simp)) (by decide)
      replace hK : ∀ vv ww, bkWr8_X w0 g vs v0' o' l' a' d' xs x 1 ([] ++ [vv]) w ww → K (a.put (some 49) vv) ww := hK
      obtain ⟨b, fe, hr⟩ := f6
      obtain ⟨i0, hi0, hz0, hz1, hz2⟩ := info_parts Try.writeInfo
      refine o7.appendD f4 fe fun ty => ?_
      obtain ⟨v', w', hrun, h1, h2, h3⟩ := run_append_one (P := Try.prog) (c := 1) 93 ty i0 _ 136 Try.underlying93 hi0 hz0 hz1 hz2 (wrL_len ⟨zeros_length 64, zeros_length 64⟩) (by decide) (how.on hl0) ((hr.later z6).range (o := 0) (fun j u hj => by rw [Nat.zero_add, arr_get]; exact hj)) hlen (wrL_one x) (by omega) (by decide)
      exact ⟨v', w', hrun, hK _ _ ⟨h1, h2, h3⟩⟩
    | 1, htq =>
      cases htq
      obtain ⟨v0, rfl⟩ := List.length_eq_one_iff.1 hvl
      have g7 : a.eval (.tmp 49) = v0 := hvs 0 7 v0 rfl rfl rfl
      have ws := o10.waits ho hwait
      have f9 : a.eval (.tmp 51) = .pointer (some ⟨g, 0 + 1, none⟩) := by obtain ⟨_, _, _, h⟩ := F 9 (ws 9 (by simp)) (by decide); exact h
      replace hK : ∀ vv ww, bkWr8_X w0 g vs v0' o' l' a' d' xs x 2 ([v0] ++ [vv]) w1 ww → K a ww := hK
      obtain ⟨h1, h2, h3⟩ := hx
      obtain ⟨A', c', e', -, -⟩ := h1.row
      have hch : Chg (fun q => vs.ownBlock = some q) w1 w := Chg.grown h2 fun q hq => .inl hq
      have hbw : CellsAt w g #[v0', vs, .int .i64 o', .bool a', .int .i64 l', .bool d'] 95 := (hbg.later hl0).chg hch (fun e => hvg e)
      refine o10.storeDW f9 (g7.trans e') hbw (by show 0 + 1 < 6; omega) (fun w' k1 k2 => hK undef _ ⟨w, h1, h2, h3, ?_, k2⟩)
      rw [e']
      exact k1
    | tq + 2, htq => simp at htq
  · intro a w1 w vals so hl F hvl hvs hx
    obtain ⟨v0, v1, rfl⟩ := len_two hvl
    exact hend a w1 w v0 v1 so hl  (hvs 0 7 v0 rfl rfl rfl) hx

end Go.Proofs.Ytaonfedjilfgjaa

/-
  The reference's fill, as a call.
-/
namespace Go.Proofs.Ytaonfedjilfgjaa
open Go.RowKit

theorem Try.rblockZero : (Try.prog.info? 47).map (·.zero) = some (some (.agg (Lib.byteCells (zeros 64)).toArray)) := by kernel_rfl
theorem Try.rblockSize : (Try.prog.info? 47).map (·.size) = some 64 := by kernel_rfl
/-- A block of bytes, from a place on. -/
def fromB (b : Bs) (k : Nat) : Bs := fillB ((b.drop k).take 64)
theorem fromB_length (b : Bs) (k : Nat) : (fromB b k).length = 64 := fillB_length (by rw [List.length_take]; omega)
theorem from_step {l : Bs} {k : Nat} {x : UInt8} (hx : l[k]? = some x) (hk : k < 64) : (Lib.byteCells (l.take k ++ zeros (64 - k))).toArray.setIfInBounds k (.int .u8 (x.toNat : Int)) = (Lib.byteCells (l.take (k + 1) ++ zeros (64 - (k + 1)))).toArray := by
  have hlk := (List.getElem?_eq_some_iff.1 hx).1
  have hlt : (l.take k).length = k := by rw [List.length_take]; omega
  have e : l.take (k + 1) = l.take k ++ [x] := by
    rw [List.take_add_one, hx]
    rfl
  have e2 : zeros (64 - k) = 0 :: zeros (64 - (k + 1)) := by
    rw [show 64 - k = (64 - (k + 1)) + 1 by omega]
    rfl
  have e3 : (Lib.byteCells (l.take k ++ zeros (64 - k))).set k (.int .u8 (x.toNat : Int)) = Lib.byteCells ((l.take k ++ zeros (64 - k)).set k x) := by
    simp [Lib.byteCells, List.map_set]
  rw [List.setIfInBounds_toArray, e3, e, e2]
  congr 2
  rw [List.set_append, if_neg (by omega), hlt, Nat.sub_self, List.set_cons_zero, List.append_assoc]
  rfl
theorem from_end {b : Bs} {f k : Nat} (h1 : k ≤ b.length - f) (h2 : k = 64 ∨ b.length - f ≤ k) (h3 : k ≤ 64) : (b.drop f).take k ++ zeros (64 - k) = fromB b f := by
  unfold fromB fillB
  have hl : (b.drop f).length = b.length - f := List.length_drop
  have e : (b.drop f).take 64 = (b.drop f).take k := by
    rcases h2 with rfl | h2
    · rfl
    · rw [List.take_of_length_le (by omega), List.take_of_length_le (by omega)]
  have e2 : ((b.drop f).take k).length = k := by rw [List.length_take]; omega
  rw [e, e2]
set_option maxRecDepth 100000 in
set_option maxHeartbeats 800000 in
theorem fill_any (A : Option Addr) (n c : Nat) (bs : Bs) (from_ : Nat) (w : World) (hx : BsAt w A n bs) (hn : n ≤ 1000000000) (hf : from_ ≤ 1000000000) :
    Calls Try.prog 52 #[.slice A n c, .int .i64 (from_ : Nat)] w fun e w' => e = .returned (.agg (Lib.byteCells (fromB bs from_)).toArray) ∧ Later w w' := by
  have HX := Lib.hid hx
  have hl := hx.len
  have HL := Lib.hid hl
  clear hx hl
  go_enter Try.func52, Try.ntmps52
  go_wp2_with (with_reducible show wpList _ _ _ ({ dst := some 4, op := Op.alloc _, type := _, pos := _, after := _, guard := _ } :: _) _ _; refine Hid.out ?_)
  refine Lib.hid (wpList_alloc_new rfl _ rfl _ Try.rblockZero ?_)
  intro w1 hc1 hl1 hs1
  have HC1 := Lib.hid hc1; have HL1 := Lib.hid hl1
  clear hc1 hl1
  go_wp2_with (with_reducible show wpList _ _ _ ({ dst := some 5, op := Op.alloc _, type := _, pos := _, after := _, guard := _ } :: _) _ _; refine Hid.out ?_)
  refine Lib.hid (wpList_alloc_new rfl _ rfl _ Try.rblockZero ?_)
  intro w2 hc2 hl2 hs2
  obtain ⟨g4, hg4⟩ : ∃ g, g = w.heap.size := ⟨_, rfl⟩
  obtain ⟨g5, hg5⟩ : ∃ g, g = w1.heap.size := ⟨_, rfl⟩
  have hne : g4 ≠ g5 := by omega
  have HW4 : Hid (w.heap.size ≤ g4 ∧ w.heap.size ≤ g5) := by constructor <;> omega
  have HC2 := Lib.hid hc2; have HC3 := Lib.hid (HC1.out.later hl2); have HL2 := Lib.hid (HL1.out.trans hl2)
  rw [← hg5] at HC2 ⊢
  rw [← hg4] at HC3 ⊢
  clear hc2 hl2 hs1 hs2 HC1 HL1 hg4 hg5
  go_wp2
  go_loopg [6] (65) (fun g0 s6 wr => ∃ (k : Nat), k ≤ 64 ∧ (k ≤ n - from_) ∧ 64 - k ≤ g0 ∧ s6 = .int .i64 (k : Nat) ∧ Hid (CellsAt wr g5 (Lib.byteCells ((bs.drop from_).take k ++ zeros (64 - k))).toArray 47) ∧ Hid (CellsAt wr g4 (Lib.byteCells (zeros 64)).toArray 47) ∧ Hid (Later w wr))
  case atStart => exact ⟨0, by omega, by omega, by omega, rfl, HC2, HC3, HL2⟩
  case round =>
    clear HC2 HC3 HL2
    obtain ⟨k, hk, hkn, hg, rfl, h5, h4, hlw⟩ := hrel
    by_cases hk64 : k < 64
    · by_cases hkl : from_ + k < n
      · have hkl' : ((from_ : Nat) : Int) + ((k : Nat) : Int) < ((n : Nat) : Int) := by omega
        have hzx : (bs.drop from_)[k]? = some ((bs.drop from_)[k]'(by rw [List.length_drop, HL.out]; omega)) := List.getElem?_eq_getElem _
        obtain ⟨b, o, rfl, hcell⟩ := (HX.out.later hlw.out).get hkl
        have hx0 : bs.getD (from_ + k) 0 = (bs.drop from_)[k]'(by rw [List.length_drop, HL.out]; omega) := by
          rw [List.getElem_drop]
          simp [List.getD, List.getElem?_eq_getElem (show from_ + k < bs.length by rw [HL.out]; exact hkl)]
        rw [hx0] at hcell
        obtain ⟨x, hx⟩ : ∃ x, x = (bs.drop from_)[k]'(by rw [List.length_drop, HL.out]; omega) := ⟨_, rfl⟩
        rw [← hx] at hzx hcell
        have hfz := h5.out.frozen k
        have hsz : (Lib.byteCells ((bs.drop from_).take k ++ zeros (64 - k))).toArray.size = 64 := by
          simp only [List.size_toArray, Lib.byteCells, List.length_map, List.length_append, zeros_length, List.length_take, List.length_drop]
          have := HL.out
          omega
        obtain ⟨u0, hold⟩ : ∃ u, wr.cell? ⟨g5, k, none⟩ = some u := ⟨_, h5.out.cell (Array.getElem?_eq_getElem (show k < _ by rw [hsz]; exact hk64))⟩
        have HND : Hid (CellsAt (wr.setCell ⟨g5, k, none⟩ (.int .u8 (x.toNat : Int))) g5 (Lib.byteCells ((bs.drop from_).take (k + 1) ++ zeros (64 - (k + 1)))).toArray 47) := by
          have := h5.out.set1 k (.int .u8 (x.toNat : Int))
          rw [from_step hzx hk64] at this
          exact this
        have HN4 : Hid (CellsAt (wr.setCell ⟨g5, k, none⟩ (.int .u8 (x.toNat : Int))) g4 (Lib.byteCells (zeros 64)).toArray 47) := h4.out.chg (chg_set wr g5 k _) hne
        have HNL : Hid (Later w (wr.setCell ⟨g5, k, none⟩ (.int .u8 (x.toNat : Int)))) := (chg_set wr g5 k _).low hlw.out (fun q hq => by rw [hq]; exact HW4.out.2)
        clear hzx hx hx0 hsz h5 h4 hlw
        go_wp2
        go_roundg (64 - (k + 1))
        case measure => omega
        case rel => exact ⟨k + 1, by omega, by omega, by omega, by go_num, HND, HN4, HNL⟩
      · have hkl' : ¬ ((from_ : Nat) : Int) + ((k : Nat) : Int) < ((n : Nat) : Int) := by omega
        have hfe := from_end (b := bs) (f := from_) (k := k) (by rw [HL.out]; exact hkn) (by rw [HL.out]; omega) hk
        rw [hfe] at h5
        clear hfe
        go_wp2_with (with_reducible show wpList _ _ _ ({ dst := some 27, op := Op.load _ _, type := _, pos := _, after := _, guard := _ } :: _) _ _; refine Hid.out ?_)
        refine Lib.hid (wpList_load_mid rfl _ _ rfl g5 0 rfl (Lib.byteCells (fromB bs from_)) _ (h5.out.range (o := 0) (fun j u hj => by rw [Nat.zero_add, List.getElem?_toArray]; exact hj)) Try.underlying47 rfl (by rw [bc_len, fromB_length]; exact Try.rblockSize) ?_)
        refine wpList_store_mids rfl rfl _ _ _ rfl g4 0 (Lib.byteCells (fromB bs from_)) rfl rfl (h4.out.there (by simp only [List.size_toArray]; rw [bc_len, bc_len, fromB_length]; decide)) (by rw [bc_len, fromB_length]; exact Try.rblockSize) (bc_one _) ?_
        intro w9 hw9
        have hc9 : CellsAt w9 g4 (Lib.byteCells (fromB bs from_)).toArray 47 := by
          have := h4.out.sets (Lib.byteCells (fromB bs from_)) (o := 0)
          rw [set_all (by simp only [List.size_toArray]; rw [bc_len, bc_len, fromB_length]; rfl)] at this
          rw [hw9]
          exact this
        have hl9 : Later w w9 := by
          rw [hw9]
          exact (sets_chg (g := g4) (Lib.byteCells (fromB bs from_)) wr 0).low hlw.out (fun q hq => by rw [hq]; exact HW4.out.1)
        have HC9 := Lib.hid hc9; have HL9 := Lib.hid hl9
        clear hc9 hl9 hw9
        refine Lib.hid ?_
        go_wp2
        refine bodyPost_ret (results_cell_row rfl _ _ g4 _ _ _ _ rfl HC9.out Try.underlying47 rfl (by simp only [List.size_toArray]; rw [bc_len, fromB_length]; exact Try.rblockSize)) rfl ?_
        exact ⟨rfl, HL9.out⟩
    · have hk' : k = 64 := by omega
      have hfe := from_end (b := bs) (f := from_) (k := k) (by rw [HL.out]; exact hkn) (by rw [HL.out]; omega) hk
      rw [hfe] at h5
      clear hfe
      go_wp2_with (with_reducible show wpList _ _ _ ({ dst := some 27, op := Op.load _ _, type := _, pos := _, after := _, guard := _ } :: _) _ _; refine Hid.out ?_)
      refine Lib.hid (wpList_load_mid rfl _ _ rfl g5 0 rfl (Lib.byteCells (fromB bs from_)) _ (h5.out.range (o := 0) (fun j u hj => by rw [Nat.zero_add, List.getElem?_toArray]; exact hj)) Try.underlying47 rfl (by rw [bc_len, fromB_length]; exact Try.rblockSize) ?_)
      refine wpList_store_mids rfl rfl _ _ _ rfl g4 0 (Lib.byteCells (fromB bs from_)) rfl rfl (h4.out.there (by simp only [List.size_toArray]; rw [bc_len, bc_len, fromB_length]; decide)) (by rw [bc_len, fromB_length]; exact Try.rblockSize) (bc_one _) ?_
      intro w9 hw9
      have hc9 : CellsAt w9 g4 (Lib.byteCells (fromB bs from_)).toArray 47 := by
        have := h4.out.sets (Lib.byteCells (fromB bs from_)) (o := 0)
        rw [set_all (by simp only [List.size_toArray]; rw [bc_len, bc_len, fromB_length]; rfl)] at this
        rw [hw9]
        exact this
      have hl9 : Later w w9 := by
        rw [hw9]
        exact (sets_chg (g := g4) (Lib.byteCells (fromB bs from_)) wr 0).low hlw.out (fun q hq => by rw [hq]; exact HW4.out.1)
      have HC9 := Lib.hid hc9; have HL9 := Lib.hid hl9
      clear hc9 hl9 hw9
      refine Lib.hid ?_
      go_wp2
      refine bodyPost_ret (results_cell_row rfl _ _ g4 _ _ _ _ rfl HC9.out Try.underlying47 rfl (by simp only [List.size_toArray]; rw [bc_len, fromB_length]; exact Try.rblockSize)) rfl ?_
      exact ⟨rfl, HL9.out⟩

end Go.Proofs.Ytaonfedjilfgjaa

/-
  The reference's states; At, as a call.
-/
namespace Go.Proofs.Ytaonfedjilfgjaa
open Go.RowKit

/-- A state of the reference. -/
structure StP where
  l : List Bs
  row : List (Int × Bs)
  ops : Nat
  fuse : Int
  down : Bool
def rowC (x : Int × Bs) : List Value := .int .i64 x.1 :: Lib.byteCells x.2
structure StAt (w : World) (A : Option Addr) (n : Nat) (B : Option Addr) (m : Nat) (s : StP) : Prop where
  l : RowK 64 w A n (s.l.map Lib.byteCells)
  row : RowK 65 w B m (s.row.map rowC)
  sz : ∀ b ∈ s.l, b.length = 64
  rz : ∀ x ∈ s.row, x.2.length = 64
  nil : m = 0 → B = none
def foldR (k : Int) (b0 : Bs) (row : List (Int × Bs)) : Bs := row.foldl (fun b x => if x.1 = k then x.2 else b) b0
def atR (s : StP) (k : Nat) : Bs := foldR k (s.l.getD k []) s.row
theorem foldR_take {k : Int} {b0 : Bs} {row : List (Int × Bs)} {i : Nat} {x : Int × Bs} (hx : row[i]? = some x) : foldR k b0 (row.take (i + 1)) = if x.1 = k then x.2 else foldR k b0 (row.take i) := by
  rw [List.take_add_one, hx]
  unfold foldR
  rw [List.foldl_append]
  rfl
theorem foldR_length {k : Int} {b0 : Bs} (h0 : b0.length = 64) : ∀ (row : List (Int × Bs)), (∀ x ∈ row, x.2.length = 64) → (foldR k b0 row).length = 64 := by
  intro row
  induction row generalizing b0 with
  | nil => intro _; exact h0
  | cons x row ih =>
    intro h
    unfold foldR
    rw [List.foldl_cons]
    refine ih ?_ fun y hy => h y (List.mem_cons_of_mem _ hy)
    split
    · exact h x (List.mem_cons_self ..)
    · exact h0
section
variable {w w' : World} {A B : Option Addr} {n m : Nat} {s : StP}
theorem StAt.later (h : StAt w A n B m s) (hl : Later w w') : StAt w' A n B m s := ⟨h.l.later hl, h.row.later hl, h.sz, h.rz, h.nil⟩
theorem StAt.len (h : StAt w A n B m s) : s.l.length = n := by have := h.l.len; simpa using this
theorem StAt.rlen (h : StAt w A n B m s) : s.row.length = m := by have := h.row.len; simpa using this
theorem StAt.getL (h : StAt w A n B m s) {k : Nat} (hk : k < n) : ∃ b o, A = some ⟨b, o, .none⟩ ∧ w.rangeAt b (o + k * 64) (Lib.byteCells (s.l.getD k [])) ∧ (s.l.getD k []).length = 64 := by
  obtain ⟨b, o, e, cs, hcs, _, hc⟩ := h.l.get hk
  have hkl : k < s.l.length := by rw [h.len]; exact hk
  have hz : s.l[k]? = some s.l[k] := List.getElem?_eq_getElem hkl
  rw [List.getElem?_map, hz] at hcs
  cases hcs
  refine ⟨b, o, e, ?_, ?_⟩
  · simp only [List.getD, hz, Option.getD_some]
    exact fun i v hi => hc i v hi
  · simp only [List.getD, hz, Option.getD_some]
    exact h.sz _ (List.getElem_mem hkl)
theorem StAt.getR (h : StAt w A n B m s) {k : Nat} (hk : k < m) : ∃ b o x, B = some ⟨b, o, .none⟩ ∧ s.row[k]? = some x ∧ w.cell? ⟨b, o + k * 65, .none⟩ = some (.int .i64 x.1) ∧ w.rangeAt b (o + k * 65 + 1) (Lib.byteCells x.2) ∧ x.2.length = 64 := by
  obtain ⟨b, o, e, cs, hcs, _, hc⟩ := h.row.get hk
  have hkl : k < s.row.length := by rw [h.rlen]; exact hk
  have hz : s.row[k]? = some s.row[k] := List.getElem?_eq_getElem hkl
  rw [List.getElem?_map, hz] at hcs
  cases hcs
  refine ⟨b, o, s.row[k], e, hz, hc 0 _ rfl, fun i v hi => ?_, h.rz _ (List.getElem_mem hkl)⟩
  have := hc (i + 1) v (by unfold rowC; rw [List.getElem?_cons_succ]; exact hi)
  rw [show o + k * 65 + 1 + i = o + k * 65 + (i + 1) by omega]
  exact this
theorem StAt.atR_length (h : StAt w A n B m s) {k : Nat} (hk : k < n) : (atR s k).length = 64 := by
  obtain ⟨_, _, _, _, h1⟩ := h.getL hk
  exact foldR_length h1 _ h.rz
set_option maxRecDepth 100000 in
set_option maxHeartbeats 800000 in
theorem at_any (h : StAt w A n B m s) (hm : m ≤ 1000000) (k : Nat) (hk : k < n) (_hn : n ≤ 1000000) (c e : Nat) :
    Calls Try.prog 51 #[.agg #[.slice A n c, .slice B m e, .int .i64 (s.ops : Nat), .int .i64 s.fuse, .bool s.down], .int .i64 (k : Nat)] w fun e w' => e = .returned (.agg (Lib.byteCells (atR s k)).toArray) ∧ Later w w' := by
  have HH := Lib.hid h
  clear h
  go_enter Try.func51, Try.ntmps51
  go_wp2_with (with_reducible show wpList _ _ _ ({ dst := some 4, op := Op.alloc _, type := _, pos := _, after := _, guard := _ } :: _) _ _; refine Hid.out ?_)
  refine Lib.hid (wpList_alloc_new rfl _ rfl _ Try.rblockZero ?_)
  intro w1 hc1 hl1 hs1
  have hcb := (CellsAt.made w #[.slice A n c, .slice B m e, .int .i64 (s.ops : Nat), .int .i64 s.fuse, .bool s.down] 30).later hl1
  have hl0 : Later w w1 := ((Later.refl w).alloc _).trans hl1
  have hsz : (w.alloc (.cells #[.slice A n c, .slice B m e, .int .i64 (s.ops : Nat), .int .i64 s.fuse, .bool s.down] 30)).heap.size = w.heap.size + 1 := World.size_alloc _ _
  rw [hsz] at hc1 ⊢
  have q0 : w1.cell? ⟨w.heap.size, 0, none⟩ = some (.slice A n c) := hcb.cell rfl
  have q1 : w1.cell? ⟨w.heap.size, 1, none⟩ = some (.slice B m e) := hcb.cell rfl
  have HC1 := Lib.hid hc1; have HL0 := Lib.hid hl0
  clear hc1 hl1 hs1 hcb hl0 hsz
  go_wp2
  go_loopg [5] (m + 1) (fun g0 s5 wr => ∃ (j : Nat) (z : Int), j ≤ m ∧ j ≤ g0 ∧ s5 = .int .i64 z ∧ z = (j : Int) - 1 ∧ Hid (foldR (k : Int) (s.l.getD k []) (s.row.take j) = atR s k) ∧ wr = w1)
  case atStart => exact ⟨m, (m : Int) - 1, Nat.le_refl _, by omega, by go_num, rfl, (by show foldR _ _ (s.row.take m) = _; rw [← HH.out.rlen, List.take_length]; rfl), rfl⟩
  case round =>
    obtain ⟨j, z, hj, hg, rfl, hz, hr, rfl⟩ := hrel
    by_cases hj0 : j = 0
    · subst hj0
      obtain rfl : z = -1 := by omega
      clear hz
      have hrt : Hid (atR s k = s.l.getD k []) := hr.out.symm
      obtain ⟨b, o, rfl, hrg, hll⟩ := (HH.out.later HL0.out).getL hk
      have HRG : Hid (wr.rangeAt b (o + k * 64) (Lib.byteCells (s.l.getD k []))) := hrg
      have HLL : Hid (List.length (s.l.getD k []) = 64) := hll
      go_wp2_with (with_reducible show wpList _ _ _ ({ dst := some 32, op := Op.load 47 _, type := _, pos := _, after := _, guard := _ } :: _) _ _; refine Hid.out ?_)
      refine Lib.hid (wpList_load_mid rfl _ _ rfl b (o + k * 64) rfl (Lib.byteCells (s.l.getD k [])) _ HRG.out Try.underlying47 rfl (by rw [bc_len, HLL.out]; exact Try.rblockSize) ?_)
      refine wpList_store_mids rfl rfl _ _ _ rfl (w.heap.size + 1) 0 (Lib.byteCells (s.l.getD k [])) rfl rfl (HC1.out.there (by simp only [Value.cells, List.size_toArray]; rw [bc_len, bc_len, HLL.out]; decide)) (by rw [bc_len, HLL.out]; exact Try.rblockSize) (bc_one _) ?_
      intro w9 hw9
      have hc9 : CellsAt w9 (w.heap.size + 1) (Lib.byteCells (s.l.getD k [])).toArray 47 := by
        have := HC1.out.sets (Lib.byteCells (s.l.getD k [])) (o := 0)
        rw [set_all (by simp only [Value.cells, List.size_toArray]; rw [bc_len, bc_len, HLL.out]; rfl)] at this
        rw [hw9]
        exact this
      have hl9 : Later w w9 := by
        rw [hw9]
        exact (sets_chg (g := w.heap.size + 1) (Lib.byteCells (s.l.getD k [])) wr 0).low HL0.out (fun q hq => by rw [hq]; exact Nat.le_succ _)
      have HC9 := Lib.hid hc9; have HL9 := Lib.hid hl9
      clear hc9 hl9 hw9 HC1 HL0
      refine Lib.hid ?_
      go_wp2
      refine bodyPost_ret (results_cell_row rfl _ _ (w.heap.size + 1) _ _ _ _ rfl HC9.out Try.underlying47 rfl (by simp only [List.size_toArray]; rw [bc_len, HLL.out]; exact Try.rblockSize)) rfl ?_
      exact ⟨by rw [hrt.out], HL9.out⟩
    · obtain ⟨i, rfl⟩ : ∃ i, j = i + 1 := ⟨j - 1, by omega⟩
      obtain rfl : z = (i : Nat) := by omega
      clear hz
      obtain ⟨b, o, x, rfl, hx, hxk, hrg, hll⟩ := (HH.out.later HL0.out).getR (k := i) (by omega)
      have hr2 := hr.out
      rw [foldR_take hx] at hr2
      by_cases he : x.1 = (k : Int)
      · rw [if_pos he] at hr2
        have hrt : Hid (atR s k = x.2) := hr2.symm
        clear hr2 hx hr
        have HRG : Hid (wr.rangeAt b (o + i * 65 + 1) (Lib.byteCells x.2)) := hrg
        have HLL : Hid (List.length x.2 = 64) := hll
        go_wp2_with (with_reducible show wpList _ _ _ ({ dst := some 27, op := Op.load 47 _, type := _, pos := _, after := _, guard := _ } :: _) _ _; refine Hid.out ?_)
        refine Lib.hid (wpList_load_mid rfl _ _ rfl b (o + i * 65 + 1) rfl (Lib.byteCells x.2) _ HRG.out Try.underlying47 rfl (by rw [bc_len, HLL.out]; exact Try.rblockSize) ?_)
        refine wpList_store_mids rfl rfl _ _ _ rfl (w.heap.size + 1) 0 (Lib.byteCells x.2) rfl rfl (HC1.out.there (by simp only [Value.cells, List.size_toArray]; rw [bc_len, bc_len, HLL.out]; decide)) (by rw [bc_len, HLL.out]; exact Try.rblockSize) (bc_one _) ?_
        intro w9 hw9
        have hc9 : CellsAt w9 (w.heap.size + 1) (Lib.byteCells x.2).toArray 47 := by
          have := HC1.out.sets (Lib.byteCells x.2) (o := 0)
          rw [set_all (by simp only [Value.cells, List.size_toArray]; rw [bc_len, bc_len, HLL.out]; rfl)] at this
          rw [hw9]
          exact this
        have hl9 : Later w w9 := by
          rw [hw9]
          exact (sets_chg (g := w.heap.size + 1) (Lib.byteCells x.2) wr 0).low HL0.out (fun q hq => by rw [hq]; exact Nat.le_succ _)
        have HC9 := Lib.hid hc9; have HL9 := Lib.hid hl9
        clear hc9 hl9 hw9 HC1 HL0
        refine Lib.hid ?_
        go_wp2
        refine bodyPost_ret (results_cell_row rfl _ _ (w.heap.size + 1) _ _ _ _ rfl HC9.out Try.underlying47 rfl (by simp only [List.size_toArray]; rw [bc_len, HLL.out]; exact Try.rblockSize)) rfl ?_
        exact ⟨by rw [hrt.out], HL9.out⟩
      · rw [if_neg he] at hr2
        have HR2 : Hid (foldR (k : Int) (s.l.getD k []) (s.row.take i) = atR s k) := hr2
        clear hr2 hx hr hrg
        go_wp2
        go_roundg (i)
        case measure => omega
        case rel => exact ⟨i, (i : Int) - 1, by omega, Nat.le_refl _, by go_num, rfl, HR2, rfl⟩
end

end Go.Proofs.Ytaonfedjilfgjaa
