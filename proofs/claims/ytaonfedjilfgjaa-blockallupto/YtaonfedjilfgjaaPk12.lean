import Derived.Test.YtaonfedjilfgjaaPk11
import Derived.Test.YtaonfedjilfgjaaPk2
import Derived.Test.YtaonfedjilfgjaaPk3
import Derived.Test.YtaonfedjilfgjaaPk7
import Derived.Test.YtaonfedjilfgjaaPk10
import Derived.Test.YtaonfedjilfgjaaPk8

/-
  The statement of the reference's Do that draws its order and appends a write.
-/
namespace Go.Proofs.Ytaonfedjilfgjaa
open Go.RowKit

theorem Try.rwriteInfo : (Try.prog.info? 49).map (fun i => (i.zero, i.size, i.bytes)) = some (some (.agg (rowC (0, zeros 64)).toArray), 65, 72) := by kernel_rfl
theorem Try.rwriteZero : (Try.prog.info? 49).map (·.zero) = some (some (.agg (rowC (0, zeros 64)).toArray)) := by kernel_rfl
theorem Try.rwritePlaces : (match Try.prog.underlying 49 with | some (.struct fields) => fields.toList.mapM (fun f => (Try.prog.info? f.type).map fun i => (f.offset, i.size)) | _ => none) = some [(0, 1), (1, 64)] := by kernel_rfl
theorem rowC_len {x : Int × Bs} (h : x.2.length = 64) : (rowC x).length = 65 := by unfold rowC; rw [List.length_cons, bc_len, h]
theorem rowC_one (x : Int × Bs) : ∀ v ∈ rowC x, v.oneCell' = true := fun v hv => by
  rcases List.mem_cons.1 hv with rfl | hv
  · rfl
  · exact bc_one _ v hv
set_option maxRecDepth 100000 in
theorem built_row (k : Int) (b : Bs) (hb : b.length = 64) : Try.prog.built 49 [(0, .int .i64 k), (1, .agg (Lib.byteCells b).toArray)] = some (rowC (k, b)).toArray := by
  have hp := Try.rwritePlaces
  have hz := Try.rwriteZero
  have hbl := bc_len b
  unfold Program.built
  cases hi : Try.prog.info? 49 with
  | none => rw [hi] at hz; cases hz
  | some it =>
    rw [hi] at hz
    simp only [Option.map_some, Option.some.injEq] at hz
    cases hu : Try.prog.underlying 49 with
    | none => rw [hu] at hp; cases hp
    | some dd =>
      rw [hu] at hp
      cases dd with
      | struct fields =>
        dsimp only at hp ⊢
        rw [hz, hp]
        have h65 := rowC_len (x := (0, zeros 64)) (zeros_length 64)
        dsimp only [Value.cells]
        rw [fill_step (off := 0) (size := 1) (vs := [.int .i64 k]) (by rfl) rfl rfl (by simp [h65]), fill_step (off := 1) (size := 64) (vs := Lib.byteCells b) (by rfl) rfl (by omega) (by rw [setRun_size]; simp [h65]), Instr.fill]
        congr 1
        apply ext_run
        intro i
        by_cases h0 : i = 0
        · subst h0
          rw [setRun_out _ _ _ _ (.inl (by omega))]
          unfold setRun setRun rowC
          simp
        · obtain ⟨j, rfl⟩ : ∃ j, i = j + 1 := ⟨i - 1, by omega⟩
          by_cases hj : j < (Lib.byteCells b).length
          · have := setRun_in (Lib.byteCells b) (setRun (rowC (0, zeros 64)).toArray 0 [.int .i64 k]) 1 j _ (List.getElem?_eq_getElem hj) (by rw [setRun_size]; simp [h65]; omega)
            rw [Nat.add_comm j 1, this]
            unfold rowC
            rw [Nat.add_comm 1 j, List.getElem?_cons_succ, List.getElem?_eq_getElem hj]
          · rw [Array.getElem?_eq_none (by rw [setRun_size, setRun_size]; simp [h65]; omega), List.getElem?_eq_none (by rw [rowC_len hb]; omega)]
      | _ => cases hp
section
variable {ops : Array Oper} {Q : Exit → Act → World → Prop} {K : Act → World → Prop} {i : Nat} {dst : Option Tmp} {js : List Nat} {a : Act} {w w0 : World}
theorem OpIs.fieldOp10 {k : Tmp} {f g o : Nat} (h : OpIs ops i (.fieldAddr 36 (.tmp k) f) dst js) (hf : f < 4) (he : a.eval (.tmp k) = .pointer (some ⟨g, o, none⟩)) (hk : K (a.put dst (.pointer (some ⟨g, o + f, none⟩))) w) : wpOp Try.prog ops Q i K a w :=
  h.go fun op h1 h2 => by
    have hr : (execOp a.eval op).run Try.prog w = .ok (.value (.pointer (some ⟨g, o + f, none⟩))) w := by
      clear hk
      unfold execOp
      rw [h1]
      dsimp only
      rw [he]
      have h4 : f = 0 ∨ f = 1 ∨ f = 2 ∨ f = 3 := by omega
      rcases h4 with rfl | rfl | rfl | rfl <;> go_simp
    unfold Oper.wp
    rw [hr]
    show K _ _
    rw [h2]
    exact hk
theorem OpIs.loadBs10 {k : Tmp} {g o : Nat} {u : Value} (h : OpIs ops i (.load 33 (.tmp k)) dst js) (he : a.eval (.tmp k) = .pointer (some ⟨g, o, none⟩)) (hc : w.cell? ⟨g, o, none⟩ = some u) (hk : K (a.put dst (u)) w) : wpOp Try.prog ops Q i K a w :=
  h.go fun op h1 h2 => by
    have hr : (execOp a.eval op).run Try.prog w = .ok (.value (u)) w := by
      clear hk
      unfold execOp
      rw [h1]
      dsimp only
      rw [he]
      go_simp
    unfold Oper.wp
    rw [hr]
    show K _ _
    rw [h2]
    exact hk
theorem OpIs.build0W (h : OpIs ops i (.buildSlice 28 0 #[]) dst js) (hk : K (a.put dst (.slice (some ⟨w.heap.size, 0, none⟩) 0 0)) (w.alloc (.cells #[] 49))) : wpOp Try.prog ops Q i K a w :=
  h.go fun o h1 h2 => by
    have hr : (execOp a.eval o).run Try.prog w = .ok (.value (.slice (some ⟨w.heap.size, 0, none⟩) 0 0)) (w.alloc (.cells #[] 49)) := by
      clear hk
      unfold execOp
      rw [h1]
      simp only [List.map_toArray, List.map_nil]
      go_simp
    unfold Oper.wp
    rw [hr]
    show K _ _
    rw [h2]
    exact hk
theorem OpIs.call2C {f : FuncId} {k : Tmp} {t s : TypeId} {v u : Value} {Post : Ending → World → Prop} (h : OpIs ops i (.call { callee := .value (.func f), args := #[.tmp k, .const u], argTypes := #[t, s] }) dst js) (hf : ∀ args w, (callFunc f args).run Try.prog w = .ok (.enter f args) w)
    (he : a.eval (.tmp k) = v) (hc : Calls Try.prog f #[v, u] w Post) (hk : ∀ e w', Post e w' → ∃ r, e = .returned r ∧ K (a.put dst r) w') : wpOp Try.prog ops Q i K a w :=
  h.go fun o h1 h2 => by
    have hr : (execOp a.eval o).run Try.prog w = .ok (.enter f #[v, u]) w := by
      unfold execOp
      rw [h1]
      simp only [resolve, invoke, Sem.run_bind, List.map_toArray, List.map_cons, List.map_nil, he, show a.eval (.const u) = u from rfl]
      go_simp
    unfold Oper.wp
    rw [hr]
    show Calls _ _ _ _ _
    refine hc.mono ?_
    intro e w' hp
    obtain ⟨r, rfl, hku⟩ := hk e w' hp
    dsimp only
    rw [h2]
    exact hku
theorem OpIs.buildRow {j k : Tmp} {z : Int} {b : Bs} (h : OpIs ops i (.build 49 #[(0, .tmp j), (1, .tmp k)]) dst js) (hb : b.length = 64) (hj : a.eval (.tmp j) = .int .i64 z) (hv : a.eval (.tmp k) = .agg (Lib.byteCells b).toArray) (hk : K (a.put dst (.agg (rowC (z, b)).toArray)) w) : wpOp Try.prog ops Q i K a w :=
  h.go fun op h1 h2 => wp_build 49 #[(0, .tmp j), (1, .tmp k)] h1 (by simp only [List.map_toArray, List.map_cons, List.map_nil, hj, hv]; rw [built_row z b hb]; rfl) (by simp only [List.map_toArray, List.map_cons, List.map_nil, hj, hv]; rw [built_row z b hb, h2]; exact hk)
end
/-- append onto an empty row that stands in a block: a row of its own, behind all that was there. -/
theorem append_fresh {P : Program} {w0 w : World} {e : TypeId} {k : Nat} (t ty : TypeId) (i : TypeInfo) (z : Value) (bytes : Nat) (ht : P.underlying t = some (.slice e)) (hi : P.info? e = some i) (hz : i.zero = some z) (hsize : i.size = k) (hby : i.bytes = bytes) (hzs : z.cells.size = k) (hk : 0 < k) {b : Nat}
    (hown : OwnK e k w0 w (.slice (some ⟨b, 0, none⟩) 0 0) []) (B : Option Addr) (m c : Nat) (news : List (List Value)) (hr : RowK k w B m news) (hone : ∀ cs ∈ news, ∀ u ∈ cs, u.oneCell' = true) (hb : m ≤ 900000) (hbb : bytes ≤ 1000) (h0 : m = 0 → B = none) :
    ∃ v' w', (Builtin.append_ #[t, t] ty #[.slice (some ⟨b, 0, none⟩) 0 0, .slice B m c]).run P w = .ok v' w' ∧ OwnK e k w0 w' v' news ∧ Later w w' := by
  obtain ⟨v', w', hrun, h1, _⟩ := run_append_rowK (P := P) t ty i z bytes ht hi hz hsize hby hzs hk hown B m c news hr hone (by simp; omega) hbb
  refine ⟨v', w', hrun, by simpa using h1, ?_⟩
  rcases Nat.eq_zero_or_pos m with hm | hm
  · subst hm
    obtain rfl := h0 rfl
    have hr2 : (Builtin.append_ #[t, t] ty #[.slice (some ⟨b, 0, none⟩) 0 0, .slice none 0 c]).run P w = .ok (.slice (some ⟨b, 0, none⟩) 0 0) w := by
      simp [Builtin.append_, run_underlying ht, sizeOf, typeInfo, hi, Builtin.lenOf, Builtin.firstCells, storeCells]
    rw [hr2] at hrun
    injection hrun with _ e2
    rw [← e2]
    exact Later.refl w
  · obtain ⟨b1, o1, rfl, hc⟩ := hr.2.2 hm
    have hl := hr.len
    have hfl : news.flatten.length = m * i.size := by rw [flat_length hr.2.1, hl, hsize]
    have hcs : ∀ j u, news.flatten[j]? = some u → w.cell? ((⟨b1, o1, none⟩ : Addr).add j) = some u := fun j u hu => by
      have hj := (List.getElem?_eq_some_iff.1 hu).1
      rw [hfl, hsize] at hj
      have h1 : j / k < m := Nat.div_lt_of_lt_mul (by rw [Nat.mul_comm]; exact hj)
      have h2 : j % k < k := Nat.mod_lt _ hk
      have hz : news[j / k]? = some (news[j / k]'(by omega)) := List.getElem?_eq_getElem _
      have hat := flat_at (i := j % k) hr.2.1 hz h2
      rw [Nat.div_add_mod' j k] at hat
      rw [hat] at hu
      have := hc _ _ _ u hz hu
      rw [plain_add, Nat.add_assoc, Nat.div_add_mod' j k] at *
      exact this
    have hr2 := run_append_grow (P := P) w t ty e i z ht hi hz ⟨b, 0, none⟩ 0 0 [] (by simp) (fun j v hv => by simp at hv) ⟨b1, o1, none⟩ m c news.flatten hfl hcs (by omega) (by omega) (growslice_fits (by omega) (by rw [hby]; exact Nat.le_trans (Nat.mul_le_mul (show 0 + m ≤ 900000 by omega) hbb) (by omega)))
    rw [hr2] at hrun
    injection hrun with _ e2
    rw [← e2]
    exact (Later.refl w).drew.alloc _
def bkDo7_p0 (wx : World) (v : Value) (w : World) : Prop := ∃ b : Nat, v = .slice (some ⟨b, 0, none⟩) 0 0 ∧ OwnK 49 65 wx w (.slice (some ⟨b, 0, none⟩) 0 0) []
def bkDo7_p3 (wx : World) (rows : List (List Value)) (v : Value) (w : World) : Prop := ∃ q : Value, v = q ∧ OwnK 49 65 wx w q rows
def bkDo7_p10 (k : Int) (bs : Bs) (v : Value) (w : World) : Prop := ∃ b : Nat, v = .slice (some ⟨b, 0, none⟩) 1 1 ∧ CellsAt w b (rowC (k, fromB bs 0)).toArray 49
def bkDo7_R (wx : World) (g2 : Nat) (g3 : Nat) (B : Option Addr) (m : Nat) (e : Nat) (k : Int) (A1 : Option Addr) (n1 : Nat) (c1 : Nat) (bs : Bs) (rows : List (List Value)) : Nat → Value → World → Prop
  | 0, v, w => bkDo7_p0 wx v w
  | 1, v, _ => v = .pointer (some ⟨g2, 0 + 1, none⟩)
  | 2, v, _ => v = .slice B m e
  | 3, v, w => bkDo7_p3 wx rows v w
  | 4, v, _ => v = .pointer (some ⟨g3, 0 + 1, none⟩)
  | 5, v, _ => v = .int .i64 k
  | 6, v, _ => v = .pointer (some ⟨g3, 0 + 2, none⟩)
  | 7, v, _ => v = .slice A1 n1 c1
  | 8, v, _ => v = .agg (Lib.byteCells (fromB bs 0)).toArray
  | 9, v, _ => v = .agg (rowC (k, fromB bs 0)).toArray
  | 10, v, w => bkDo7_p10 k bs v w
  | 11, _, _ => True
  | 12, v, _ => v = .pointer (some ⟨g2, 0 + 1, none⟩)
  | 13, _, _ => True
  | _, _, _ => True
def bkDo7_X (wx : World) (g2 : Nat) (vL : Value) (vo : Value) (vf : Value) (vd : Value) (k : Int) (bs : Bs) (rows : List (List Value)) : Nat → List Value → World → World → Prop
  | 0, _, w1, w => w = w1
  | 1, [v0], _, w => OwnK 49 65 wx w v0 (rows ++ [rowC (k, fromB bs 0)]) ∧ Later wx w
  | 2, [v0, _], _, w => ∃ wm : World, OwnK 49 65 wx wm v0 (rows ++ [rowC (k, fromB bs 0)]) ∧ Later wx wm ∧ CellsAt w g2 #[vL, v0, vo, vf, vd] 30 ∧ Chg (fun q => q = g2) wm w
  | _, _, _, _ => False
set_option maxRecDepth 100000 in
set_option maxHeartbeats 1600000 in
theorem bkDo7 {ops : Array Oper} (hn : ops.size = 14) (hg : goesBack ops = true)
    (o0 : OpIs ops 0 (.buildSlice 28 0 #[]) (some 33) [])
    (o1 : OpIs ops 1 (.fieldAddr 30 (.tmp 2) 1) (some 34) [])
    (o2 : OpIs ops 2 (.load 28 (.tmp 34)) (some 35) [1])
    (o3 : OpIs ops 3 (.call { callee := .builtin .append, args := #[.tmp 33, .tmp 35], argTypes := #[28, 28] }) (some 36) [0, 2])
    (o4 : OpIs ops 4 (.fieldAddr 36 (.tmp 3) 1) (some 37) [])
    (o5 : OpIs ops 5 (.load 3 (.tmp 37)) (some 38) [4])
    (o6 : OpIs ops 6 (.fieldAddr 36 (.tmp 3) 2) (some 39) [])
    (o7 : OpIs ops 7 (.load 33 (.tmp 39)) (some 40) [6])
    (o8 : OpIs ops 8 (.call { callee := .value (.func 52), args := #[.tmp 40, .const (.int .i64 0)], argTypes := #[33, 3] }) (some 41) [3, 7])
    (o9 : OpIs ops 9 (.build 49 #[(0, .tmp 38), (1, .tmp 41)]) (some 42) [5, 8])
    (o10 : OpIs ops 10 (.buildSlice 28 1 #[(0, .tmp 42)]) (some 43) [9])
    (o11 : OpIs ops 11 (.call { callee := .builtin .append, args := #[.tmp 36, .tmp 43], argTypes := #[28, 28] }) (some 44) [3, 8, 10])
    (o12 : OpIs ops 12 (.fieldAddr 30 (.tmp 2) 1) (some 45) [0, 1, 2, 3, 4, 5, 6, 7, 8, 9, 10, 11])
    (o13 : OpIs ops 13 (.store 28 (.tmp 45) (.tmp 44)) none [0, 1, 2, 3, 4, 5, 6, 7, 8, 9, 10, 11, 12])
    {a1 : Act} (hs : 90 ≤ a1.tmps.size) {wx : World} {g2 g3 : Nat} {vL vo vf vd : Value} {B : Option Addr} {m e : Nat} {k : Int} {A1 : Option Addr} {n1 c1 : Nat} {bs : Bs} {rows : List (List Value)} (e2 : a1.eval (.tmp 2) = .pointer (some ⟨g2, 0, none⟩)) (e3 : a1.eval (.tmp 3) = .pointer (some ⟨g3, 0, none⟩)) (hc2 : wx.cell? ⟨g2, 0 + 1, none⟩ = some (.slice B m e)) (hc3 : wx.cell? ⟨g3, 0 + 1, none⟩ = some (.int .i64 k)) (hc4 : wx.cell? ⟨g3, 0 + 2, none⟩ = some (.slice A1 n1 c1)) (hbs : BsAt wx A1 n1 bs) (hnn : n1 ≤ 1000000) (hrow : RowK 65 wx B m rows) (hone : ∀ cs ∈ rows, ∀ u ∈ cs, u.oneCell' = true) (hmm : m ≤ 900000) (hB0 : m = 0 → B = none) (hbg : CellsAt wx g2 #[vL, .slice B m e, vo, vf, vd] 30)
    {Q : Exit → Act → World → Prop} {id : Nat} (hend : ∀ (a : Act) (w1 w : World) (v0 v1 : Value), SameOut a1 a [33, 34, 35, 36, 37, 38, 39, 40, 41, 42, 43, 44, 45] → Later wx w1 → a.eval (.tmp 44) = v0 → bkDo7_X wx g2 vL vo vf vd k bs rows 2 [v0, v1] w1 w → Q .normal a w) :
    (Code.region id ops true).wp Try.prog Q a1 wx := by
  refine region_turns (n := 14) (by kernel_rfl) hg hn [33, 34, 35, 36, 37, 38, 39, 40, 41, 42, 43, 44, 45, 1013] (by decide +kernel) rfl [33, 34, 35, 36, 37, 38, 39, 40, 41, 42, 43, 44, 45] (fun i => decide (i = 11) || decide (i = 13)) (fun i => decide (i = 1) || decide (i = 4) || decide (i = 6) || decide (i = 12)) (fun i => !decide (i = 13)) [11, 13] ?_ ?_ (bkDo7_R wx g2 g3 B m e k A1 n1 c1 bs rows) (bkDo7_X wx g2 vL vo vf vd k bs rows) ?_ ?_ (by decide) ?_ ?_ ?_ ?_ (fun _ _ _ => Iff.rfl) ?_ ?_ ?_ ?_
  · intro i hi hs'
    have hc : i = 0 ∨ i = 1 ∨ i = 2 ∨ i = 3 ∨ i = 4 ∨ i = 5 ∨ i = 6 ∨ i = 7 ∨ i = 8 ∨ i = 9 ∨ i = 10 ∨ i = 11 ∨ i = 12 ∨ i = 13 := by omega
    rcases hc with rfl | rfl | rfl | rfl | rfl | rfl | rfl | rfl | rfl | rfl | rfl | rfl | rfl | rfl
    · decide
    · decide
    · decide
    · decide
    · decide
    · decide
    · decide
    · decide
    · decide
    · decide
    · decide
    · decide
    · decide
    · cases hs'
  · intro i hi hs'
    have hc : i = 0 ∨ i = 1 ∨ i = 2 ∨ i = 3 ∨ i = 4 ∨ i = 5 ∨ i = 6 ∨ i = 7 ∨ i = 8 ∨ i = 9 ∨ i = 10 ∨ i = 11 ∨ i = 12 ∨ i = 13 := by omega
    rcases hc with rfl | rfl | rfl | rfl | rfl | rfl | rfl | rfl | rfl | rfl | rfl | rfl | rfl | rfl
    · show (33 : Nat) < _; omega
    · show (34 : Nat) < _; omega
    · show (35 : Nat) < _; omega
    · show (36 : Nat) < _; omega
    · show (37 : Nat) < _; omega
    · show (38 : Nat) < _; omega
    · show (39 : Nat) < _; omega
    · show (40 : Nat) < _; omega
    · show (41 : Nat) < _; omega
    · show (42 : Nat) < _; omega
    · show (43 : Nat) < _; omega
    · show (44 : Nat) < _; omega
    · show (45 : Nat) < _; omega
    · cases hs'
  · intro i hi
    simp only [Bool.or_eq_true, decide_eq_true_eq] at hi
    rcases hi with rfl | rfl
    · decide
    · decide
  · intro i hi
    simp only [List.mem_cons, List.not_mem_nil, or_false] at hi
    rcases hi with rfl | rfl
    · decide
    · decide
  · intro i hi hT
    have hc : i = 0 ∨ i = 1 ∨ i = 2 ∨ i = 3 ∨ i = 4 ∨ i = 5 ∨ i = 6 ∨ i = 7 ∨ i = 8 ∨ i = 9 ∨ i = 10 ∨ i = 11 ∨ i = 12 ∨ i = 13 := by omega
    rcases hc with rfl | rfl | rfl | rfl | rfl | rfl | rfl | rfl | rfl | rfl | rfl | rfl | rfl | rfl
    · rfl
    · rfl
    · rfl
    · rfl
    · rfl
    · rfl
    · rfl
    · rfl
    · rfl
    · rfl
    · rfl
    · rfl
    · rfl
    · cases hT
  · intro l dn i hi h k hk hp hT
    simp only [List.mem_cons, List.not_mem_nil, or_false] at hi
    rcases hi with rfl | rfl
    · have c3 := o11.back dn h 3 (by simp)
      have c8 := o11.back dn h 8 (by simp)
      have c10 := o11.back dn h 10 (by simp)
      have c0 := o3.back dn c3 0 (by simp)
      have c2 := o3.back dn c3 2 (by simp)
      have c7 := o8.back dn c8 7 (by simp)
      have c9 := o10.back dn c10 9 (by simp)
      have c1 := o2.back dn c2 1 (by simp)
      have c6 := o7.back dn c7 6 (by simp)
      have c5 := o9.back dn c9 5 (by simp)
      have c4 := o5.back dn c5 4 (by simp)
      have hc : k = 0 ∨ k = 1 ∨ k = 2 ∨ k = 3 ∨ k = 4 ∨ k = 5 ∨ k = 6 ∨ k = 7 ∨ k = 8 ∨ k = 9 ∨ k = 10 ∨ k = 11 ∨ k = 12 ∨ k = 13 := by omega
      rcases hc with rfl | rfl | rfl | rfl | rfl | rfl | rfl | rfl | rfl | rfl | rfl | rfl | rfl | rfl
      · exact c0
      · cases hp
      · exact c2
      · exact c3
      · cases hp
      · exact c5
      · cases hp
      · exact c7
      · exact c8
      · exact c9
      · exact c10
      · cases hT
      · cases hp
      · cases hT
    · have c0 := o13.back dn h 0 (by simp)
      have c1 := o13.back dn h 1 (by simp)
      have c2 := o13.back dn h 2 (by simp)
      have c3 := o13.back dn h 3 (by simp)
      have c4 := o13.back dn h 4 (by simp)
      have c5 := o13.back dn h 5 (by simp)
      have c6 := o13.back dn h 6 (by simp)
      have c7 := o13.back dn h 7 (by simp)
      have c8 := o13.back dn h 8 (by simp)
      have c9 := o13.back dn h 9 (by simp)
      have c10 := o13.back dn h 10 (by simp)
      have c11 := o13.back dn h 11 (by simp)
      have c12 := o13.back dn h 12 (by simp)
      have hc : k = 0 ∨ k = 1 ∨ k = 2 ∨ k = 3 ∨ k = 4 ∨ k = 5 ∨ k = 6 ∨ k = 7 ∨ k = 8 ∨ k = 9 ∨ k = 10 ∨ k = 11 ∨ k = 12 ∨ k = 13 := by omega
      rcases hc with rfl | rfl | rfl | rfl | rfl | rfl | rfl | rfl | rfl | rfl | rfl | rfl | rfl | rfl
      · exact c0
      · cases hp
      · exact c2
      · exact c3
      · cases hp
      · exact c5
      · cases hp
      · exact c7
      · exact c8
      · exact c9
      · exact c10
      · cases hT
      · cases hp
      · cases hT
  · intro l dn t i i' h1 h2 h
    match t, h1, h2 with
    | 0, h1, h2 => cases h1; cases h2; have c0 := o13.back dn h 0 (by simp); have c1 := o13.back dn h 1 (by simp); have c2 := o13.back dn h 2 (by simp); have c3 := o13.back dn h 3 (by simp); have c4 := o13.back dn h 4 (by simp); have c5 := o13.back dn h 5 (by simp); have c6 := o13.back dn h 6 (by simp); have c7 := o13.back dn h 7 (by simp); have c8 := o13.back dn h 8 (by simp); have c9 := o13.back dn h 9 (by simp); have c10 := o13.back dn h 10 (by simp); have c11 := o13.back dn h 11 (by simp); have c12 := o13.back dn h 12 (by simp); exact c11
    | t + 1, h1, h2 => simp at h2
  · intro i hi v w
    simp only [Bool.or_eq_true, decide_eq_true_eq] at hi
    rcases hi with rfl | rfl
    · trivial
    · trivial
  · intro l a w i o K ho hi hp hT hwait so hl0 F hK
    have hc : i = 0 ∨ i = 1 ∨ i = 2 ∨ i = 3 ∨ i = 4 ∨ i = 5 ∨ i = 6 ∨ i = 7 ∨ i = 8 ∨ i = 9 ∨ i = 10 ∨ i = 11 ∨ i = 12 ∨ i = 13 := by omega
    rcases hc with rfl | rfl | rfl | rfl | rfl | rfl | rfl | rfl | rfl | rfl | rfl | rfl | rfl | rfl
    · refine o0.build0W ?_
      exact hK _ _ ((Later.refl w).alloc _) ⟨_, rfl, ⟨World.ownsRow_made w #[] 0 hl0.size (Nat.zero_le _) rfl, (fun _ h => by cases h), hl0.alloc _⟩⟩
    · cases hp
    · have ws := o2.waits ho hwait
      have f1 : a.eval (.tmp 34) = .pointer (some ⟨g2, 0 + 1, none⟩) := by obtain ⟨_, _, _, h⟩ := F 1 (ws 1 (by simp)) (by decide); exact h
      refine o2.loadRW f1 (Later.cell hl0 hc2) ?_
      exact hK _ _ (Later.refl w) rfl
    · have ws := o3.waits ho hwait
      obtain ⟨x0, y0, z0, f0⟩ := F 0 (ws 0 (by simp)) (by decide)
      have f2 : a.eval (.tmp 35) = .slice B m e := by obtain ⟨_, _, _, h⟩ := F 2 (ws 2 (by simp)) (by decide); exact h
      obtain ⟨b, fe, hown⟩ := f0
      obtain ⟨i0, hi0, hz0, hz1, hz2⟩ := info_parts Try.rwriteInfo
      refine o3.appendD fe f2 fun ty => ?_
      obtain ⟨v', w', hrun, h1, h2⟩ := append_fresh (P := Try.prog) 28 ty i0 _ 72 Try.underlying28 hi0 hz0 hz1 hz2 (by simp only [Value.cells, List.size_toArray]; exact rowC_len (zeros_length 64)) (by decide) (hown.on z0) B m e rows (hrow.later hl0) hone hmm (by decide) hB0
      exact ⟨v', w', hrun, hK _ _ h2 ⟨_, rfl, h1⟩⟩
    · cases hp
    · have ws := o5.waits ho hwait
      have f4 : a.eval (.tmp 37) = .pointer (some ⟨g3, 0 + 1, none⟩) := by obtain ⟨_, _, _, h⟩ := F 4 (ws 4 (by simp)) (by decide); exact h
      refine o5.loadI10 f4 (Later.cell hl0 hc3) ?_
      exact hK _ _ (Later.refl w) rfl
    · cases hp
    · have ws := o7.waits ho hwait
      have f6 : a.eval (.tmp 39) = .pointer (some ⟨g3, 0 + 2, none⟩) := by obtain ⟨_, _, _, h⟩ := F 6 (ws 6 (by simp)) (by decide); exact h
      refine o7.loadBs10 f6 (Later.cell hl0 hc4) ?_
      exact hK _ _ (Later.refl w) rfl
    · have ws := o8.waits ho hwait
      have f7 : a.eval (.tmp 40) = .slice A1 n1 c1 := by obtain ⟨_, _, _, h⟩ := F 7 (ws 7 (by simp)) (by decide); exact h
      refine o8.call2C (enters_of Try.func52 (by kernel_rfl) rfl) f7 (fill_any A1 n1 c1 bs 0 w (hbs.later hl0) (by omega) (by omega)) ?_
      rintro e w' ⟨rfl, hl'⟩
      exact ⟨_, rfl, hK _ _ hl' rfl⟩
    · have ws := o9.waits ho hwait
      have f5 : a.eval (.tmp 38) = .int .i64 k := by obtain ⟨_, _, _, h⟩ := F 5 (ws 5 (by simp)) (by decide); exact h
      have f8 : a.eval (.tmp 41) = .agg (Lib.byteCells (fromB bs 0)).toArray := by obtain ⟨_, _, _, h⟩ := F 8 (ws 8 (by simp)) (by decide); exact h
      refine o9.buildRow (fromB_length bs 0) f5 f8 ?_
      exact hK _ _ (Later.refl w) rfl
    · have ws := o10.waits ho hwait
      have f9 : a.eval (.tmp 42) = .agg (rowC (k, fromB bs 0)).toArray := by obtain ⟨_, _, _, h⟩ := F 9 (ws 9 (by simp)) (by decide); exact h
      obtain ⟨i0, hi0, hz0, hz1, hz2⟩ := info_parts Try.rwriteInfo
      have hlen := rowC_len (x := (k, fromB bs 0)) (fromB_length bs 0)
      refine o10.buildOne i0 _ f9 Try.underlying28 hi0 hz0 (hz1.trans hlen.symm) ((by simp only [Value.cells, List.size_toArray]; exact (rowC_len (zeros_length 64)).trans hlen.symm)) (by omega) (by omega) ?_
      exact hK _ _ ((Later.refl w).alloc _) ⟨_, rfl, CellsAt.made w _ _⟩
    · cases hT
    · cases hp
    · cases hT
  · intro l a w w1 i o K ho hi hp hwait so hl0 F hK
    have hc : i = 0 ∨ i = 1 ∨ i = 2 ∨ i = 3 ∨ i = 4 ∨ i = 5 ∨ i = 6 ∨ i = 7 ∨ i = 8 ∨ i = 9 ∨ i = 10 ∨ i = 11 ∨ i = 12 ∨ i = 13 := by omega
    rcases hc with rfl | rfl | rfl | rfl | rfl | rfl | rfl | rfl | rfl | rfl | rfl | rfl | rfl | rfl
    · cases hp
    · refine o1.fieldSt (by omega) ((show _ = a1.eval _ from by simp only [Act.eval, Array.getD_eq_getD_getElem?, so.out 2 (by decide)]).trans e2) ?_
      exact hK _ rfl
    · cases hp
    · cases hp
    · refine o4.fieldOp10 (by omega) ((show _ = a1.eval _ from by simp only [Act.eval, Array.getD_eq_getD_getElem?, so.out 3 (by decide)]).trans e3) ?_
      exact hK _ rfl
    · cases hp
    · refine o6.fieldOp10 (by omega) ((show _ = a1.eval _ from by simp only [Act.eval, Array.getD_eq_getD_getElem?, so.out 3 (by decide)]).trans e3) ?_
      exact hK _ rfl
    · cases hp
    · cases hp
    · cases hp
    · cases hp
    · cases hp
    · refine o12.fieldSt (by omega) ((show _ = a1.eval _ from by simp only [Act.eval, Array.getD_eq_getD_getElem?, so.out 2 (by decide)]).trans e2) ?_
      exact hK _ rfl
    · cases hp
  · intro l a w1 w tq iq o vals K htq ho hwait so hl0 F hvl hvs hx hK
    match tq, htq with
    | 0, htq =>
      cases htq
      have hv0 := List.eq_nil_of_length_eq_zero hvl
      subst hv0
      have hw : w = w1 := hx
      subst hw
      have ws := o11.waits ho hwait
      obtain ⟨x3, y3, z3, f3⟩ := F 3 (ws 3 (by simp)) (by decide)
      obtain ⟨x10, y10, z10, f10⟩ := F 10 (ws 10 (by simp)) (by decide)
      replace hK : ∀ vv ww, bkDo7_X wx g2 vL vo vf vd k bs rows 1 ([] ++ [vv]) w ww → K (a.put (some 44) vv) ww := hK
      obtain ⟨q, fe, how⟩ := f3
      obtain ⟨b, fb, hr⟩ := f10
      obtain ⟨i0, hi0, hz0, hz1, hz2⟩ := info_parts Try.rwriteInfo
      refine o11.appendD fe fb fun ty => ?_
      obtain ⟨v', w', hrun, h1, h2, _⟩ := run_append_one (P := Try.prog) (c := 1) 28 ty i0 _ 72 Try.underlying28 hi0 hz0 hz1 hz2 (by simp only [Value.cells, List.size_toArray]; exact rowC_len (zeros_length 64)) (by decide) (how.on z3) ((hr.later z10).range (o := 0) (fun j u hj => by rw [Nat.zero_add, List.getElem?_toArray]; exact hj)) (rowC_len (fromB_length bs 0)) (rowC_one _) (by have := hrow.len; omega) (by decide)
      exact ⟨v', w', hrun, hK _ _ ⟨h1, h1.later⟩⟩
    | 1, htq =>
      cases htq
      obtain ⟨v0, rfl⟩ := List.length_eq_one_iff.1 hvl
      have g11 : a.eval (.tmp 44) = v0 := hvs 0 11 v0 rfl rfl rfl
      have ws := o13.waits ho hwait
      have f12 : a.eval (.tmp 45) = .pointer (some ⟨g2, 0 + 1, none⟩) := by obtain ⟨_, _, _, h⟩ := F 12 (ws 12 (by simp)) (by decide); exact h
      replace hK : ∀ vv ww, bkDo7_X wx g2 vL vo vf vd k bs rows 2 ([v0] ++ [vv]) w1 ww → K a ww := hK
      obtain ⟨h1, h2⟩ := hx
      obtain ⟨A', c', e', -, -⟩ := h1.row
      have hbw : CellsAt w g2 #[vL, .slice B m e, vo, vf, vd] 30 := hbg.later h2
      refine o13.storeRW f12 (g11.trans e') hbw (by show 0 + 1 < 5; omega) (fun w' k1 k2 => hK undef _ ⟨w, h1, h2, ?_, k2⟩)
      rw [e']
      exact k1
    | tq + 2, htq => simp at htq
  · intro a w1 w vals so hl F hvl hvs hx
    obtain ⟨v0, v1, rfl⟩ := len_two hvl
    exact hend a w1 w v0 v1 so hl  (hvs 0 11 v0 rfl rfl rfl) hx

end Go.Proofs.Ytaonfedjilfgjaa

/-
  Few, and a write or a flush of a script, as calls.
-/
namespace Go.Proofs.Ytaonfedjilfgjaa
open Go.RowKit

def fewZ (n t : Nat) : Int := if n ≤ 80 ∧ t ≤ 8000 then 0 else (t : Int) + (n : Int)
set_option maxRecDepth 100000 in
set_option maxHeartbeats 800000 in
theorem few10_any (A : Option Addr) (n c : Nat) (xs : List OpC) (w : World) (hx : Script w A n xs) :
    Calls Try.prog 11 #[.slice A n c] w fun e w' => e = .returned (.int .i64 (fewZ n (weighO xs))) ∧ Later w w' := by
  have HX := Lib.hid hx
  have hwt := hx.weigh
  have hl := hx.len
  have HL := Lib.hid hl
  clear hx hl
  go_enter Try.func11, Try.ntmps11
  go_wp2
  go_loopg [3, 8] (n + 1) (fun g0 s3 s8 wr => ∃ (k t : Nat), k ≤ n ∧ n - k ≤ g0 ∧ s8 = .int .i64 (k : Nat) ∧ s3 = .int .i64 (t : Nat) ∧ Hid (t = weighO (xs.take k)) ∧ Hid (Later w wr))
  case atStart => exact ⟨0, 0, Nat.zero_le _, by omega, rfl, rfl, rfl, Later.refl w⟩
  case round =>
    obtain ⟨k, t, hk, hg, rfl, rfl, ht, hlw⟩ := hrel
    by_cases hlt : k < n
    · obtain ⟨b, o, x, rfl, hz, hok, g0, g1, g2, g3⟩ := (HX.out.later hlw.out).get hlt
      have hw1 := weighO_take hz
      have hw2 := weighO_le (xs := xs) (k + 1)
      have htt := ht.out
      have HT : Hid (t + (x.n + x.m) = weighO (xs.take (k + 1))) := by show _ = _; omega
      have hs1 : t + (x.n + x.m) ≤ 1048576 := by omega
      clear hw1 hw2 htt hz hok
      go_wp2
      go_roundg (n - (k + 1))
      case measure => omega
      case rel => exact ⟨k + 1, t + (x.n + x.m), by omega, by omega, by go_num, by go_num, HT, (hlw.out.alloc _)⟩
    · obtain rfl : k = n := by omega
      have htt := ht.out
      rw [List.take_of_length_le (by rw [HL.out]; exact Nat.le_refl _)] at htt
      rw [← htt] at hwt
      by_cases h1 : k ≤ 80
      · have h1' : ((k : Nat) : Int) ≤ 80 := by omega
        by_cases h2 : t ≤ 8000
        · have h2' : ((t : Nat) : Int) ≤ 8000 := by omega
          have e : Hid (fewZ k (weighO xs) = 0) := by show _ = _; rw [← htt]; unfold fewZ; rw [if_pos ⟨h1, h2⟩]
          clear htt ht
          go_wp2
          go_ret
          exact ⟨by rw [e.out]; rfl, hlw.out⟩
        · have h2' : ¬ ((t : Nat) : Int) ≤ 8000 := by omega
          have e : Hid (fewZ k (weighO xs) = (t : Int) + (k : Int)) := by show _ = _; rw [← htt]; unfold fewZ; rw [if_neg (fun h => h2 h.2)]
          clear htt ht
          go_wp2
          go_ret
          exact ⟨by rw [e.out]; rfl, hlw.out⟩
      · have h1' : ¬ ((k : Nat) : Int) ≤ 80 := by omega
        have e : Hid (fewZ k (weighO xs) = (t : Int) + (k : Int)) := by show _ = _; rw [← htt]; unfold fewZ; rw [if_neg (fun h => h1 h.1)]
        clear htt ht
        go_wp2
        go_ret
        exact ⟨by rw [e.out]; rfl, hlw.out⟩

def opV (x : OpC) : Value := .agg (opL x).toArray
/-- What a write or a flush makes of a device. -/
def doP (d : DvP) (x : OpC) : DvP × Int := if x.kind = 0 then writeP d x.k x.bs else flushP d
section
variable {W w : World} {S : Nat → Prop} {g : Nat} {d : DvP}
set_option maxRecDepth 100000 in
set_option maxHeartbeats 800000 in
theorem does10_any (h : DevAt W w S g d) (ho : d.ops ≤ 1000000000) (hro : d.row.length ≤ 900000) (x : OpC) (hx : OpOk w x) (hk : x.kind = 0 ∨ x.kind = 1) :
    Calls Try.prog 17 #[.pointer (some ⟨g, 0, none⟩), opV x] w fun e w' => ∃ S', e = .returned (.tuple #[.pointer (some ⟨g, 0, none⟩), .int .i64 (doP d x).2]) ∧ DevAt W w' S' g (doP d x).1 ∧ Up S S' w ∧ Chg S w w' := by
  obtain ⟨kd, k, A, n, c, bs, F, m, e, fs⟩ := x
  dsimp only at hk
  unfold opV opL
  dsimp only
  have hl : Later w (w.alloc (.cells #[.int .i64 kd, .int .i64 k, .slice A n c, .slice F m e] 36)) := (Later.refl w).alloc _
  rcases hk with rfl | rfl
  · have e1 : doP d ⟨0, k, A, n, c, bs, F, m, e, fs⟩ = writeP d k bs := rfl
    rw [e1]
    have HC := Lib.hid (writeDev_any (h.later hl) ho hro k A n c bs (hx.bytes.later hl))
    have HL := Lib.hid hl
    clear h hx hl e1
    go_enter Try.func17, Try.ntmps17
    go_wp2_with fail
    refine HC.out.mono ?_
    rintro e1 w1 ⟨S1, rfl, hd, hup, hc⟩
    have HD := Lib.hid hd
    clear hd
    go_wp2
    go_ret2
    exact ⟨S1, rfl, HD.out, fun q hq => (hup q hq).imp id fun h => Nat.le_trans HL.out.le h, (Chg.later HL.out).trans hc fun q hq => .inl hq⟩
  · have e1 : doP d ⟨1, k, A, n, c, bs, F, m, e, fs⟩ = flushP d := rfl
    rw [e1]
    have HC := Lib.hid (flushDev_any (h.later hl) ho)
    have HL := Lib.hid hl
    have HM : Hid (S g) := h.mem
    clear h hx hl e1
    go_enter Try.func17, Try.ntmps17
    go_wp2_with fail
    refine HC.out.mono ?_
    rintro e1 w1 ⟨rfl, hd, hc⟩
    have HD := Lib.hid hd
    clear hd
    go_wp2
    go_ret2
    exact ⟨S, rfl, HD.out, fun q hq => .inl hq, (Chg.later HL.out).trans hc fun q hq => .inl (by rw [hq]; exact HM.out)⟩
end

end Go.Proofs.Ytaonfedjilfgjaa

/-
  What the law BlockOwn comes to, as a call.
-/
namespace Go.Proofs.Ytaonfedjilfgjaa
open Go.RowKit

/-- Bytes of the call's own, as a slice: where they lie, and that they may be written. -/
theorem own_bs_cells {w : World} {B n : Nat} {v : Value} {bs : Bs} (h : w.ownsRow B 5 1 v n (Lib.byteCells bs)) (h0 : 0 < n) : ∃ b c cur, v = .slice (some ⟨b, 0, .none⟩) n c ∧ n ≤ c ∧ B ≤ b ∧ BsAt w (some ⟨b, 0, .none⟩) n bs ∧ CellsAt w b cur 5 := by
  obtain ⟨A, c, rfl, hc, _, hb⟩ := own_bs h
  rcases h.2 with ⟨_, h1⟩ | ⟨g, cap, cur, hv, hg, hh, _⟩
  · omega
  · cases hv
    exact ⟨g, c, cur, rfl, hc, hg, hb, hh⟩
def oD (bs : Bs) : DvP := ⟨[fillB bs], [⟨0, zeros 64, fillB bs⟩], 1, false, 0, false⟩
def oE (bs : Bs) : DvP := ⟨[fillB bs], [], 2, false, 0, false⟩
theorem o_write {bs : Bs} (h : bs.length ≤ 64) : writeP (newP 1) 0 bs = (oD bs, 0) := by
  unfold writeP
  rw [if_neg (by decide), if_neg (by have : (newP 1).bl.length = 1 := rfl; omega)]
  rfl
theorem o_flush (bs : Bs) : flushP (oD bs) = (oE bs, 0) := by
  unfold flushP
  rw [if_neg (by show ¬ (false = true); decide), if_neg (by show ¬ (false = true ∧ _); simp)]
  rfl
theorem o_readE (bs : Bs) : readE (oD bs) 0 = 0 := rfl
theorem o_readB (bs : Bs) : readB (oD bs) 0 = fillB bs := rfl
theorem o_readE2 (bs : Bs) : readE (oE bs) 0 = 0 := rfl
theorem o_readB2 (bs : Bs) : readB (oE bs) 0 = fillB bs := rfl
theorem o_pre {bs : Bs} (h : bs.length ≤ 64) : hasP (fillB bs) bs = true := by
  unfold hasP
  rw [fillB_length h, decide_eq_true h, Bool.true_and, decide_eq_true_eq]
  unfold fillB
  rw [List.take_left]
theorem o_image (bs : Bs) : imageP (oD bs) = fillB bs := by
  show [fillB bs].flatten = _
  simp

end Go.Proofs.Ytaonfedjilfgjaa

/-
  What the law BlockDown comes to, as a call.
-/
namespace Go.Proofs.Ytaonfedjilfgjaa
open Go.RowKit

theorem image_pos {W w : World} {S : Nat → Prop} {g : Nat} {d : DvP} (h : DevAt W w S g d) : 0 < (imageP d).length := by
  unfold imageP
  rw [flat64 h.ok.size]
  have := h.ok.one
  omega
theorem crash_flush (d : DvP) (fs : List Int) : (flushP (crashP d fs)).2 = 0 := by
  unfold flushP
  rw [if_neg (by show ¬ (false = true); decide), if_neg (by show ¬ (false = true ∧ _); simp)]
/-- What the law's loop keeps. -/
structure DownLp (W w : World) (S : Nat → Prop) (g : Nat) (n : Int) (k : Nat) (d : DvP) : Prop where
  dev : DevAt W w S g d
  inv : DownI n d
  ops : d.ops ≤ k
  row : d.row.length ≤ k

end Go.Proofs.Ytaonfedjilfgjaa
