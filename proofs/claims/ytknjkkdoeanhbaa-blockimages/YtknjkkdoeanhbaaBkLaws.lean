/-
  Steps of a walk: an array out of a row, into a row; bytes copied into a row; a write built.
-/
import Derived.Test.YtknjkkdoeanhbaaBkMem
import Derived.Test.YtknjkkdoeanhbaaBtMem
import Derived.StillTailTactics
namespace Go.Proofs.Ytknjkkdoeanhbaa
open Go.RowKit

section
variable {P : Program} {ops : Array Oper} {rest : List Oper} {o : Oper} {a : Act} {w : World}
/-- copy, wherever it goes. -/
theorem wpList_copy_mid {Q : Exit → Act → World → Prop} (hgd : o.guard = none) (d s : Operand) (dT sT : TypeId)
    (ho : o.op = .call { callee := .builtin .copy, args := #[d, s], argTypes := #[dT, sT] }) (elem : TypeId) (hu : P.underlying dT = some (.slice elem)) (hsz : (P.info? elem).map (·.size) = some 1)
    (dp sp : Option Addr) (dLen dCap sLen sCap : Nat) (hd : a.eval d = .slice dp dLen dCap) (hs : a.eval s = .slice sp sLen sCap)
    (b k : Nat) (cs : List Value) (hn : cs.length = Nat.min sLen dLen) (hpos : 0 < cs.length → dp = some ⟨b, k, none⟩ ∧ ∃ ad, sp = some ad ∧ ∀ j v, cs[j]? = some v → w.cell? (ad.add j) = some v)
    (hth : w.there b k cs.length) (h1 : ∀ v ∈ cs, v.oneCell' = true)
    (h : ∀ w', w' = w.setCells b k cs → wpList P ops Q rest (a.put o.dst (goInt cs.length)) w') : wpList P ops Q (o :: rest) a w := by
  refine wpList_plain hgd fun K hK => ?_
  have hrun : (Builtin.copy_ #[dT, sT] o.type #[.slice dp dLen dCap, .slice sp sLen sCap]).run P w = .ok (goInt cs.length) (w.setCells b k cs) := by
    by_cases h0 : cs.length = 0
    · obtain rfl : cs = [] := List.eq_nil_of_length_eq_zero h0
      have := run_copy_none (P := P) w dT sT o.type elem dp sp dLen dCap sLen sCap hu hsz (by simpa using hn.symm)
      exact this
    · obtain ⟨rfl, ad, rfl, hsrc⟩ := hpos (by omega)
      exact run_copy_cells (P := P) w dT sT o.type elem b k dLen dCap ad sLen sCap cs hu hsz hn hsrc (fun j hj => (hth j hj).1) (fun j hj => (hth j hj).2) h1
  unfold Oper.wp
  simp [execOp, ho, resolve, invoke, builtin, hd, hs, hrun, Result.andThen]
  exact hK _ _ (h _ rfl)
/-- An array out of a row, where nothing is written ahead of it. -/
theorem wpStill_load_mid {Q : Act → Prop} (hgd : o.guard = none) (ty : TypeId) (x : Operand) (ho : o.op = .load ty x)
    (b k : Nat) (hx : a.eval x = .pointer (some ⟨b, k, none⟩)) (cs : List Value) (d : TypeDesc) (hc : w.rangeAt b k cs)
    (hu : P.underlying ty = some d) (hd : d.isRow = true) (hi : (P.info? ty).map (·.size) = some cs.length)
    (h : wpStill P ops w Q rest (a.put o.dst (.agg cs.toArray))) : wpStill P ops w Q (o :: rest) a := by
  refine wpStill_step fun K hK => ?_
  have hw : Region.wanted o (yielded ops a.tmps) = true := by simp [Region.wanted, hgd]
  rw [if_pos hw]
  unfold Oper.still execOp
  simp only [ho, hx, Instr.loadAt, Instr.sureAddr, Sem.run_bind, Sem.run_pure, Result.andThen_ok, run_loadVar_mid w b k ty cs d hc hu hd hi]
  exact ⟨rfl, hK _ h⟩
theorem wpList_build_of {Q : Exit → Act → World → Prop} (hgd : o.guard = none) (t : TypeId) (parts : Array (Nat × Operand)) (ho : o.op = .build t parts) (vs : List (Nat × Value)) (cells : Array Value) (he : (parts.map fun (i, x) => (i, a.eval x)).toList = vs) (hb : P.built t vs = some cells)
    (h : wpList P ops Q rest (a.put o.dst (.agg cells)) w) : wpList P ops Q (o :: rest) a w :=
  wpList_plain hgd fun K hK => wp_build t parts ho (by rw [he, hb]; rfl) (by rw [he, hb]; exact hK _ _ h)
/-- An array into a row. -/
theorem wpList_store_mids {Q : Exit → Act → World → Prop} (hgd : o.guard = none) (hds : o.dst = none) (ty : TypeId) (x y : Operand) (ho : o.op = .store ty x y)
    (b k : Nat) (cs : List Value) (hx : a.eval x = .pointer (some ⟨b, k, none⟩)) (hy : a.eval y = .agg cs.toArray)
    (ht : w.there b k cs.length) (hi : (P.info? ty).map (·.size) = some cs.length) (h1 : ∀ v ∈ cs, v.oneCell' = true)
    (h : ∀ w', w' = w.setCells b k cs → wpList P ops Q rest a w') : wpList P ops Q (o :: rest) a w := by
  refine wpList_store_mid hgd ty x y ho b k cs.toArray hx hy (by simpa using ht) (by simpa using hi) (all_oneCell_toArray h1) ?_
  rw [hds]
  exact h _ rfl
/-- A variable of its own, laid anew. -/
theorem wp_alloc_new {K : Act → World → Prop} {Q : Exit → Act → World → Prop} (T : TypeId) (ho : o.op = .alloc T) (z : Value) (hz : (P.info? T).map (·.zero) = some (some z))
    (h : ∀ w', CellsAt w' w.heap.size z.cells T → Later w w' → w'.heap.size = w.heap.size + 1 → K (a.put o.dst (.pointer (some ⟨w.heap.size, 0, none⟩))) w') : o.wp P a w K Q := by
  have h0 : (zeroValue T).run P w = .ok z w := by
    cases hq : P.info? T with
    | none => simp [hq] at hz
    | some i =>
      simp [hq] at hz
      simp [zeroValue, typeInfo, hq, hz]
  have hrun : (execOp a.eval o).run P w = .ok (.value (.pointer (some ⟨w.heap.size, 0, none⟩))) (w.alloc (.cells z.cells T)) := by
    unfold execOp
    simp only [ho, Instr.alloc, Sem.run_bind, h0, Result.andThen_ok]
    rfl
  unfold Oper.wp
  rw [hrun]
  exact h _ (CellsAt.made w _ _) ((Later.refl w).alloc _) (World.size_alloc _ _)
theorem wpList_alloc_new {Q : Exit → Act → World → Prop} (hgd : o.guard = none) (T : TypeId) (ho : o.op = .alloc T) (z : Value) (hz : (P.info? T).map (·.zero) = some (some z))
    (h : ∀ w', CellsAt w' w.heap.size z.cells T → Later w w' → w'.heap.size = w.heap.size + 1 → wpList P ops Q rest (a.put o.dst (.pointer (some ⟨w.heap.size, 0, none⟩))) w') : wpList P ops Q (o :: rest) a w :=
  wpList_plain hgd fun _ hK => wp_alloc_new T ho z hz fun w' h1 h2 h3 => hK _ _ (h w' h1 h2 h3)
end

/-! ### append, in a region that draws its order -/
theorem run_append_one {P : Program} {w0 w : World} {e : TypeId} {k : Nat} {v : Value} {olds : List (List Value)} {cs : List Value} {gx c : Nat} (t ty : TypeId) (i : TypeInfo) (z : Value) (bytes : Nat) (ht : P.underlying t = some (.slice e)) (hi : P.info? e = some i) (hz : i.zero = some z) (hsize : i.size = k) (hby : i.bytes = bytes) (hzs : z.cells.size = k) (hk : 0 < k)
    (hown : OwnK e k w0 w v olds) (hx : w.rangeAt gx 0 cs) (hcs : cs.length = k) (hone : ∀ u ∈ cs, u.oneCell' = true) (hb : olds.length + 1 ≤ 1000000) (hbb : bytes ≤ 1000) :
    ∃ v' w', (Builtin.append_ #[t, t] ty #[v, .slice (some ⟨gx, 0, none⟩) 1 c]).run P w = .ok v' w' ∧ OwnK e k w0 w' v' (olds ++ [cs]) ∧ w.grownBy w' v.ownBlock ∧ (v'.ownBlock = v.ownBlock ∨ v'.ownBlock = some w.heap.size) := by
  have hbig : (olds.length + 1) * bytes ≤ 140737488355328 := Nat.le_trans (Nat.mul_le_mul hb hbb) (by omega)
  obtain ⟨v', w', hrun, h2, h3, _, h5⟩ := run_append_own_at (P := P) w w0.heap.size t ty e i z k bytes ht hi hz hsize hby hzs hk v olds.length olds.flatten hown.1 ⟨gx, 0, none⟩ 1 c cs
    (by rw [hcs, Nat.one_mul]) (fun j u hu => by rw [plain_add]; exact hx j u hu) hone (by simp only [maxLen]; omega) hbig hown.2.2.size
  refine ⟨v', w', hrun, ⟨?_, fun x hx => ?_, Below.grown hown.2.2 h3 hown.2.2.size hown.block⟩, h3, h5⟩
  · rw [List.length_append, List.flatten_append]
    simpa using h2
  · rcases List.mem_append.1 hx with h | h
    · exact hown.2.1 x h
    · simp only [List.mem_singleton] at h
      subst h
      exact hcs
theorem step_append_one {P : Program} {ops : Array Oper} {o : Oper} {a : Act} {w w0 : World} {K : Act → World → Prop} {Q : Exit → Act → World → Prop} {E : Prop} (hgd : o.guard = none) (s x : Operand) (t : TypeId)
    (ho : o.op = Op.call { callee := Callee.builtin Builtin.append, args := #[s, x], argTypes := #[t, t] }) {e : TypeId} {k : Nat} {v : Value} {olds : List (List Value)} {cs : List Value} {gx c : Nat} (i : TypeInfo) (z : Value) (bytes : Nat) (ht : P.underlying t = some (.slice e)) (hi : P.info? e = some i) (hz : i.zero = some z) (hsize : i.size = k) (hby : i.bytes = bytes) (hzs : z.cells.size = k) (hk : 0 < k)
    (hs : a.eval s = v) (hx : a.eval x = .slice (some ⟨gx, 0, none⟩) 1 c) (hown : OwnK e k w0 w v olds) (hr : w.rangeAt gx 0 cs) (hcs : cs.length = k) (hone : ∀ u ∈ cs, u.oneCell' = true) (hb : olds.length + 1 ≤ 1000000) (hbb : bytes ≤ 1000)
    (hK : ∀ v' w', OwnK e k w0 w' v' (olds ++ [cs]) → w.grownBy w' v.ownBlock → (v'.ownBlock = v.ownBlock ∨ v'.ownBlock = some w.heap.size) → K (a.put o.dst v') w') :
    if Region.wanted o (yielded ops a.tmps) = true then Oper.wp P o a w K Q else E := by
  have hw : Region.wanted o (yielded ops a.tmps) = true := by simp [Region.wanted, hgd]
  rw [if_pos hw]
  obtain ⟨v', w', hrun, h2, h3, h4⟩ := run_append_one (P := P) (c := c) t o.type i z bytes ht hi hz hsize hby hzs hk hown hr hcs hone hb hbb
  unfold Oper.wp
  simp [execOp, ho, resolve, invoke, builtin, hs, hx, hrun, Result.andThen]
  exact hK _ _ h2 h3 h4

/-! ### A write, built -/
theorem Try.cellSize : (Try.prog.info? 73).map (·.size) = some 64 := by kernel_rfl
theorem Try.writeSize : (Try.prog.info? 75).map (·.size) = some 129 := by kernel_rfl
theorem Try.byteSize : (Try.prog.info? 5).map (·.size) = some 1 := by kernel_rfl
theorem Try.writeZero : (Try.prog.info? 75).map (·.zero) = some (some (.agg (wrL ⟨0, zeros 64, zeros 64⟩).toArray)) := by kernel_rfl
theorem Try.writePlaces : (match Try.prog.underlying 75 with | some (.struct fields) => fields.toList.mapM (fun f => (Try.prog.info? f.type).map fun i => (f.offset, i.size)) | _ => none) = some [(0, 1), (1, 64), (65, 64)] := by kernel_rfl
theorem fold_run (off : Nat) : ∀ (vs : List Value) (k : Nat) (cells : Array Value), (vs.zipIdx k).foldl (fun cs p => cs.setIfInBounds (off + p.2) p.1) cells = setRun cells (off + k) vs
  | [], _, _ => rfl
  | v :: r, k, cells => by
    rw [List.zipIdx_cons, List.foldl_cons, fold_run off r (k + 1), setRun, Nat.add_assoc]
theorem fold_run_arr (off : Nat) (vs : List Value) (cells : Array Value) : vs.toArray.zipIdx.foldl (fun cs (c, j) => cs.setIfInBounds (off + j) c) cells = setRun cells off vs := by
  have := fold_run off vs 0 cells
  rw [Nat.add_zero] at this
  rw [← this]
  simp
theorem fill_step {place : Nat → Option (Nat × Nat)} {cells : Array Value} {i off size : Nat} {v : Value} {vs : List Value} {rest : List (Nat × Value)} (hp : place i = some (off, size)) (hv : v.cells = vs.toArray) (h1 : vs.length = size) (h2 : off + size ≤ cells.size) :
    Instr.fill place cells ((i, v) :: rest) = Instr.fill place (setRun cells off vs) rest := by
  rw [Instr.fill, hp]
  dsimp only
  split
  · rename_i h
    exfalso
    rw [hv] at h
    simp at h
    omega
  · rw [hv, fold_run_arr]
theorem ext_run {A : Array Value} {l : List Value} (h : ∀ i : Nat, A[i]? = l[i]?) : A = l.toArray := by
  apply Array.ext_getElem?
  intro i
  rw [h i]
  simp
theorem arr_get (x : WrP) (i : Nat) : (wrL x).toArray[i]? = (wrL x)[i]? := by simp
theorem bc_one (b : Bs) : ∀ v ∈ Lib.byteCells b, v.oneCell' = true := fun v hv => by
  obtain ⟨x, _, rfl⟩ := List.mem_map.1 hv
  rfl
theorem wrL_one (x : WrP) : ∀ v ∈ wrL x, v.oneCell' = true := fun v hv => by
  rcases List.mem_cons.1 hv with rfl | hv
  · rfl
  · rcases List.mem_append.1 hv with hv | hv
    · exact bc_one _ v hv
    · exact bc_one _ v hv
theorem zeros_drop (n m : Nat) : (zeros n).drop m = zeros (n - m) := by simp [zeros]
theorem Try.writeInfo : (Try.prog.info? 75).map (fun i => (i.zero, i.size, i.bytes)) = some (some (.agg (wrL ⟨0, zeros 64, zeros 64⟩).toArray), 129, 136) := by kernel_rfl
theorem wrL_get0 (x : WrP) : (wrL x)[0]? = some (.int .i64 (x.pl : Nat)) := rfl
theorem wrL_was {x : WrP} (h : x.was.length = 64) {j : Nat} (hj : j < 64) : (wrL x)[1 + j]? = (Lib.byteCells x.was)[j]? := by
  rw [Nat.add_comm, wrL, List.getElem?_cons_succ, List.getElem?_append_left (by rw [bc_len]; omega)]
theorem wrL_is {x : WrP} (h : x.was.length = 64) (j : Nat) : (wrL x)[65 + j]? = (Lib.byteCells x.is)[j]? := by
  rw [show 65 + j = (64 + j) + 1 by omega, wrL, List.getElem?_cons_succ, List.getElem?_append_right (by rw [bc_len]; omega), bc_len, h]
  congr 1
  omega
/-- Cells of a write that are set. -/
theorem set_was {k : Nat} {a b c : Bs} (ha : a.length = 64) (hb : b.length = 64) (hc : c.length = 64) : setRun (wrL ⟨k, a, c⟩).toArray 1 (Lib.byteCells b) = (wrL ⟨k, b, c⟩).toArray := by
  have h1 := wrL_len (x := ⟨k, a, c⟩) ⟨ha, hc⟩
  have h2 := wrL_len (x := ⟨k, b, c⟩) ⟨hb, hc⟩
  have hbl := bc_len b
  apply ext_run
  intro i
  by_cases h0 : i = 0
  · subst h0
    rw [setRun_out _ _ _ _ (.inl (by decide)), arr_get]
    rfl
  · by_cases h : i < 65
    · obtain ⟨j, rfl⟩ : ∃ j, i = 1 + j := ⟨i - 1, by omega⟩
      have hv : (Lib.byteCells b)[j]? = some ((Lib.byteCells b)[j]'(by omega)) := List.getElem?_eq_getElem _
      rw [setRun_in _ _ 1 j _ hv (by simp only [List.size_toArray]; omega), wrL_was hb (by omega), hv]
    · obtain ⟨j, rfl⟩ : ∃ j, i = 65 + j := ⟨i - 65, by omega⟩
      rw [setRun_out _ _ _ _ (.inr (by omega)), arr_get, wrL_is ha, wrL_is hb]
theorem set_is {k : Nat} {a b c : Bs} (ha : a.length = 64) (hb : b.length ≤ 64) (hc : c.length = 64) : setRun (wrL ⟨k, a, c⟩).toArray 65 (Lib.byteCells b) = (wrL ⟨k, a, b ++ c.drop b.length⟩).toArray := by
  have h1 := wrL_len (x := ⟨k, a, c⟩) ⟨ha, hc⟩
  have hbl := bc_len b
  apply ext_run
  intro i
  by_cases h0 : i = 0
  · subst h0
    rw [setRun_out _ _ _ _ (.inl (by decide)), arr_get]
    rfl
  · by_cases h : i < 65
    · obtain ⟨j, rfl⟩ : ∃ j, i = 1 + j := ⟨i - 1, by omega⟩
      rw [setRun_out _ _ _ _ (.inl (by omega)), arr_get, wrL_was ha (by omega), wrL_was ha (by omega)]
    · obtain ⟨j, rfl⟩ : ∃ j, i = 65 + j := ⟨i - 65, by omega⟩
      rw [wrL_is ha]
      have e : Lib.byteCells (b ++ c.drop b.length) = Lib.byteCells b ++ (Lib.byteCells c).drop b.length := by simp [Lib.byteCells]
      rw [e]
      by_cases hj : j < b.length
      · have hv : (Lib.byteCells b)[j]? = some ((Lib.byteCells b)[j]'(by omega)) := List.getElem?_eq_getElem _
        rw [setRun_in _ _ 65 j _ hv (by simp only [List.size_toArray]; omega), List.getElem?_append_left (by omega), hv]
      · rw [setRun_out _ _ _ _ (.inr (by omega)), arr_get, wrL_is ha, List.getElem?_append_right (by omega), List.getElem?_drop]
        congr 1
        omega
/-- All cells that are set. -/
theorem set_all {vs : List Value} {cur : Array Value} (h : vs.length = cur.size) : setRun cur 0 vs = vs.toArray := by
  apply ext_run
  intro i
  by_cases hi : i < vs.length
  · have hv : vs[i]? = some vs[i] := List.getElem?_eq_getElem hi
    have := setRun_in vs cur 0 i _ hv (by omega)
    rw [Nat.zero_add] at this
    rw [this, hv]
  · rw [Array.getElem?_eq_none (by rw [setRun_size]; omega), List.getElem?_eq_none (by omega)]
theorem head_run (m k : Nat) (a c : Bs) : setRun (wrL ⟨m, a, c⟩).toArray 0 [.int .i64 (k : Nat)] = (wrL ⟨k, a, c⟩).toArray := by
  unfold setRun setRun wrL
  simp
theorem built_write (k : Nat) (b : Bs) (hb : b.length = 64) : Try.prog.built 75 [(0, .int .i64 (k : Nat)), (1, .agg (Lib.byteCells b).toArray)] = some (wrL ⟨k, b, zeros 64⟩).toArray := by
  have hp := Try.writePlaces
  have hz := Try.writeZero
  have hbl := bc_len b
  unfold Program.built
  cases hi : Try.prog.info? 75 with
  | none => rw [hi] at hz; cases hz
  | some it =>
    rw [hi] at hz
    simp only [Option.map_some, Option.some.injEq] at hz
    cases hu : Try.prog.underlying 75 with
    | none => rw [hu] at hp; cases hp
    | some dd =>
      rw [hu] at hp
      cases dd with
      | struct fields =>
        dsimp only at hp ⊢
        rw [hz, hp]
        have h129 := wrL_len (x := ⟨0, zeros 64, zeros 64⟩) ⟨zeros_length 64, zeros_length 64⟩
        dsimp only [Value.cells]
        rw [fill_step (off := 0) (size := 1) (vs := [.int .i64 (k : Nat)]) (by rfl) rfl rfl (by simp [h129]), fill_step (off := 1) (size := 64) (vs := Lib.byteCells b) (by rfl) rfl (by omega) (by rw [setRun_size]; simp [h129]), Instr.fill]
        rw [head_run, set_was (zeros_length 64) hb (zeros_length 64)]
      | _ => cases hp

end Go.Proofs.Ytknjkkdoeanhbaa
