import Derived.Test.YtaonfedjilfgjaaPk10

/-
  The statement of Of that draws its order.
-/
namespace Go.Proofs.Ytaonfedjilfgjaa
open Go.RowKit

theorem Try.rblockInfo : (Try.prog.info? 47).map (fun i => (i.zero, i.size, i.bytes)) = some (some (.agg (Lib.byteCells (zeros 64)).toArray), 64, 64) := by kernel_rfl
def bkOf3_p8 (bs : Bs) (j : Nat) (v : Value) (w : World) : Prop := ∃ b : Nat, v = .slice (some ⟨b, 0, none⟩) 1 1 ∧ CellsAt w b (Lib.byteCells (fromB bs (64 * j))).toArray 47
def bkOf3_R (g : Nat) (A : Option Addr) (n : Nat) (c : Nat) (bs : Bs) (V : Option Addr) (j : Nat) (cv : Nat) : Nat → Value → World → Prop
  | 0, v, _ => v = .pointer (some ⟨g, 0 + 0, none⟩)
  | 1, v, _ => v = .slice V j cv
  | 2, v, _ => v = .slice A n c
  | 3, v, _ => v = .pointer (some ⟨g, 0 + 0, none⟩)
  | 4, v, _ => v = .slice V j cv
  | 5, v, _ => v = .int .i64 (j : Nat)
  | 6, v, _ => v = .int .i64 (64 * j : Nat)
  | 7, v, _ => v = .agg (Lib.byteCells (fromB bs (64 * j))).toArray
  | 8, v, w => bkOf3_p8 bs j v w
  | 9, _, _ => True
  | 10, v, _ => v = .pointer (some ⟨g, 0 + 0, none⟩)
  | 11, _, _ => True
  | _, _, _ => True
def bkOf3_X (w0 : World) (g : Nat) (bs : Bs) (V : Option Addr) (j : Nat) (cv : Nat) (xs : List (List Value)) : Nat → List Value → World → World → Prop
  | 0, _, w1, w => w = w1
  | 1, [v0], w1, w => OwnK 47 64 w0 w v0 (xs ++ [Lib.byteCells (fromB bs (64 * j))]) ∧ w1.grownBy w (Value.slice V j cv).ownBlock ∧ (v0.ownBlock = (Value.slice V j cv).ownBlock ∨ v0.ownBlock = some w1.heap.size)
  | 2, [v0, _], w1, w => ∃ wm : World, OwnK 47 64 w0 wm v0 (xs ++ [Lib.byteCells (fromB bs (64 * j))]) ∧ w1.grownBy wm (Value.slice V j cv).ownBlock ∧ (v0.ownBlock = (Value.slice V j cv).ownBlock ∨ v0.ownBlock = some w1.heap.size) ∧ CellsAt w g #[v0, .slice none 0 0, .int .i64 0, .int .i64 (-1), .bool false] 30 ∧ Chg (fun q => q = g) wm w
  | _, _, _, _ => False
set_option maxRecDepth 100000 in
set_option maxHeartbeats 1600000 in
theorem bkOf3 {ops : Array Oper} (hn : ops.size = 12) (hg : goesBack ops = true)
    (o0 : OpIs ops 0 (.fieldAddr 30 (.tmp 3) 0) (some 24) [])
    (o1 : OpIs ops 1 (.load 27 (.tmp 24)) (some 25) [0])
    (o2 : OpIs ops 2 (.move (.tmp 0)) (some 26) [])
    (o3 : OpIs ops 3 (.fieldAddr 30 (.tmp 3) 0) (some 27) [])
    (o4 : OpIs ops 4 (.load 27 (.tmp 27)) (some 28) [3])
    (o5 : OpIs ops 5 (.call { callee := .builtin .len, args := #[.tmp 28], argTypes := #[27] }) (some 29) [4])
    (o6 : OpIs ops 6 (.binOp .mul 3 (.const (.int .i64 64)) (.tmp 29) 3) (some 30) [5])
    (o7 : OpIs ops 7 (.call { callee := .value (.func 52), args := #[.tmp 26, .tmp 30], argTypes := #[33, 3] }) (some 31) [2, 6])
    (o8 : OpIs ops 8 (.buildSlice 27 1 #[(0, .tmp 31)]) (some 32) [7])
    (o9 : OpIs ops 9 (.call { callee := .builtin .append, args := #[.tmp 25, .tmp 32], argTypes := #[27, 27] }) (some 33) [1, 7, 8])
    (o10 : OpIs ops 10 (.fieldAddr 30 (.tmp 3) 0) (some 34) [0, 1, 2, 3, 4, 5, 6, 7, 8, 9])
    (o11 : OpIs ops 11 (.store 27 (.tmp 34) (.tmp 33)) none [0, 1, 2, 3, 4, 5, 6, 7, 8, 9, 10])
    {a1 : Act} (hs : 36 ≤ a1.tmps.size) {wx : World} {w0 : World} {g : Nat} {A : Option Addr} {n c : Nat} {bs : Bs} {V : Option Addr} {j cv : Nat} {xs : List (List Value)} (e0 : a1.eval (.tmp 0) = .slice A n c) (e3 : a1.eval (.tmp 3) = .pointer (some ⟨g, 0, none⟩)) (hc0 : wx.cell? ⟨g, 0 + 0, none⟩ = some (.slice V j cv)) (hbs : BsAt wx A n bs) (hnn : n ≤ 1000000) (hjj : j ≤ 4096) (hlen : (Lib.byteCells (fromB bs (64 * j))).length = 64) (how : OwnK 47 64 w0 wx (.slice V j cv) xs) (hxl : xs.length ≤ 900000) (hbg : CellsAt wx g #[.slice V j cv, .slice none 0 0, .int .i64 0, .int .i64 (-1), .bool false] 30) (hvg : (Value.slice V j cv).ownBlock ≠ some g)
    {Q : Exit → Act → World → Prop} {id : Nat} (hend : ∀ (a : Act) (w1 w : World) (v0 v1 : Value), SameOut a1 a [24, 25, 26, 27, 28, 29, 30, 31, 32, 33, 34] → Later wx w1 → a.eval (.tmp 33) = v0 → bkOf3_X w0 g bs V j cv xs 2 [v0, v1] w1 w → Q .normal a w) :
    (Code.region id ops true).wp Try.prog Q a1 wx := by
  refine region_turns (n := 12) (by kernel_rfl) hg hn [24, 25, 26, 27, 28, 29, 30, 31, 32, 33, 34, 1011] (by decide +kernel) rfl [24, 25, 26, 27, 28, 29, 30, 31, 32, 33, 34] (fun i => decide (i = 9) || decide (i = 11)) (fun i => decide (i = 0) || decide (i = 2) || decide (i = 3) || decide (i = 6) || decide (i = 10)) (fun i => !decide (i = 11)) [9, 11] ?_ ?_ (bkOf3_R g A n c bs V j cv) (bkOf3_X w0 g bs V j cv xs) ?_ ?_ (by decide) ?_ ?_ ?_ ?_ (fun _ _ _ => Iff.rfl) ?_ ?_ ?_ ?_
  · intro i hi hs'
    have hc : i = 0 ∨ i = 1 ∨ i = 2 ∨ i = 3 ∨ i = 4 ∨ i = 5 ∨ i = 6 ∨ i = 7 ∨ i = 8 ∨ i = 9 ∨ i = 10 ∨ i = 11 := by omega
    rcases hc with rfl | rfl | rfl | rfl | rfl | rfl | rfl | rfl | rfl | rfl | rfl | rfl
    · decide
    · decide
    · decide
    · decide
    · decide
    · decide
    · decide
    · decide
    · decide
    · decide
    · decide
    · cases hs'
  · intro i hi hs'
    have hc : i = 0 ∨ i = 1 ∨ i = 2 ∨ i = 3 ∨ i = 4 ∨ i = 5 ∨ i = 6 ∨ i = 7 ∨ i = 8 ∨ i = 9 ∨ i = 10 ∨ i = 11 := by omega
    rcases hc with rfl | rfl | rfl | rfl | rfl | rfl | rfl | rfl | rfl | rfl | rfl | rfl
    · show (24 : Nat) < _; omega
    · show (25 : Nat) < _; omega
    · show (26 : Nat) < _; omega
    · show (27 : Nat) < _; omega
    · show (28 : Nat) < _; omega
    · show (29 : Nat) < _; omega
    · show (30 : Nat) < _; omega
    · show (31 : Nat) < _; omega
    · show (32 : Nat) < _; omega
    · show (33 : Nat) < _; omega
    · show (34 : Nat) < _; omega
    · cases hs'
  · intro i hi
    simp only [Bool.or_eq_true, decide_eq_true_eq] at hi
    rcases hi with rfl | rfl
    · decide
    · decide
  · intro i hi
    simp only [List.mem_cons, List.not_mem_nil, or_false] at hi
    rcases hi with rfl | rfl
    · decide
    · decide
  · intro i hi hT
    have hc : i = 0 ∨ i = 1 ∨ i = 2 ∨ i = 3 ∨ i = 4 ∨ i = 5 ∨ i = 6 ∨ i = 7 ∨ i = 8 ∨ i = 9 ∨ i = 10 ∨ i = 11 := by omega
    rcases hc with rfl | rfl | rfl | rfl | rfl | rfl | rfl | rfl | rfl | rfl | rfl | rfl
    · rfl
    · rfl
    · rfl
    · rfl
    · rfl
    · rfl
    · rfl
    · rfl
    · rfl
    · rfl
    · rfl
    · cases hT
  · intro l dn i hi h k hk hp hT
    simp only [List.mem_cons, List.not_mem_nil, or_false] at hi
    rcases hi with rfl | rfl
    · have c1 := o9.back dn h 1 (by simp)
      have c7 := o9.back dn h 7 (by simp)
      have c8 := o9.back dn h 8 (by simp)
      have c0 := o1.back dn c1 0 (by simp)
      have c2 := o7.back dn c7 2 (by simp)
      have c6 := o7.back dn c7 6 (by simp)
      have c5 := o6.back dn c6 5 (by simp)
      have c4 := o5.back dn c5 4 (by simp)
      have c3 := o4.back dn c4 3 (by simp)
      have hc : k = 0 ∨ k = 1 ∨ k = 2 ∨ k = 3 ∨ k = 4 ∨ k = 5 ∨ k = 6 ∨ k = 7 ∨ k = 8 ∨ k = 9 ∨ k = 10 ∨ k = 11 := by omega
      rcases hc with rfl | rfl | rfl | rfl | rfl | rfl | rfl | rfl | rfl | rfl | rfl | rfl
      · cases hp
      · exact c1
      · cases hp
      · cases hp
      · exact c4
      · exact c5
      · cases hp
      · exact c7
      · exact c8
      · cases hT
      · cases hp
      · cases hT
    · have c0 := o11.back dn h 0 (by simp)
      have c1 := o11.back dn h 1 (by simp)
      have c2 := o11.back dn h 2 (by simp)
      have c3 := o11.back dn h 3 (by simp)
      have c4 := o11.back dn h 4 (by simp)
      have c5 := o11.back dn h 5 (by simp)
      have c6 := o11.back dn h 6 (by simp)
      have c7 := o11.back dn h 7 (by simp)
      have c8 := o11.back dn h 8 (by simp)
      have c9 := o11.back dn h 9 (by simp)
      have c10 := o11.back dn h 10 (by simp)
      have hc : k = 0 ∨ k = 1 ∨ k = 2 ∨ k = 3 ∨ k = 4 ∨ k = 5 ∨ k = 6 ∨ k = 7 ∨ k = 8 ∨ k = 9 ∨ k = 10 ∨ k = 11 := by omega
      rcases hc with rfl | rfl | rfl | rfl | rfl | rfl | rfl | rfl | rfl | rfl | rfl | rfl
      · cases hp
      · exact c1
      · cases hp
      · cases hp
      · exact c4
      · exact c5
      · cases hp
      · exact c7
      · exact c8
      · cases hT
      · cases hp
      · cases hT
  · intro l dn t i i' h1 h2 h
    match t, h1, h2 with
    | 0, h1, h2 => cases h1; cases h2; have c0 := o11.back dn h 0 (by simp); have c1 := o11.back dn h 1 (by simp); have c2 := o11.back dn h 2 (by simp); have c3 := o11.back dn h 3 (by simp); have c4 := o11.back dn h 4 (by simp); have c5 := o11.back dn h 5 (by simp); have c6 := o11.back dn h 6 (by simp); have c7 := o11.back dn h 7 (by simp); have c8 := o11.back dn h 8 (by simp); have c9 := o11.back dn h 9 (by simp); have c10 := o11.back dn h 10 (by simp); exact c9
    | t + 1, h1, h2 => simp at h2
  · intro i hi v w
    simp only [Bool.or_eq_true, decide_eq_true_eq] at hi
    rcases hi with rfl | rfl
    · trivial
    · trivial
  · intro l a w i o K ho hi hp hT hwait so hl0 F hK
    have hc : i = 0 ∨ i = 1 ∨ i = 2 ∨ i = 3 ∨ i = 4 ∨ i = 5 ∨ i = 6 ∨ i = 7 ∨ i = 8 ∨ i = 9 ∨ i = 10 ∨ i = 11 := by omega
    rcases hc with rfl | rfl | rfl | rfl | rfl | rfl | rfl | rfl | rfl | rfl | rfl | rfl
    · cases hp
    · have ws := o1.waits ho hwait
      have f0 : a.eval (.tmp 24) = .pointer (some ⟨g, 0 + 0, none⟩) := by obtain ⟨_, _, _, h⟩ := F 0 (ws 0 (by simp)) (by decide); exact h
      refine o1.loadRL f0 (Later.cell hl0 hc0) ?_
      exact hK _ _ (Later.refl w) rfl
    · cases hp
    · cases hp
    · have ws := o4.waits ho hwait
      have f3 : a.eval (.tmp 27) = .pointer (some ⟨g, 0 + 0, none⟩) := by obtain ⟨_, _, _, h⟩ := F 3 (ws 3 (by simp)) (by decide); exact h
      refine o4.loadRL f3 (Later.cell hl0 hc0) ?_
      exact hK _ _ (Later.refl w) rfl
    · have ws := o5.waits ho hwait
      have f4 : a.eval (.tmp 28) = .slice V j cv := by obtain ⟨_, _, _, h⟩ := F 4 (ws 4 (by simp)) (by decide); exact h
      refine o5.lenRL f4 ?_
      exact hK _ _ (Later.refl w) rfl
    · cases hp
    · have ws := o7.waits ho hwait
      have f2 : a.eval (.tmp 26) = .slice A n c := by obtain ⟨_, _, _, h⟩ := F 2 (ws 2 (by simp)) (by decide); exact h
      have f6 : a.eval (.tmp 30) = .int .i64 (64 * j : Nat) := by obtain ⟨_, _, _, h⟩ := F 6 (ws 6 (by simp)) (by decide); exact h
      refine o7.call2 (enters_of Try.func52 (by kernel_rfl) rfl) f2 f6 (fill_any A n c bs (64 * j) w (hbs.later hl0) (by omega) (by omega)) ?_
      rintro e w' ⟨rfl, hl'⟩
      exact ⟨_, rfl, hK _ _ hl' rfl⟩
    · have ws := o8.waits ho hwait
      have f7 : a.eval (.tmp 31) = .agg (Lib.byteCells (fromB bs (64 * j))).toArray := by obtain ⟨_, _, _, h⟩ := F 7 (ws 7 (by simp)) (by decide); exact h
      obtain ⟨i0, hi0, hz0, hz1, hz2⟩ := info_parts Try.rblockInfo
      refine o8.buildOne i0 _ f7 Try.underlying27 hi0 hz0 (hz1.trans hlen.symm) (by simp only [Value.cells, List.size_toArray]; rw [bc_len]; exact (zeros_length 64).trans hlen.symm) (by omega) (by omega) ?_
      exact hK _ _ ((Later.refl w).alloc _) ⟨_, rfl, CellsAt.made w _ _⟩
    · cases hT
    · cases hp
    · cases hT
  · intro l a w w1 i o K ho hi hp hwait so hl0 F hK
    have hc : i = 0 ∨ i = 1 ∨ i = 2 ∨ i = 3 ∨ i = 4 ∨ i = 5 ∨ i = 6 ∨ i = 7 ∨ i = 8 ∨ i = 9 ∨ i = 10 ∨ i = 11 := by omega
    rcases hc with rfl | rfl | rfl | rfl | rfl | rfl | rfl | rfl | rfl | rfl | rfl | rfl
    · refine o0.fieldSt (by omega) ((show _ = a1.eval _ from by simp only [Act.eval, Array.getD_eq_getD_getElem?, so.out 3 (by decide)]).trans e3) ?_
      exact hK _ rfl
    · cases hp
    · refine o2.move ?_
      rw [show a.eval (.tmp 0) = .slice A n c from ((show _ = a1.eval _ from by simp only [Act.eval, Array.getD_eq_getD_getElem?, so.out 0 (by decide)]).trans e0)]
      exact hK _ rfl
    · refine o3.fieldSt (by omega) ((show _ = a1.eval _ from by simp only [Act.eval, Array.getD_eq_getD_getElem?, so.out 3 (by decide)]).trans e3) ?_
      exact hK _ rfl
    · cases hp
    · cases hp
    · have ws := o6.waits ho hwait
      have f5 : a.eval (.tmp 29) = .int .i64 (j : Nat) := by obtain ⟨_, _, _, h⟩ := F 5 (ws 5 (by simp)) (by decide); exact h
      refine o6.mulC (by omega) f5 ?_
      exact hK _ rfl
    · cases hp
    · cases hp
    · cases hp
    · refine o10.fieldSt (by omega) ((show _ = a1.eval _ from by simp only [Act.eval, Array.getD_eq_getD_getElem?, so.out 3 (by decide)]).trans e3) ?_
      exact hK _ rfl
    · cases hp
  · intro l a w1 w tq iq o vals K htq ho hwait so hl0 F hvl hvs hx hK
    match tq, htq with
    | 0, htq =>
      cases htq
      have hv0 := List.eq_nil_of_length_eq_zero hvl
      subst hv0
      have hw : w = w1 := hx
      subst hw
      have ws := o9.waits ho hwait
      have f1 : a.eval (.tmp 25) = .slice V j cv := by obtain ⟨_, _, _, h⟩ := F 1 (ws 1 (by simp)) (by decide); exact h
      obtain ⟨x8, y8, z8, f8⟩ := F 8 (ws 8 (by simp)) (by decide)
      replace hK : ∀ vv ww, bkOf3_X w0 g bs V j cv xs 1 ([] ++ [vv]) w ww → K (a.put (some 33) vv) ww := hK
      obtain ⟨b, fe, hr⟩ := f8
      obtain ⟨i0, hi0, hz0, hz1, hz2⟩ := info_parts Try.rblockInfo
      refine o9.appendD f1 fe fun ty => ?_
      obtain ⟨v', w', hrun, h1, h2, h3⟩ := run_append_one (P := Try.prog) (c := 1) 27 ty i0 _ 64 Try.underlying27 hi0 hz0 hz1 hz2 (by simp only [Value.cells, List.size_toArray]; rw [bc_len]; exact zeros_length 64) (by decide) (how.on hl0) ((hr.later z8).range (o := 0) (fun j u hj => by rw [Nat.zero_add, List.getElem?_toArray]; exact hj)) hlen (bc_one _) (by omega) (by decide)
      exact ⟨v', w', hrun, hK _ _ ⟨h1, h2, h3⟩⟩
    | 1, htq =>
      cases htq
      obtain ⟨v0, rfl⟩ := List.length_eq_one_iff.1 hvl
      have g9 : a.eval (.tmp 33) = v0 := hvs 0 9 v0 rfl rfl rfl
      have ws := o11.waits ho hwait
      have f10 : a.eval (.tmp 34) = .pointer (some ⟨g, 0 + 0, none⟩) := by obtain ⟨_, _, _, h⟩ := F 10 (ws 10 (by simp)) (by decide); exact h
      replace hK : ∀ vv ww, bkOf3_X w0 g bs V j cv xs 2 ([v0] ++ [vv]) w1 ww → K a ww := hK
      obtain ⟨h1, h2, h3⟩ := hx
      obtain ⟨A', c', e', -, -⟩ := h1.row
      have hch : Chg (fun q => (Value.slice V j cv).ownBlock = some q) w1 w := Chg.grown h2 fun q hq => .inl hq
      have hbw : CellsAt w g #[.slice V j cv, .slice none 0 0, .int .i64 0, .int .i64 (-1), .bool false] 30 := (hbg.later hl0).chg hch (fun e => hvg e)
      refine o11.storeRL f10 (g9.trans e') hbw (by show 0 + 0 < 5; omega) (fun w' k1 k2 => hK undef _ ⟨w, h1, h2, h3, ?_, k2⟩)
      rw [e']
      exact k1
    | tq + 2, htq => simp at htq
  · intro a w1 w vals so hl F hvl hvs hx
    obtain ⟨v0, v1, rfl⟩ := len_two hvl
    exact hend a w1 w v0 v1 so hl  (hvs 0 9 v0 rfl rfl rfl) hx

end Go.Proofs.Ytaonfedjilfgjaa

/-
  The statement of the reference's New that draws its order.
-/
namespace Go.Proofs.Ytaonfedjilfgjaa
open Go.RowKit

theorem Try.rblockBuilt : Try.prog.built 47 [] = some (Lib.byteCells (zeros 64)).toArray := by kernel_rfl
section
variable {ops : Array Oper} {Q : Exit → Act → World → Prop} {K : Act → World → Prop} {i : Nat} {dst : Option Tmp} {js : List Nat} {a : Act} {w w0 : World}
theorem OpIs.buildZ10 (h : OpIs ops i (.build 47 #[]) dst js) (hk : K (a.put dst (.agg (Lib.byteCells (zeros 64)).toArray)) w) : wpOp Try.prog ops Q i K a w :=
  h.go fun op h1 h2 => wp_build 47 #[] h1 (by simp only [List.map_toArray, List.map_nil]; show (Try.prog.built 47 []).isSome = true; rw [Try.rblockBuilt]; rfl) (by simp only [List.map_toArray, List.map_nil]; show K (a.put op.dst (.agg ((Try.prog.built 47 []).getD #[]))) w; rw [Try.rblockBuilt, h2]; exact hk)
end
def bkNw3_p3  (v : Value) (w : World) : Prop := ∃ b : Nat, v = .slice (some ⟨b, 0, none⟩) 1 1 ∧ CellsAt w b (Lib.byteCells (zeros 64)).toArray 47
def bkNw3_R (g : Nat) (V : Option Addr) (j : Nat) (cv : Nat) : Nat → Value → World → Prop
  | 0, v, _ => v = .pointer (some ⟨g, 0 + 0, none⟩)
  | 1, v, _ => v = .slice V j cv
  | 2, v, _ => v = .agg (Lib.byteCells (zeros 64)).toArray
  | 3, v, w => bkNw3_p3  v w
  | 4, _, _ => True
  | 5, v, _ => v = .pointer (some ⟨g, 0 + 0, none⟩)
  | 6, _, _ => True
  | _, _, _ => True
def bkNw3_X (w0 : World) (g : Nat) (V : Option Addr) (j : Nat) (cv : Nat) (xs : List (List Value)) : Nat → List Value → World → World → Prop
  | 0, _, w1, w => w = w1
  | 1, [v0], w1, w => OwnK 47 64 w0 w v0 (xs ++ [Lib.byteCells (zeros 64)]) ∧ w1.grownBy w (Value.slice V j cv).ownBlock ∧ (v0.ownBlock = (Value.slice V j cv).ownBlock ∨ v0.ownBlock = some w1.heap.size)
  | 2, [v0, _], w1, w => ∃ wm : World, OwnK 47 64 w0 wm v0 (xs ++ [Lib.byteCells (zeros 64)]) ∧ w1.grownBy wm (Value.slice V j cv).ownBlock ∧ (v0.ownBlock = (Value.slice V j cv).ownBlock ∨ v0.ownBlock = some w1.heap.size) ∧ CellsAt w g #[v0, .slice none 0 0, .int .i64 0, .int .i64 (-1), .bool false] 30 ∧ Chg (fun q => q = g) wm w
  | _, _, _, _ => False
set_option maxRecDepth 100000 in
set_option maxHeartbeats 1600000 in
theorem bkNw3 {ops : Array Oper} (hn : ops.size = 7) (hg : goesBack ops = true)
    (o0 : OpIs ops 0 (.fieldAddr 30 (.tmp 3) 0) (some 22) [])
    (o1 : OpIs ops 1 (.load 27 (.tmp 22)) (some 23) [0])
    (o2 : OpIs ops 2 (.build 47 #[]) (some 24) [])
    (o3 : OpIs ops 3 (.buildSlice 27 1 #[(0, .tmp 24)]) (some 25) [2])
    (o4 : OpIs ops 4 (.call { callee := .builtin .append, args := #[.tmp 23, .tmp 25], argTypes := #[27, 27] }) (some 26) [1, 3])
    (o5 : OpIs ops 5 (.fieldAddr 30 (.tmp 3) 0) (some 27) [0, 1, 2, 3, 4])
    (o6 : OpIs ops 6 (.store 27 (.tmp 27) (.tmp 26)) none [0, 1, 2, 3, 4, 5])
    {a1 : Act} (hs : 29 ≤ a1.tmps.size) {wx : World} {w0 : World} {g : Nat} {V : Option Addr} {j cv : Nat} {xs : List (List Value)} (e3 : a1.eval (.tmp 3) = .pointer (some ⟨g, 0, none⟩)) (hc0 : wx.cell? ⟨g, 0 + 0, none⟩ = some (.slice V j cv)) (how : OwnK 47 64 w0 wx (.slice V j cv) xs) (hxl : xs.length ≤ 900000) (hbg : CellsAt wx g #[.slice V j cv, .slice none 0 0, .int .i64 0, .int .i64 (-1), .bool false] 30) (hvg : (Value.slice V j cv).ownBlock ≠ some g)
    {Q : Exit → Act → World → Prop} {id : Nat} (hend : ∀ (a : Act) (w1 w : World) (v0 v1 : Value), SameOut a1 a [22, 23, 24, 25, 26, 27] → Later wx w1 → a.eval (.tmp 26) = v0 → bkNw3_X w0 g V j cv xs 2 [v0, v1] w1 w → Q .normal a w) :
    (Code.region id ops true).wp Try.prog Q a1 wx := by
  refine region_turns (n := 7) (by kernel_rfl) hg hn [22, 23, 24, 25, 26, 27, 1006] (by decide +kernel) rfl [22, 23, 24, 25, 26, 27] (fun i => decide (i = 4) || decide (i = 6)) (fun i => decide (i = 0) || decide (i = 5)) (fun i => !decide (i = 6)) [4, 6] ?_ ?_ (bkNw3_R g V j cv) (bkNw3_X w0 g V j cv xs) ?_ ?_ (by decide) ?_ ?_ ?_ ?_ (fun _ _ _ => Iff.rfl) ?_ ?_ ?_ ?_
  · intro i hi hs'
    have hc : i = 0 ∨ i = 1 ∨ i = 2 ∨ i = 3 ∨ i = 4 ∨ i = 5 ∨ i = 6 := by omega
    rcases hc with rfl | rfl | rfl | rfl | rfl | rfl | rfl
    · decide
    · decide
    · decide
    · decide
    · decide
    · decide
    · cases hs'
  · intro i hi hs'
    have hc : i = 0 ∨ i = 1 ∨ i = 2 ∨ i = 3 ∨ i = 4 ∨ i = 5 ∨ i = 6 := by omega
    rcases hc with rfl | rfl | rfl | rfl | rfl | rfl | rfl
    · show (22 : Nat) < _; omega
    · show (23 : Nat) < _; omega
    · show (24 : Nat) < _; omega
    · show (25 : Nat) < _; omega
    · show (26 : Nat) < _; omega
    · show (27 : Nat) < _; omega
    · cases hs'
  · intro i hi
    simp only [Bool.or_eq_true, decide_eq_true_eq] at hi
    rcases hi with rfl | rfl
    · decide
    · decide
  · intro i hi
    simp only [List.mem_cons, List.not_mem_nil, or_false] at hi
    rcases hi with rfl | rfl
    · decide
    · decide
  · intro i hi hT
    have hc : i = 0 ∨ i = 1 ∨ i = 2 ∨ i = 3 ∨ i = 4 ∨ i = 5 ∨ i = 6 := by omega
    rcases hc with rfl | rfl | rfl | rfl | rfl | rfl | rfl
    · rfl
    · rfl
    · rfl
    · rfl
    · rfl
    · rfl
    · cases hT
  · intro l dn i hi h k hk hp hT
    simp only [List.mem_cons, List.not_mem_nil, or_false] at hi
    rcases hi with rfl | rfl
    · have c1 := o4.back dn h 1 (by simp)
      have c3 := o4.back dn h 3 (by simp)
      have c0 := o1.back dn c1 0 (by simp)
      have c2 := o3.back dn c3 2 (by simp)
      have hc : k = 0 ∨ k = 1 ∨ k = 2 ∨ k = 3 ∨ k = 4 ∨ k = 5 ∨ k = 6 := by omega
      rcases hc with rfl | rfl | rfl | rfl | rfl | rfl | rfl
      · cases hp
      · exact c1
      · exact c2
      · exact c3
      · cases hT
      · cases hp
      · cases hT
    · have c0 := o6.back dn h 0 (by simp)
      have c1 := o6.back dn h 1 (by simp)
      have c2 := o6.back dn h 2 (by simp)
      have c3 := o6.back dn h 3 (by simp)
      have c4 := o6.back dn h 4 (by simp)
      have c5 := o6.back dn h 5 (by simp)
      have hc : k = 0 ∨ k = 1 ∨ k = 2 ∨ k = 3 ∨ k = 4 ∨ k = 5 ∨ k = 6 := by omega
      rcases hc with rfl | rfl | rfl | rfl | rfl | rfl | rfl
      · cases hp
      · exact c1
      · exact c2
      · exact c3
      · cases hT
      · cases hp
      · cases hT
  · intro l dn t i i' h1 h2 h
    match t, h1, h2 with
    | 0, h1, h2 => cases h1; cases h2; have c0 := o6.back dn h 0 (by simp); have c1 := o6.back dn h 1 (by simp); have c2 := o6.back dn h 2 (by simp); have c3 := o6.back dn h 3 (by simp); have c4 := o6.back dn h 4 (by simp); have c5 := o6.back dn h 5 (by simp); exact c4
    | t + 1, h1, h2 => simp at h2
  · intro i hi v w
    simp only [Bool.or_eq_true, decide_eq_true_eq] at hi
    rcases hi with rfl | rfl
    · trivial
    · trivial
  · intro l a w i o K ho hi hp hT hwait so hl0 F hK
    have hc : i = 0 ∨ i = 1 ∨ i = 2 ∨ i = 3 ∨ i = 4 ∨ i = 5 ∨ i = 6 := by omega
    rcases hc with rfl | rfl | rfl | rfl | rfl | rfl | rfl
    · cases hp
    · have ws := o1.waits ho hwait
      have f0 : a.eval (.tmp 22) = .pointer (some ⟨g, 0 + 0, none⟩) := by obtain ⟨_, _, _, h⟩ := F 0 (ws 0 (by simp)) (by decide); exact h
      refine o1.loadRL f0 (Later.cell hl0 hc0) ?_
      exact hK _ _ (Later.refl w) rfl
    · refine o2.buildZ10 ?_
      exact hK _ _ (Later.refl w) rfl
    · have ws := o3.waits ho hwait
      have f2 : a.eval (.tmp 24) = .agg (Lib.byteCells (zeros 64)).toArray := by obtain ⟨_, _, _, h⟩ := F 2 (ws 2 (by simp)) (by decide); exact h
      obtain ⟨i0, hi0, hz0, hz1, hz2⟩ := info_parts Try.rblockInfo
      refine o3.buildOne i0 _ f2 Try.underlying27 hi0 hz0 (hz1.trans ((bc_len _).trans (zeros_length 64)).symm) (by simp only [Value.cells, List.size_toArray]) (by rw [bc_len, zeros_length]; omega) (by rw [bc_len, zeros_length]; omega) ?_
      exact hK _ _ ((Later.refl w).alloc _) ⟨_, rfl, CellsAt.made w _ _⟩
    · cases hT
    · cases hp
    · cases hT
  · intro l a w w1 i o K ho hi hp hwait so hl0 F hK
    have hc : i = 0 ∨ i = 1 ∨ i = 2 ∨ i = 3 ∨ i = 4 ∨ i = 5 ∨ i = 6 := by omega
    rcases hc with rfl | rfl | rfl | rfl | rfl | rfl | rfl
    · refine o0.fieldSt (by omega) ((show _ = a1.eval _ from by simp only [Act.eval, Array.getD_eq_getD_getElem?, so.out 3 (by decide)]).trans e3) ?_
      exact hK _ rfl
    · cases hp
    · cases hp
    · cases hp
    · cases hp
    · refine o5.fieldSt (by omega) ((show _ = a1.eval _ from by simp only [Act.eval, Array.getD_eq_getD_getElem?, so.out 3 (by decide)]).trans e3) ?_
      exact hK _ rfl
    · cases hp
  · intro l a w1 w tq iq o vals K htq ho hwait so hl0 F hvl hvs hx hK
    match tq, htq with
    | 0, htq =>
      cases htq
      have hv0 := List.eq_nil_of_length_eq_zero hvl
      subst hv0
      have hw : w = w1 := hx
      subst hw
      have ws := o4.waits ho hwait
      have f1 : a.eval (.tmp 23) = .slice V j cv := by obtain ⟨_, _, _, h⟩ := F 1 (ws 1 (by simp)) (by decide); exact h
      obtain ⟨x3, y3, z3, f3⟩ := F 3 (ws 3 (by simp)) (by decide)
      replace hK : ∀ vv ww, bkNw3_X w0 g V j cv xs 1 ([] ++ [vv]) w ww → K (a.put (some 26) vv) ww := hK
      obtain ⟨b, fe, hr⟩ := f3
      obtain ⟨i0, hi0, hz0, hz1, hz2⟩ := info_parts Try.rblockInfo
      refine o4.appendD f1 fe fun ty => ?_
      obtain ⟨v', w', hrun, h1, h2, h3⟩ := run_append_one (P := Try.prog) (c := 1) 27 ty i0 _ 64 Try.underlying27 hi0 hz0 hz1 hz2 (by simp only [Value.cells, List.size_toArray]; rw [bc_len]; exact zeros_length 64) (by decide) (how.on hl0) ((hr.later z3).range (o := 0) (fun j u hj => by rw [Nat.zero_add, List.getElem?_toArray]; exact hj)) ((bc_len _).trans (zeros_length 64)) (bc_one _) (by omega) (by decide)
      exact ⟨v', w', hrun, hK _ _ ⟨h1, h2, h3⟩⟩
    | 1, htq =>
      cases htq
      obtain ⟨v0, rfl⟩ := List.length_eq_one_iff.1 hvl
      have g4 : a.eval (.tmp 26) = v0 := hvs 0 4 v0 rfl rfl rfl
      have ws := o6.waits ho hwait
      have f5 : a.eval (.tmp 27) = .pointer (some ⟨g, 0 + 0, none⟩) := by obtain ⟨_, _, _, h⟩ := F 5 (ws 5 (by simp)) (by decide); exact h
      replace hK : ∀ vv ww, bkNw3_X w0 g V j cv xs 2 ([v0] ++ [vv]) w1 ww → K a ww := hK
      obtain ⟨h1, h2, h3⟩ := hx
      obtain ⟨A', c', e', -, -⟩ := h1.row
      have hch : Chg (fun q => (Value.slice V j cv).ownBlock = some q) w1 w := Chg.grown h2 fun q hq => .inl hq
      have hbw : CellsAt w g #[.slice V j cv, .slice none 0 0, .int .i64 0, .int .i64 (-1), .bool false] 30 := (hbg.later hl0).chg hch (fun e => hvg e)
      refine o6.storeRL f5 (g4.trans e') hbw (by show 0 + 0 < 5; omega) (fun w' k1 k2 => hK undef _ ⟨w, h1, h2, h3, ?_, k2⟩)
      rw [e']
      exact k1
    | tq + 2, htq => simp at htq
  · intro a w1 w vals so hl F hvl hvs hx
    obtain ⟨v0, v1, rfl⟩ := len_two hvl
    exact hend a w1 w v0 v1 so hl  (hvs 0 4 v0 rfl rfl rfl) hx

end Go.Proofs.Ytaonfedjilfgjaa

/-
  Steps of a walk in its order: a slice of one array is built; an array is appended onto an own row.
-/
namespace Go.Proofs.Ytaonfedjilfgjaa
open Go.RowKit

section
variable {P : Program} {ops : Array Oper} {rest : List Oper} {o : Oper} {a : Act} {w w0 : World} {Q : Exit → Act → World → Prop}
theorem wpList_buildOne (hgd : o.guard = none) (x : Operand) (t e : TypeId) (cs : List Value) (ti : TypeInfo) (z : Value) (ho : o.op = .buildSlice t 1 #[(0, x)]) (hv : a.eval x = .agg cs.toArray) (ht : P.underlying t = some (.slice e)) (hi : P.info? e = some ti) (hz : ti.zero = some z) (hs : ti.size = cs.length) (hzs : z.cells.size = cs.length) (h0 : 0 < cs.length) (h1 : cs.length ≤ 16777216)
    (h : ∀ w', CellsAt w' w.heap.size cs.toArray e → Later w w' → wpList P ops Q rest (a.put o.dst (.slice (some ⟨w.heap.size, 0, none⟩) 1 1)) w') : wpList P ops Q (o :: rest) a w := by
  refine wpList_plain hgd fun K hK => ?_
  have hr : (execOp a.eval o).run P w = .ok (.value (.slice (some ⟨w.heap.size, 0, none⟩) 1 1)) (w.alloc (.cells cs.toArray e)) := by
    unfold execOp
    rw [ho]
    simp only [hv, List.map_toArray, List.map_cons, List.map_nil, Sem.run_bind, run_buildOne w t e ti z cs ht hi hz hs hzs h0 h1, Result.andThen_ok]
    rfl
  unfold Oper.wp
  rw [hr]
  exact hK _ _ (h _ (CellsAt.made w _ _) ((Later.refl w).alloc _))
theorem wpList_append_onek (hgd : o.guard = none) (s x : Operand) (t : TypeId) (ho : o.op = Op.call { callee := Callee.builtin Builtin.append, args := #[s, x], argTypes := #[t, t] })
    {e : TypeId} {k : Nat} {v : Value} {olds : List (List Value)} {cs : List Value} {gx c : Nat} (i : TypeInfo) (z : Value) (bytes : Nat) (ht : P.underlying t = some (.slice e)) (hi : P.info? e = some i) (hz : i.zero = some z) (hsize : i.size = k) (hby : i.bytes = bytes) (hzs : z.cells.size = k) (hk : 0 < k)
    (hs : a.eval s = v) (hx : a.eval x = .slice (some ⟨gx, 0, none⟩) 1 c) (hown : OwnK e k w0 w v olds) (hr : w.rangeAt gx 0 cs) (hcs : cs.length = k) (hone : ∀ u ∈ cs, u.oneCell' = true) (hb : olds.length + 1 ≤ 1000000) (hbb : bytes ≤ 1000)
    (h : ∀ v' w', OwnK e k w0 w' v' (olds ++ [cs]) → w.grownBy w' v.ownBlock → wpList P ops Q rest (a.put o.dst v') w') : wpList P ops Q (o :: rest) a w := by
  refine wpList_plain hgd fun K hK => ?_
  obtain ⟨v', w', hrun, h2, h3, _⟩ := run_append_one (P := P) (c := c) t o.type i z bytes ht hi hz hsize hby hzs hk hown hr hcs hone hb hbb
  unfold Oper.wp
  simp [execOp, ho, resolve, invoke, builtin, hs, hx, hrun, Result.andThen]
  exact hK _ _ (h v' w' h2 h3)
end
/-- A block appended onto an own row of blocks: built, and appended. -/
theorem wpList_block {ops : Array Oper} {rest : List Oper} {o p : Oper} {a : Act} {w w0 : World} {Q : Exit → Act → World → Prop} (hgd : o.guard = none) (hgd2 : p.guard = none) (x s : Operand) (k : Tmp) (ho : o.op = .buildSlice 27 1 #[(0, x)]) (hd : o.dst = some k) (hp : p.op = Op.call { callee := Callee.builtin Builtin.append, args := #[s, .tmp k], argTypes := #[27, 27] }) (b : Bs) (h64 : b.length = 64)
    {v : Value} {olds : List (List Value)} (hv : a.eval x = .agg (Lib.byteCells b).toArray) (hk : k < a.tmps.size) (hs : (a.put (some k) (.slice (some ⟨w.heap.size, 0, none⟩) 1 1)).eval s = v) (hown : OwnK 47 64 w0 w v olds) (hb : olds.length + 1 ≤ 1000000)
    (h : ∀ w1 v' w', Later w w1 → OwnK 47 64 w0 w' v' (olds ++ [Lib.byteCells b]) → w1.grownBy w' v.ownBlock → wpList Try.prog ops Q rest ((a.put (some k) (.slice (some ⟨w.heap.size, 0, none⟩) 1 1)).put p.dst v') w') : wpList Try.prog ops Q (o :: p :: rest) a w := by
  obtain ⟨i0, hi0, hz0, hz1, hz2⟩ := info_parts Try.rblockInfo
  have hl : (Lib.byteCells b).length = 64 := (bc_len _).trans h64
  have hzs : (Value.agg (Lib.byteCells (zeros 64)).toArray).cells.size = 64 := by simp only [Value.cells, List.size_toArray]; rw [bc_len]; exact zeros_length 64
  refine wpList_buildOne hgd x _ _ (Lib.byteCells b) i0 _ ho hv Try.underlying27 hi0 hz0 (hz1.trans hl.symm) (hzs.trans hl.symm) (by omega) (by omega) fun w1 hc1 hl1 => ?_
  rw [hd]
  refine wpList_append_onek hgd2 s (.tmp k) _ hp (gx := w.heap.size) (c := 1) (cs := Lib.byteCells b) i0 _ 64 Try.underlying27 hi0 hz0 hz1 hz2 hzs (by decide) hs (eval_put_same' a k _ hk) (hown.on hl1) (hc1.range (o := 0) (fun j u hj => by rw [Nat.zero_add, List.getElem?_toArray]; exact hj)) hl (bc_one _) hb (by decide) fun v' w' h2 h3 => ?_
  exact h w1 v' w' hl1 h2 h3

end Go.Proofs.Ytaonfedjilfgjaa
