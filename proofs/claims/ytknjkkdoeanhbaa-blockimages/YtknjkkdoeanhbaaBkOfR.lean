/-
  The statement of Of that draws its order.
-/
import Derived.Test.YtknjkkdoeanhbaaBkRg
namespace Go.Proofs.Ytknjkkdoeanhbaa
open Go.RowKit

theorem Try.rblockInfo : (Try.prog.info? 55).map (fun i => (i.zero, i.size, i.bytes)) = some (some (.agg (Lib.byteCells (zeros 64)).toArray), 64, 64) := by kernel_rfl
def bkOf3_p8 (bs : Bs) (j : Nat) (v : Value) (w : World) : Prop := ∃ b : Nat, v = .slice (some ⟨b, 0, none⟩) 1 1 ∧ CellsAt w b (Lib.byteCells (fromB bs (64 * j))).toArray 55
def bkOf3_R (g : Nat) (A : Option Addr) (n : Nat) (c : Nat) (bs : Bs) (V : Option Addr) (j : Nat) (cv : Nat) : Nat → Value → World → Prop
  | 0, v, _ => v = .pointer (some ⟨g, 0 + 0, none⟩)
  | 1, v, _ => v = .slice V j cv
  | 2, v, _ => v = .slice A n c
  | 3, v, _ => v = .pointer (some ⟨g, 0 + 0, none⟩)
  | 4, v, _ => v = .slice V j cv
  | 5, v, _ => v = .int .i64 (j : Nat)
  | 6, v, _ => v = .int .i64 (64 * j : Nat)
  | 7, v, _ => v = .agg (Lib.byteCells (fromB bs (64 * j))).toArray
  | 8, v, w => bkOf3_p8 bs j v w
  | 9, _, _ => True
  | 10, v, _ => v = .pointer (some ⟨g, 0 + 0, none⟩)
  | 11, _, _ => True
  | _, _, _ => True
def bkOf3_X (w0 : World) (g : Nat) (bs : Bs) (V : Option Addr) (j : Nat) (cv : Nat) (xs : List (List Value)) : Nat → List Value → World → World → Prop
  | 0, _, w1, w => w = w1
  | 1, [v0], w1, w => OwnK 55 64 w0 w v0 (xs ++ [Lib.byteCells (fromB bs (64 * j))]) ∧ w1.grownBy w (Value.slice V j cv).ownBlock ∧ (v0.ownBlock = (Value.slice V j cv).ownBlock ∨ v0.ownBlock = some w1.heap.size)
  | 2, [v0, _], w1, w => ∃ wm : World, OwnK 55 64 w0 wm v0 (xs ++ [Lib.byteCells (fromB bs (64 * j))]) ∧ w1.grownBy wm (Value.slice V j cv).ownBlock ∧ (v0.ownBlock = (Value.slice V j cv).ownBlock ∨ v0.ownBlock = some w1.heap.size) ∧ CellsAt w g #[v0, .slice none 0 0, .int .i64 0, .int .i64 (-1), .bool false] 30 ∧ Chg (fun q => q = g) wm w
  | _, _, _, _ => False
set_option maxRecDepth 100000 in
set_option maxHeartbeats 1600000 in
theorem bkOf3 {ops : Array Oper} (hn : ops.size = 12) (hg : goesBack ops = true)
    (o0 : OpIs ops 0 (.fieldAddr 30 (.tmp 3) 0) (some 24) [])
    (o1 : OpIs ops 1 (.load 27 (.tmp 24)) (some 25) [0])
    (o2 : OpIs ops 2 (.move (.tmp 0)) (some 26) [])
    (o3 : OpIs ops 3 (.fieldAddr 30 (.tmp 3) 0) (some 27) [])
    (o4 : OpIs ops 4 (.load 27 (.tmp 27)) (some 28) [3])
    (o5 : OpIs ops 5 (.call { callee := .builtin .len, args := #[.tmp 28], argTypes := #[27] }) (some 29) [4])
    (o6 : OpIs ops 6 (.binOp .mul 3 (.const (.int .i64 64)) (.tmp 29) 3) (some 30) [5])
    (o7 : OpIs ops 7 (.call { callee := .value (.func 35), args := #[.tmp 26, .tmp 30], argTypes := #[33, 3] }) (some 31) [2, 6])
    (o8 : OpIs ops 8 (.buildSlice 27 1 #[(0, .tmp 31)]) (some 32) [7])
    (o9 : OpIs ops 9 (.call { callee := .builtin .append, args := #[.tmp 25, .tmp 32], argTypes := #[27, 27] }) (some 33) [1, 7, 8])
    (o10 : OpIs ops 10 (.fieldAddr 30 (.tmp 3) 0) (some 34) [0, 1, 2, 3, 4, 5, 6, 7, 8, 9])
    (o11 : OpIs ops 11 (.store 27 (.tmp 34) (.tmp 33)) none [0, 1, 2, 3, 4, 5, 6, 7, 8, 9, 10])
    {a1 : Act} (hs : 36 ≤ a1.tmps.size) {wx : World} {w0 : World} {g : Nat} {A : Option Addr} {n c : Nat} {bs : Bs} {V : Option Addr} {j cv : Nat} {xs : List (List Value)} (e0 : a1.eval (.tmp 0) = .slice A n c) (e3 : a1.eval (.tmp 3) = .pointer (some ⟨g, 0, none⟩)) (hc0 : wx.cell? ⟨g, 0 + 0, none⟩ = some (.slice V j cv)) (hbs : BsAt wx A n bs) (hnn : n ≤ 1000000) (hjj : j ≤ 4096) (hlen : (Lib.byteCells (fromB bs (64 * j))).length = 64) (how : OwnK 55 64 w0 wx (.slice V j cv) xs) (hxl : xs.length ≤ 900000) (hbg : CellsAt wx g #[.slice V j cv, .slice none 0 0, .int .i64 0, .int .i64 (-1), .bool false] 30) (hvg : (Value.slice V j cv).ownBlock ≠ some g)
    {Q : Exit → Act → World → Prop} {id : Nat} (hend : ∀ (a : Act) (w1 w : World) (v0 v1 : Value), SameOut a1 a [24, 25, 26, 27, 28, 29, 30, 31, 32, 33, 34] → Later wx w1 → a.eval (.tmp 33) = v0 → bkOf3_X w0 g bs V j cv xs 2 [v0, v1] w1 w → Q .normal a w) :
    (Code.region id ops true).wp Try.prog Q a1 wx := by
  refine region_turns (n := 12) (by kernel_rfl) hg hn [24, 25, 26, 27, 28, 29, 30, 31, 32, 33, 34, 1011] (by decide +kernel) rfl [24, 25, 26, 27, 28, 29, 30, 31, 32, 33, 34] (fun i => decide (i = 9) || decide (i = 11)) (fun i => decide (i = 0) || decide (i = 2) || decide (i = 3) || decide (i = 6) || decide (i = 10)) (fun i => !decide (i = 11)) [9, 11] ?_ ?_ (bkOf3_R g A n c bs V j cv) (bkOf3_X w0 g bs V j cv xs) ?_ ?_ (by decide) ?_ ?_ ?_ ?_ (fun _ _ _ => Iff.rfl) ?_ ?_ ?_ ?_
  · intro i hi hs'
    have hc : i = 0 ∨ i = 1 ∨ i = 2 ∨ i = 3 ∨ i = 4 ∨ i = 5 ∨ i = 6 ∨ i = 7 ∨ i = 8 ∨ i = 9 ∨ i = 10 ∨ i = 11 := by omega
    rcases hc with rfl | rfl | rfl | rfl | rfl | rfl | rfl | rfl | rfl | rfl | rfl | rfl
    · decide
    · decide
    · decide
    · decide
    · decide
    · decide
    · decide
    · decide
    · decide
    · decide
    · decide
    · cases hs'
  · intro i hi hs'
    have hc : i = 0 ∨ i = 1 ∨ i = 2 ∨ i = 3 ∨ i = 4 ∨ i = 5 ∨ i = 6 ∨ i = 7 ∨ i = 8 ∨ i = 9 ∨ i = 10 ∨ i = 11 := by omega
    rcases hc with rfl | rfl | rfl | rfl | rfl | rfl | rfl | rfl | rfl | rfl | rfl | rfl
    · show (24 : Nat) < _; omega
    · show (25 : Nat) < _; omega
    · show (26 : Nat) < _; omega
    · show (27 : Nat) < _; omega
    · show (28 : Nat) < _; omega
    · show (29 : Nat) < _; omega
    · show (30 : Nat) < _; omega
    · show (31 : Nat) < _; omega
    · show (32 : Nat) < _; omega
    · show (33 : Nat) < _; omega
    · show (34 : Nat) < _; omega
    · cases hs'
  · intro i hi
    simp only [Bool.or_eq_true, decide_eq_true_eq] at hi
    rcases hi with rfl | rfl
    · decide
    · decide
  · intro i hi
    simp only [List.mem_cons, List.not_mem_nil, or_false] at hi
    rcases hi with rfl | rfl
    · decide
    · decide
  · intro i hi hT
    have hc : i = 0 ∨ i = 1 ∨ i = 2 ∨ i = 3 ∨ i = 4 ∨ i = 5 ∨ i = 6 ∨ i = 7 ∨ i = 8 ∨ i = 9 ∨ i = 10 ∨ i = 11 := by omega
    rcases hc with rfl | rfl | rfl | rfl | rfl | rfl | rfl | rfl | rfl | rfl | rfl | rfl
    · rfl
    · rfl
    · rfl
    · rfl
    · rfl
    · rfl
    · rfl
    · rfl
    · rfl
    · rfl
    · rfl
    · cases hT
  · intro l dn i hi h k hk hp hT
    simp only [List.mem_cons, List.not_mem_nil, or_false] at hi
    rcases hi with rfl | rfl
    · have c1 := o9.back dn h 1 (by simp)
      have c7 := o9.back dn h 7 (by simp)
      have c8 := o9.back dn h 8 (by simp)
      have c0 := o1.back dn c1 0 (by simp)
      have c2 := o7.back dn c7 2 (by simp)
      have c6 := o7.back dn c7 6 (by simp)
      have c5 := o6.back dn c6 5 (by simp)
      have c4 := o5.back dn c5 4 (by simp)
      have c3 := o4.back dn c4 3 (by simp)
      have hc : k = 0 ∨ k = 1 ∨ k = 2 ∨ k = 3 ∨ k = 4 ∨ k = 5 ∨ k = 6 ∨ k = 7 ∨ k = 8 ∨ k = 9 ∨ k = 10 ∨ k = 11 := by omega
      rcases hc with rfl | rfl | rfl | rfl | rfl | rfl | rfl | rfl | rfl | rfl | rfl | rfl
      · cases hp
      · exact c1
      · cases hp
      · cases hp
      · exact c4
      · exact c5
      · cases hp
      · exact c7
      · exact c8
      · cases hT
      · cases hp
      · cases hT
    · have c0 := o11.back dn h 0 (by simp)
      have c1 := o11.back dn h 1 (by simp)
      have c2 := o11.back dn h 2 (by simp)
      have c3 := o11.back dn h 3 (by simp)
      have c4 := o11.back dn h 4 (by simp)
      have c5 := o11.back dn h 5 (by simp)
      have c6 := o11.back dn h 6 (by simp)
      have c7 := o11.back dn h 7 (by simp)
      have c8 := o11.back dn h 8 (by simp)
      have c9 := o11.back dn h 9 (by simp)
      have c10 := o11.back dn h 10 (by simp)
      have hc : k = 0 ∨ k = 1 ∨ k = 2 ∨ k = 3 ∨ k = 4 ∨ k = 5 ∨ k = 6 ∨ k = 7 ∨ k = 8 ∨ k = 9 ∨ k = 10 ∨ k = 11 := by omega
      rcases hc with rfl | rfl | rfl | rfl | rfl | rfl | rfl | rfl | rfl | rfl | rfl | rfl
      · cases hp
      · exact c1
      · cases hp
      · cases hp
      · exact c4
      · exact c5
      · cases hp
      · exact c7
      · exact c8
      · cases hT
      · cases hp
      · cases hT
  · intro l dn t i i' h1 h2 h
    match t, h1, h2 with
    | 0, h1, h2 => cases h1; cases h2; have c0 := o11.back dn h 0 (by simp); have c1 := o11.back dn h 1 (by simp); have c2 := o11.back dn h 2 (by simp); have c3 := o11.back dn h 3 (by simp); have c4 := o11.back dn h 4 (by simp); have c5 := o11.back dn h 5 (by simp); have c6 := o11.back dn h 6 (by simp); have c7 := o11.back dn h 7 (by simp); have c8 := o11.back dn h 8 (by simp); have c9 := o11.back dn h 9 (by simp); have c10 := o11.back dn h 10 (by simp); exact c9
    | t + 1, h1, h2 => simp at h2
  · intro i hi v w
    simp only [Bool.or_eq_true, decide_eq_true_eq] at hi
    rcases hi with rfl | rfl
    · trivial
    · trivial
  · intro l a w i o K ho hi hp hT hwait so hl0 F hK
    have hc : i = 0 ∨ i = 1 ∨ i = 2 ∨ i = 3 ∨ i = 4 ∨ i = 5 ∨ i = 6 ∨ i = 7 ∨ i = 8 ∨ i = 9 ∨ i = 10 ∨ i = 11 := by omega
    rcases hc with rfl | rfl | rfl | rfl | rfl | rfl | rfl | rfl | rfl | rfl | rfl | rfl
    · cases hp
    · have ws := o1.waits ho hwait
      have f0 : a.eval (.tmp 24) = .pointer (some ⟨g, 0 + 0, none⟩) := by obtain ⟨_, _, _, h⟩ := F 0 (ws 0 (by simp)) (by decide); exact h
      refine o1.loadRL f0 (Later.cell hl0 hc0) ?_
      exact hK _ _ (Later.refl w) rfl
    · cases hp
    · cases hp
    · have ws := o4.waits ho hwait
      have f3 : a.eval (.tmp 27) = .pointer (some ⟨g, 0 + 0, none⟩) := by obtain ⟨_, _, _, h⟩ := F 3 (ws 3 (by simp)) (by decide); exact h
      refine o4.loadRL f3 (Later.cell hl0 hc0) ?_
      exact hK _ _ (Later.refl w) rfl
    · have ws := o5.waits ho hwait
      have f4 : a.eval (.tmp 28) = .slice V j cv := by obtain ⟨_, _, _, h⟩ := F 4 (ws 4 (by simp)) (by decide); exact h
      refine o5.lenRL f4 ?_
      exact hK _ _ (Later.refl w) rfl
    · cases hp
    · have ws := o7.waits ho hwait
      have f2 : a.eval (.tmp 26) = .slice A n c := by obtain ⟨_, _, _, h⟩ := F 2 (ws 2 (by simp)) (by decide); exact h
      have f6 : a.eval (.tmp 30) = .int .i64 (64 * j : Nat) := by obtain ⟨_, _, _, h⟩ := F 6 (ws 6 (by simp)) (by decide); exact h
      refine o7.call2 (enters_of Try.func35 (by kernel_rfl) rfl) f2 f6 (fill_any A n c bs (64 * j) w (hbs.later hl0) (by omega) (by omega)) ?_
      rintro e w' ⟨rfl, hl'⟩
      exact ⟨_, rfl, hK _ _ hl' rfl⟩
    · have ws := o8.waits ho hwait
      have f7 : a.eval (.tmp 31) = .agg (Lib.byteCells (fromB bs (64 * j))).toArray := by obtain ⟨_, _, _, h⟩ := F 7 (ws 7 (by simp)) (by decide); exact h
      obtain ⟨i0, hi0, hz0, hz1, hz2⟩ := info_parts Try.rblockInfo
      refine o8.buildOne i0 _ f7 Try.underlying27 hi0 hz0 (hz1.trans hlen.symm) (by simp only [Value.cells, List.size_toArray]; rw [bc_len]; exact (zeros_length 64).trans hlen.symm) (by omega) (by omega) ?_
      exact hK _ _ ((Later.refl w).alloc _) ⟨_, rfl, CellsAt.made w _ _⟩
    · cases hT
    · cases hp
    · cases hT
  · intro l a w w1 i o K ho hi hp hwait so hl0 F hK
    have hc : i = 0 ∨ i = 1 ∨ i = 2 ∨ i = 3 ∨ i = 4 ∨ i = 5 ∨ i = 6 ∨ i = 7 ∨ i = 8 ∨ i = 9 ∨ i = 10 ∨ i = 11 := by omega
    rcases hc with rfl | rfl | rfl | rfl | rfl | rfl | rfl | rfl | rfl | rfl | rfl | rfl
    · refine o0.fieldSt (by omega) ((show _ = a1.eval _ from by simp only [Act.eval, Array.getD_eq_getD_getElem?, so.out 3 (by decide)]).trans e3) ?_
      exact hK _ rfl
    · cases hp
    · refine o2.move ?_
      rw [show a.eval (.tmp 0) = .slice A n c from ((show _ = a1.eval _ from by simp only [Act.eval, Array.getD_eq_getD_getElem?, so.out 0 (by decide)]).trans e0)]
      exact hK _ rfl
    · refine o3.fieldSt (by omega) ((show _ = a1.eval _ from by simp only [Act.eval, Array.getD_eq_getD_getElem?, so.out 3 (by decide)]).trans e3) ?_
      exact hK _ rfl
    · cases hp
    · cases hp
    · have ws := o6.waits ho hwait
      have f5 : a.eval (.tmp 29) = .int .i64 (j : Nat) := by obtain ⟨_, _, _, h⟩ := F 5 (ws 5 (by simp)) (by decide); exact h
      refine o6.mulC (by omega) f5 ?_
      exact hK _ rfl
    · cases hp
    · cases hp
    · cases hp
    · refine o10.fieldSt (by omega) ((show _ = a1.eval _ from by simp only [Act.eval, Array.getD_eq_getD_getElem?, so.out 3 (by decide)]).trans e3) ?_
      exact hK _ rfl
    · cases hp
  · intro l a w1 w tq iq o vals K htq ho hwait so hl0 F hvl hvs hx hK
    match tq, htq with
    | 0, htq =>
      cases htq
      have hv0 := List.eq_nil_of_length_eq_zero hvl
      subst hv0
      have hw : w = w1 := hx
      subst hw
      have ws := o9.waits ho hwait
      have f1 : a.eval (.tmp 25) = .slice V j cv := by obtain ⟨_, _, _, h⟩ := F 1 (ws 1 (by simp)) (by decide); exact h
      obtain ⟨x8, y8, z8, f8⟩ := F 8 (ws 8 (by simp)) (by decide)
      replace hK : ∀ vv ww, bkOf3_X w0 g bs V j cv xs 1 ([] ++ [vv]) w ww → K (a.put (some 33) vv) ww := hK
      obtain ⟨b, fe, hr⟩ := f8
      obtain ⟨i0, hi0, hz0, hz1, hz2⟩ := info_parts Try.rblockInfo
      refine o9.appendD f1 fe fun ty => ?_
      obtain ⟨v', w', hrun, h1, h2, h3⟩ := run_append_one (P := Try.prog) (c := 1) 27 ty i0 _ 64 Try.underlying27 hi0 hz0 hz1 hz2 (by simp only [Value.cells, List.size_toArray]; rw [bc_len]; exact zeros_length 64) (by decide) (how.on hl0) ((hr.later z8).range (o := 0) (fun j u hj => by rw [Nat.zero_add, List.getElem?_toArray]; exact hj)) hlen (bc_one _) (by omega) (by decide)
      exact ⟨v', w', hrun, hK _ _ ⟨h1, h2, h3⟩⟩
    | 1, htq =>
      cases htq
      obtain ⟨v0, rfl⟩ := List.length_eq_one_iff.1 hvl
      have g9 : a.eval (.tmp 33) = v0 := hvs 0 9 v0 rfl rfl rfl
      have ws := o11.waits ho hwait
      have f10 : a.eval (.tmp 34) = .pointer (some ⟨g, 0 + 0, none⟩) := by obtain ⟨_, _, _, h⟩ := F 10 (ws 10 (by simp)) (by decide); exact h
      replace hK : ∀ vv ww, bkOf3_X w0 g bs V j cv xs 2 ([v0] ++ [vv]) w1 ww → K a ww := hK
      obtain ⟨h1, h2, h3⟩ := hx
      obtain ⟨A', c', e', -, -⟩ := h1.row
      have hch : Chg (fun q => (Value.slice V j cv).ownBlock = some q) w1 w := Chg.grown h2 fun q hq => .inl hq
      have hbw : CellsAt w g #[.slice V j cv, .slice none 0 0, .int .i64 0, .int .i64 (-1), .bool false] 30 := (hbg.later hl0).chg hch (fun e => hvg e)
      refine o11.storeRL f10 (g9.trans e') hbw (by show 0 + 0 < 5; omega) (fun w' k1 k2 => hK undef _ ⟨w, h1, h2, h3, ?_, k2⟩)
      rw [e']
      exact k1
    | tq + 2, htq => simp at htq
  · intro a w1 w vals so hl F hvl hvs hx
    obtain ⟨v0, v1, rfl⟩ := len_two hvl
    exact hend a w1 w v0 v1 so hl  (hvs 0 9 v0 rfl rfl rfl) hx

end Go.Proofs.Ytknjkkdoeanhbaa
