/-
  The reference's states; At, as a call.
-/
import Derived.Test.YtknjkkdoeanhbaaBkRef1
namespace Go.Proofs.Ytknjkkdoeanhbaa
open Go.RowKit

/-- A state of the reference. -/
structure StP where
  l : List Bs
  row : List (Int × Bs)
  ops : Nat
  fuse : Int
  down : Bool
def rowC (x : Int × Bs) : List Value := .int .i64 x.1 :: Lib.byteCells x.2
structure StAt (w : World) (A : Option Addr) (n : Nat) (B : Option Addr) (m : Nat) (s : StP) : Prop where
  l : RowK 64 w A n (s.l.map Lib.byteCells)
  row : RowK 65 w B m (s.row.map rowC)
  sz : ∀ b ∈ s.l, b.length = 64
  rz : ∀ x ∈ s.row, x.2.length = 64
def foldR (k : Int) (b0 : Bs) (row : List (Int × Bs)) : Bs := row.foldl (fun b x => if x.1 = k then x.2 else b) b0
def atR (s : StP) (k : Nat) : Bs := foldR k (s.l.getD k []) s.row
theorem foldR_take {k : Int} {b0 : Bs} {row : List (Int × Bs)} {i : Nat} {x : Int × Bs} (hx : row[i]? = some x) : foldR k b0 (row.take (i + 1)) = if x.1 = k then x.2 else foldR k b0 (row.take i) := by
  rw [List.take_add_one, hx]
  unfold foldR
  rw [List.foldl_append]
  rfl
theorem foldR_length {k : Int} {b0 : Bs} (h0 : b0.length = 64) : ∀ (row : List (Int × Bs)), (∀ x ∈ row, x.2.length = 64) → (foldR k b0 row).length = 64 := by
  intro row
  induction row generalizing b0 with
  | nil => intro _; exact h0
  | cons x row ih =>
    intro h
    unfold foldR
    rw [List.foldl_cons]
    refine ih ?_ fun y hy => h y (List.mem_cons_of_mem _ hy)
    split
    · exact h x (List.mem_cons_self ..)
    · exact h0
section
variable {w w' : World} {A B : Option Addr} {n m : Nat} {s : StP}
theorem StAt.later (h : StAt w A n B m s) (hl : Later w w') : StAt w' A n B m s := ⟨h.l.later hl, h.row.later hl, h.sz, h.rz⟩
theorem StAt.len (h : StAt w A n B m s) : s.l.length = n := by have := h.l.len; simpa using this
theorem StAt.rlen (h : StAt w A n B m s) : s.row.length = m := by have := h.row.len; simpa using this
theorem StAt.getL (h : StAt w A n B m s) {k : Nat} (hk : k < n) : ∃ b o, A = some ⟨b, o, .none⟩ ∧ w.rangeAt b (o + k * 64) (Lib.byteCells (s.l.getD k [])) ∧ (s.l.getD k []).length = 64 := by
  obtain ⟨b, o, e, cs, hcs, _, hc⟩ := h.l.get hk
  have hkl : k < s.l.length := by rw [h.len]; exact hk
  have hz : s.l[k]? = some s.l[k] := List.getElem?_eq_getElem hkl
  rw [List.getElem?_map, hz] at hcs
  cases hcs
  refine ⟨b, o, e, ?_, ?_⟩
  · simp only [List.getD, hz, Option.getD_some]
    exact fun i v hi => hc i v hi
  · simp only [List.getD, hz, Option.getD_some]
    exact h.sz _ (List.getElem_mem hkl)
theorem StAt.getR (h : StAt w A n B m s) {k : Nat} (hk : k < m) : ∃ b o x, B = some ⟨b, o, .none⟩ ∧ s.row[k]? = some x ∧ w.cell? ⟨b, o + k * 65, .none⟩ = some (.int .i64 x.1) ∧ w.rangeAt b (o + k * 65 + 1) (Lib.byteCells x.2) ∧ x.2.length = 64 := by
  obtain ⟨b, o, e, cs, hcs, _, hc⟩ := h.row.get hk
  have hkl : k < s.row.length := by rw [h.rlen]; exact hk
  have hz : s.row[k]? = some s.row[k] := List.getElem?_eq_getElem hkl
  rw [List.getElem?_map, hz] at hcs
  cases hcs
  refine ⟨b, o, s.row[k], e, hz, hc 0 _ rfl, fun i v hi => ?_, h.rz _ (List.getElem_mem hkl)⟩
  have := hc (i + 1) v (by unfold rowC; rw [List.getElem?_cons_succ]; exact hi)
  rw [show o + k * 65 + 1 + i = o + k * 65 + (i + 1) by omega]
  exact this
theorem StAt.atR_length (h : StAt w A n B m s) {k : Nat} (hk : k < n) : (atR s k).length = 64 := by
  obtain ⟨_, _, _, _, h1⟩ := h.getL hk
  exact foldR_length h1 _ h.rz
set_option maxRecDepth 100000 in
set_option maxHeartbeats 800000 in
theorem at_any (h : StAt w A n B m s) (hm : m ≤ 1000000) (k : Nat) (hk : k < n) (_hn : n ≤ 1000000) (c e : Nat) :
    Calls Try.prog 34 #[.agg #[.slice A n c, .slice B m e, .int .i64 (s.ops : Nat), .int .i64 s.fuse, .bool s.down], .int .i64 (k : Nat)] w fun e w' => e = .returned (.agg (Lib.byteCells (atR s k)).toArray) ∧ Later w w' := by
  have HH := Lib.hid h
  clear h
  go_enter Try.func34, Try.ntmps34
  go_wp2_with (with_reducible show wpList _ _ _ ({ dst := some 4, op := Op.alloc _, type := _, pos := _, after := _, guard := _ } :: _) _ _; refine Hid.out ?_)
  refine Lib.hid (wpList_alloc_new rfl _ rfl _ Try.rblockZero ?_)
  intro w1 hc1 hl1 hs1
  have hcb := (CellsAt.made w #[.slice A n c, .slice B m e, .int .i64 (s.ops : Nat), .int .i64 s.fuse, .bool s.down] 30).later hl1
  have hl0 : Later w w1 := ((Later.refl w).alloc _).trans hl1
  have hsz : (w.alloc (.cells #[.slice A n c, .slice B m e, .int .i64 (s.ops : Nat), .int .i64 s.fuse, .bool s.down] 30)).heap.size = w.heap.size + 1 := World.size_alloc _ _
  rw [hsz] at hc1 ⊢
  have q0 : w1.cell? ⟨w.heap.size, 0, none⟩ = some (.slice A n c) := hcb.cell rfl
  have q1 : w1.cell? ⟨w.heap.size, 1, none⟩ = some (.slice B m e) := hcb.cell rfl
  have HC1 := Lib.hid hc1; have HL0 := Lib.hid hl0
  clear hc1 hl1 hs1 hcb hl0 hsz
  go_wp2
  go_loopg [5] (m + 1) (fun g0 s5 wr => ∃ (j : Nat) (z : Int), j ≤ m ∧ j ≤ g0 ∧ s5 = .int .i64 z ∧ z = (j : Int) - 1 ∧ Hid (foldR (k : Int) (s.l.getD k []) (s.row.take j) = atR s k) ∧ wr = w1)
  case atStart => exact ⟨m, (m : Int) - 1, Nat.le_refl _, by omega, by go_num, rfl, (by show foldR _ _ (s.row.take m) = _; rw [← HH.out.rlen, List.take_length]; rfl), rfl⟩
  case round =>
    obtain ⟨j, z, hj, hg, rfl, hz, hr, rfl⟩ := hrel
    by_cases hj0 : j = 0
    · subst hj0
      obtain rfl : z = -1 := by omega
      clear hz
      have hrt : Hid (atR s k = s.l.getD k []) := hr.out.symm
      obtain ⟨b, o, rfl, hrg, hll⟩ := (HH.out.later HL0.out).getL hk
      have HRG : Hid (wr.rangeAt b (o + k * 64) (Lib.byteCells (s.l.getD k []))) := hrg
      have HLL : Hid (List.length (s.l.getD k []) = 64) := hll
      go_wp2_with (with_reducible show wpList _ _ _ ({ dst := some 32, op := Op.load 55 _, type := _, pos := _, after := _, guard := _ } :: _) _ _; refine Hid.out ?_)
      refine Lib.hid (wpList_load_mid rfl _ _ rfl b (o + k * 64) rfl (Lib.byteCells (s.l.getD k [])) _ HRG.out Try.underlying55 rfl (by rw [bc_len, HLL.out]; exact Try.rblockSize) ?_)
      refine wpList_store_mids rfl rfl _ _ _ rfl (w.heap.size + 1) 0 (Lib.byteCells (s.l.getD k [])) rfl rfl (HC1.out.there (by simp only [Value.cells, List.size_toArray]; rw [bc_len, bc_len, HLL.out]; decide)) (by rw [bc_len, HLL.out]; exact Try.rblockSize) (bc_one _) ?_
      intro w9 hw9
      have hc9 : CellsAt w9 (w.heap.size + 1) (Lib.byteCells (s.l.getD k [])).toArray 55 := by
        have := HC1.out.sets (Lib.byteCells (s.l.getD k [])) (o := 0)
        rw [set_all (by simp only [Value.cells, List.size_toArray]; rw [bc_len, bc_len, HLL.out]; rfl)] at this
        rw [hw9]
        exact this
      have hl9 : Later w w9 := by
        rw [hw9]
        exact (sets_chg (g := w.heap.size + 1) (Lib.byteCells (s.l.getD k [])) wr 0).low HL0.out (fun q hq => by rw [hq]; exact Nat.le_succ _)
      have HC9 := Lib.hid hc9; have HL9 := Lib.hid hl9
      clear hc9 hl9 hw9 HC1 HL0
      refine Lib.hid ?_
      go_wp2
      refine bodyPost_ret (results_cell_row rfl _ _ (w.heap.size + 1) _ _ _ _ rfl HC9.out Try.underlying55 rfl (by simp only [List.size_toArray]; rw [bc_len, HLL.out]; exact Try.rblockSize)) rfl ?_
      exact ⟨by rw [hrt.out], HL9.out⟩
    · obtain ⟨i, rfl⟩ : ∃ i, j = i + 1 := ⟨j - 1, by omega⟩
      obtain rfl : z = (i : Nat) := by omega
      clear hz
      obtain ⟨b, o, x, rfl, hx, hxk, hrg, hll⟩ := (HH.out.later HL0.out).getR (k := i) (by omega)
      have hr2 := hr.out
      rw [foldR_take hx] at hr2
      by_cases he : x.1 = (k : Int)
      · rw [if_pos he] at hr2
        have hrt : Hid (atR s k = x.2) := hr2.symm
        clear hr2 hx hr
        have HRG : Hid (wr.rangeAt b (o + i * 65 + 1) (Lib.byteCells x.2)) := hrg
        have HLL : Hid (List.length x.2 = 64) := hll
        go_wp2_with (with_reducible show wpList _ _ _ ({ dst := some 27, op := Op.load 55 _, type := _, pos := _, after := _, guard := _ } :: _) _ _; refine Hid.out ?_)
        refine Lib.hid (wpList_load_mid rfl _ _ rfl b (o + i * 65 + 1) rfl (Lib.byteCells x.2) _ HRG.out Try.underlying55 rfl (by rw [bc_len, HLL.out]; exact Try.rblockSize) ?_)
        refine wpList_store_mids rfl rfl _ _ _ rfl (w.heap.size + 1) 0 (Lib.byteCells x.2) rfl rfl (HC1.out.there (by simp only [Value.cells, List.size_toArray]; rw [bc_len, bc_len, HLL.out]; decide)) (by rw [bc_len, HLL.out]; exact Try.rblockSize) (bc_one _) ?_
        intro w9 hw9
        have hc9 : CellsAt w9 (w.heap.size + 1) (Lib.byteCells x.2).toArray 55 := by
          have := HC1.out.sets (Lib.byteCells x.2) (o := 0)
          rw [set_all (by simp only [Value.cells, List.size_toArray]; rw [bc_len, bc_len, HLL.out]; rfl)] at this
          rw [hw9]
          exact this
        have hl9 : Later w w9 := by
          rw [hw9]
          exact (sets_chg (g := w.heap.size + 1) (Lib.byteCells x.2) wr 0).low HL0.out (fun q hq => by rw [hq]; exact Nat.le_succ _)
        have HC9 := Lib.hid hc9; have HL9 := Lib.hid hl9
        clear hc9 hl9 hw9 HC1 HL0
        refine Lib.hid ?_
        go_wp2
        refine bodyPost_ret (results_cell_row rfl _ _ (w.heap.size + 1) _ _ _ _ rfl HC9.out Try.underlying55 rfl (by simp only [List.size_toArray]; rw [bc_len, HLL.out]; exact Try.rblockSize)) rfl ?_
        exact ⟨by rw [hrt.out], HL9.out⟩
      · rw [if_neg he] at hr2
        have HR2 : Hid (foldR (k : Int) (s.l.getD k []) (s.row.take i) = atR s k) := hr2
        clear hr2 hx hr hrg
        go_wp2
        go_roundg (i)
        case measure => omega
        case rel => exact ⟨i, (i : Int) - 1, by omega, Nat.le_refl _, by go_num, rfl, HR2, rfl⟩
end

end Go.Proofs.Ytknjkkdoeanhbaa
