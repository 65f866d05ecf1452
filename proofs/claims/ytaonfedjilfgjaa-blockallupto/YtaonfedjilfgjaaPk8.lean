import Derived.RangeFuncNested
import Derived.RangeFuncBound
import Derived.RangeFuncCalls
import Derived.RangeFuncLeaves
import Derived.Shelf.Abstract
import Derived.Shelf.RegionOpen
import Derived.OwnWalkIn
import Derived.TacticsInMore
import Derived.LoopNIn
import Derived.LoopIn
import Derived.Test.YtaonfedjilfgjaaPk4
import Derived.Test.YtaonfedjilfgjaaPk7
import Derived.Lib.Hide
import Derived.Test.YtaonfedjilfgjaaPk5
import Derived.Test.YtaonfedjilfgjaaPk6

/-
  slices.Backward at a row of writes: what its closure hands on, round by round.
-/
namespace Go.Proofs.Ytaonfedjilfgjaa
open Go.RowKit
attribute [local go_sem] Oper.semAt_some

def zeroW : WrP := ⟨0, [], []⟩
/-- The rounds: the last place first. -/
def roundsW (xs : List WrP) : List (Nat × WrP) := ((List.range xs.length).map fun j => (j, xs.getD j zeroW)).reverse
theorem roundsW_length (xs : List WrP) : (roundsW xs).length = xs.length := by simp [roundsW]
theorem roundsW_at {xs : List WrP} {k : Nat} {z : Nat × WrP} (h : (roundsW xs)[k]? = some z) : z.1 + k + 1 = xs.length ∧ xs[z.1]? = some z.2 := by
  have hk : k < xs.length := by have := (List.getElem?_eq_some_iff.1 h).1; rwa [roundsW_length] at this
  unfold roundsW at h
  rw [List.getElem?_reverse (by simpa using hk)] at h
  simp only [List.length_map, List.length_range, List.getElem?_map] at h
  rw [List.getElem?_range (by omega)] at h
  simp only [Option.map_some, Option.some.injEq] at h
  subst h
  dsimp only
  refine ⟨by omega, ?_⟩
  rw [List.getD, List.getElem?_eq_getElem (by omega)]
  rfl
theorem roundsW_get {xs : List WrP} {j k : Nat} {x : WrP} (h : xs[j]? = some x) (hk : j + k + 1 = xs.length) : (roundsW xs)[k]? = some (j, x) := by
  unfold roundsW
  rw [List.getElem?_reverse (by simp; omega)]
  simp only [List.length_map, List.length_range, List.getElem?_map]
  rw [List.getElem?_range (by omega), show xs.length - 1 - k = j by omega]
  simp [List.getD, h]
/-- What a round hands on. -/
def backVW (z : Nat × WrP) : Array Value := #[.int .i64 (z.1 : Nat), .agg (wrL z.2).toArray]
/-- The row stands, and its box. -/
def RowOk (A : Option Addr) (n c Bs : Nat) (xs : List WrP) (V : World) : Prop := RowK 129 V A n (xs.map wrL) ∧ V.cell? ⟨Bs, 0, none⟩ = some (.slice A n c) ∧ ∀ q, (Value.slice A n c).ownBlock = some q → ∃ cur, CellsAt V q cur 103
theorem cell_shutD {V : World} {l : Nat} {o o' : Obj} (hl : V.heap[l]? = some o) (ho : o.isCells = false) {a : Addr} {u : Value} (hc : V.cell? a = some u) : (V.putObj l o').cell? a = some u := by
  have hne : a.block ≠ l := by
    intro e
    unfold World.cell? at hc
    rw [e, hl] at hc
    cases o <;> simp_all [Obj.isCells]
  rw [World.cell?_of_block (World.putObj_heap_other hne)]
  exact hc
theorem RowOk.shut {A : Option Addr} {n c Bs : Nat} {xs : List WrP} {V : World} {l : Nat} {o o' : Obj} (h : RowOk A n c Bs xs V) (hl : V.heap[l]? = some o) (ho : o.isCells = false) : RowOk A n c Bs xs (V.putObj l o') :=
  ⟨⟨h.1.1, h.1.2.1, fun hn => by
    obtain ⟨b, q, e, hc⟩ := h.1.2.2 hn
    exact ⟨b, q, e, fun j i cs v h1 h2 => cell_shutD hl ho (hc j i cs v h1 h2)⟩⟩, cell_shutD hl ho h.2.1, fun q hq => by
    obtain ⟨cur, hc⟩ := h.2.2 q hq
    refine ⟨cur, ?_⟩
    unfold CellsAt at hc ⊢
    rw [World.putObj_heap_other (fun e => by rw [e, hl] at hc; cases hc; cases ho)]
    exact hc⟩
theorem RowOk.later {A : Option Addr} {n c Bs : Nat} {xs : List WrP} {V V' : World} (h : RowOk A n c Bs xs V) (hl : Later V V') : RowOk A n c Bs xs V' := ⟨h.1.later hl, hl.cell h.2.1, fun q hq => (h.2.2 q hq).imp fun _ hc => hc.later hl⟩

set_option maxRecDepth 100000 in
set_option maxHeartbeats 2000000 in
theorem back1w_in (m l Bs : Nat) (A : Option Addr) (n c : Nat) (xs : List WrP) (hm : 1 ≤ m) (hn : n ≤ 1000000) (J Jx : Nat → World → Prop)
    (hY : ∀ k x W, (roundsW xs)[k]? = some x → J k W → YieldAt Fence.wide (m - 1) Try.prog l (backVW x) W fun e W' =>
      (e = .returned (.bool true) ∧ J (k + 1) W' ∧ (RowOk A n c Bs xs W → RowOk A n c Bs xs W')) ∨ (e = .returned (.bool false) ∧ Jx (k + 1) W'))
    (W : World) (hok : RowOk A n c Bs xs W) (h0 : J 0 W) :
    CallsIn Fence.wide m Try.prog 108 #[.func (.yield l) #[] #[], .pointer (some ⟨Bs, 0, none⟩)] W fun e W' => (∃ v, e = .returned v) ∧
      (J (roundsW xs).length W' ∨ ∃ k, k ≤ (roundsW xs).length ∧ Jx k W') := by
  have hlen : xs.length = n := by have := hok.1.len; simpa using this
  have hbs := hok.2.1
  have HOK := Lib.hid hok
  clear hok
  refine callsIn_of_wp Try.func108 rfl trivial ?_ rfl
  simp only [Try.ntmps108, List.size_toArray, List.length_cons, List.length_nil, Nat.reduceAdd, Nat.reduceSub, Array.replicate_succ, Array.replicate_zero, List.push_toArray, List.append_toArray, List.nil_append, List.cons_append]
  gi_wp2
  gi_loopw [3] (fun s wr => ∃ r : Nat, r ≤ n ∧ s = .int .i64 ((r : Int) - 1) ∧ J (n - r) wr ∧ RowOk A n c Bs xs wr)
    (fun s _ => (intOf s + 1).toNat)
  case atStart => exact ⟨n, Nat.le_refl _, by go_num, by rw [Nat.sub_self]; exact h0, HOK.out⟩
  case round =>
    obtain ⟨r, hr, rfl, hJs, hok⟩ := hrel
    rcases Nat.eq_zero_or_pos r with h0 | h0
    · subst h0
      clear hok
      gi_wp2
      go_end0
      exact ⟨⟨_, rfl⟩, .inl (by rw [roundsW_length, hlen]; exact hJs)⟩
    · obtain ⟨j, rfl⟩ : ∃ j, r = j + 1 := ⟨r - 1, by omega⟩
      rw [show ((j + 1 : Nat) : Int) - 1 = (j : Int) by omega]
      obtain ⟨b, o, rfl, cs, hcs, hcl, hcc⟩ := hok.1.get (show j < n by omega)
      have hjl : j < xs.length := by omega
      have hz : xs[j]? = some xs[j] := List.getElem?_eq_getElem hjl
      generalize xs[j] = x at hz
      have hcs2 : cs = wrL x := by
        rw [List.getElem?_map, hz] at hcs
        exact (Option.some.inj hcs).symm
      subst hcs2
      have hrg : wr.rangeAt b (o + j * 129) (wrL x) := fun i v hi => hcc i v hi
      obtain ⟨fn, tmps, assign, body, hy, hR⟩ := hY (n - (j + 1)) (j, x) wr (roundsW_get hz (by omega)) hJs
      simp only [backVW] at hy hR
      have hbw := hok.2.1
      have HRG := Lib.hid hrg; have HR := Lib.hid hR; have HOW := Lib.hid hok; have HCL := Lib.hid hcl
      clear hR hz hrg hcc hcs hok hcl
      gi_wp2_with (with_reducible show wpListIn _ _ _ _ _ ({ dst := some 16, op := Op.load 103 _, type := _, pos := _, after := _, guard := _ } :: _) _ _; refine Hid.out ?_)
      refine Lib.hid (wpListIn_out rfl ?_)
      refine wp_load_mid _ _ rfl b (o + j * 129) rfl (wrL x) _ HRG.out Try.underlying103 rfl (by rw [HCL.out]; exact Try.writeSize) ?_
      gi_wp2
      refine HR.out.mono ?_
      rintro e W3 (⟨rfl, hJ3, hk3⟩ | ⟨rfl, hJx3⟩)
      · rw [show n - (j + 1) + 1 = n - j by omega] at hJ3
        have hok3 := Lib.hid (hk3 HOW.out)
        clear hk3
        gi_wp2
        go_roundw
        case rel => exact ⟨j, by omega, by go_num, hJ3, hok3.out⟩
        case measure => simp [intOf]
      · gi_wp2
        refine bodyPost_ret (results_none rfl _ _ _) rfl ?_
        exact ⟨⟨_, rfl⟩, .inr ⟨_, by rw [roundsW_length]; omega, hJx3⟩⟩

/-- slices.Backward(s): the slice is boxed; the function value captures the box. -/
theorem backW_any (A : Option Addr) (n c : Nat) (w : World) :
    Calls Try.prog 86 #[.slice A n c] w fun e w' => e = .returned (.func (.func 108) #[] #[.pointer (some ⟨w.heap.size, 0, none⟩)]) ∧ w' = w.alloc (.cells #[.slice A n c] 93) := by
  go_enter Try.func86, Try.ntmps86
  go_wp2
  go_ret
  exact ⟨rfl, rfl⟩

theorem backW_hands (m Bs : Nat) (hm : 1 ≤ m) (A : Option Addr) (n c : Nat) (xs : List WrP) (hn : n ≤ 1000000) (w : World) (hok : RowOk A n c Bs xs w) :
    Hands m Try.prog 108 #[.pointer (some ⟨Bs, 0, none⟩)] backVW (fun V V' => RowOk A n c Bs xs V → RowOk A n c Bs xs V') (roundsW xs) w := fun l J Jx W hW hY h0 =>
  back1w_in m l Bs A n c xs hm hn J Jx hY W (hok.later hW) h0

end Go.Proofs.Ytaonfedjilfgjaa

/-
  More operations of a region that draws its order, over a device.
-/
namespace Go.Proofs.Ytaonfedjilfgjaa
open Go.RowKit

section
variable {ops : Array Oper} {Q : Exit → Act → World → Prop} {K : Act → World → Prop} {i : Nat} {dst : Option Tmp} {js : List Nat} {a : Act} {w : World}
theorem OpIs.loadDP {k : Tmp} {g o : Nat} {u : Value} (h : OpIs ops i (.load 25 (.tmp k)) dst js) (he : a.eval (.tmp k) = .pointer (some ⟨g, o, none⟩)) (hc : w.cell? ⟨g, o, none⟩ = some u) (hk : K (a.put dst (u)) w) : wpOp Try.prog ops Q i K a w :=
  h.go fun op h1 h2 => by
    have hr : (execOp a.eval op).run Try.prog w = .ok (.value (u)) w := by
      clear hk
      unfold execOp
      rw [h1]
      dsimp only
      rw [he]
      go_simp
    unfold Oper.wp
    rw [hr]
    show K _ _
    rw [h2]
    exact hk
theorem OpIs.loadDI {k : Tmp} {g o : Nat} {x : Int} (h : OpIs ops i (.load 3 (.tmp k)) dst js) (he : a.eval (.tmp k) = .pointer (some ⟨g, o, none⟩)) (hc : w.cell? ⟨g, o, none⟩ = some (.int .i64 x)) (hk : K (a.put dst (.int .i64 x)) w) : wpOp Try.prog ops Q i K a w :=
  h.go fun op h1 h2 => by
    have hr : (execOp a.eval op).run Try.prog w = .ok (.value (.int .i64 x)) w := by
      clear hk
      unfold execOp
      rw [h1]
      dsimp only
      rw [he]
      go_simp
    unfold Oper.wp
    rw [hr]
    show K _ _
    rw [h2]
    exact hk
theorem OpIs.fieldW0 {k : Tmp} {g : Nat} (h : OpIs ops i (.fieldAddr 103 (.tmp k) 0) dst js) (he : a.eval (.tmp k) = .pointer (some ⟨g, 0, none⟩)) (hk : K (a.put dst (.pointer (some ⟨g, 0, none⟩))) w) : wpOp Try.prog ops Q i K a w :=
  h.go fun op h1 h2 => by
    have hr : (execOp a.eval op).run Try.prog w = .ok (.value (.pointer (some ⟨g, 0, none⟩))) w := by
      clear hk
      unfold execOp
      rw [h1]
      dsimp only
      rw [he]
      go_simp
    unfold Oper.wp
    rw [hr]
    show K _ _
    rw [h2]
    exact hk
theorem OpIs.fieldW1 {k : Tmp} {g : Nat} (h : OpIs ops i (.fieldAddr 103 (.tmp k) 1) dst js) (he : a.eval (.tmp k) = .pointer (some ⟨g, 0, none⟩)) (hk : K (a.put dst (.pointer (some ⟨g, 1, none⟩))) w) : wpOp Try.prog ops Q i K a w :=
  h.go fun op h1 h2 => by
    have hr : (execOp a.eval op).run Try.prog w = .ok (.value (.pointer (some ⟨g, 1, none⟩))) w := by
      clear hk
      unfold execOp
      rw [h1]
      dsimp only
      rw [he]
      go_simp
    unfold Oper.wp
    rw [hr]
    show K _ _
    rw [h2]
    exact hk
theorem OpIs.fieldW2 {k : Tmp} {g : Nat} (h : OpIs ops i (.fieldAddr 103 (.tmp k) 2) dst js) (he : a.eval (.tmp k) = .pointer (some ⟨g, 0, none⟩)) (hk : K (a.put dst (.pointer (some ⟨g, 65, none⟩))) w) : wpOp Try.prog ops Q i K a w :=
  h.go fun op h1 h2 => by
    have hr : (execOp a.eval op).run Try.prog w = .ok (.value (.pointer (some ⟨g, 65, none⟩))) w := by
      clear hk
      unfold execOp
      rw [h1]
      dsimp only
      rw [he]
      go_simp
    unfold Oper.wp
    rw [hr]
    show K _ _
    rw [h2]
    exact hk
theorem OpIs.indexDC {j k : Tmp} {g n c m : Nat} (h : OpIs ops i (.indexAddr 92 (.tmp j) (.tmp k)) dst js) (hj : a.eval (.tmp j) = .slice (some ⟨g, 0, none⟩) n c) (hv : a.eval (.tmp k) = .int .i64 (m : Nat)) (hm : m < n) (hk : K (a.put dst (.pointer (some ⟨g, m * 64, none⟩))) w) : wpOp Try.prog ops Q i K a w :=
  h.go fun op h1 h2 => by
    have hr : (execOp a.eval op).run Try.prog w = .ok (.value (.pointer (some ⟨g, m * 64, none⟩))) w := by
      clear hk
      unfold execOp
      rw [h1]
      dsimp only
      rw [hj, hv]
      go_simp
    unfold Oper.wp
    rw [hr]
    show K _ _
    rw [h2]
    exact hk
/-- An array is stored into a row. -/
theorem OpIs.storeMid {ty : TypeId} {j k : Tmp} {b o : Nat} {cs : List Value} (h : OpIs ops i (.store ty (.tmp j) (.tmp k)) none js) (hj : a.eval (.tmp j) = .pointer (some ⟨b, o, none⟩)) (hv : a.eval (.tmp k) = .agg cs.toArray) (ht : w.there b o cs.length) (hi : (Try.prog.info? ty).map (·.size) = some cs.length) (h1 : ∀ v ∈ cs, v.oneCell' = true)
    (hk : ∀ w', w' = w.setCells b o cs → K a w') : wpOp Try.prog ops Q i K a w :=
  h.go fun op h3 h2 => wp_store_mid ty _ _ h3 b o cs.toArray hj hv (by simpa using ht) (by simpa using hi) (all_oneCell_toArray h1) (by rw [h2]; exact hk _ rfl)
end

end Go.Proofs.Ytaonfedjilfgjaa

/-
  The statement of back that draws its order, in a round.
-/
namespace Go.Proofs.Ytaonfedjilfgjaa
open Go.RowKit

def bkBack3_R (g : Nat) (gx : Nat) (b : Nat) (N : Nat) (c : Nat) (x : WrP) : Nat → Value → World → Prop
  | 0, v, _ => v = .pointer (some ⟨g, 0, none⟩)
  | 1, v, _ => v = .pointer (some ⟨g, 0, none⟩)
  | 2, v, _ => v = .pointer (some ⟨g, 0 + 0, none⟩)
  | 3, v, _ => v = .slice (some ⟨b, 0, none⟩) N c
  | 4, v, _ => v = .pointer (some ⟨gx, 0, none⟩)
  | 5, v, _ => v = .int .i64 (x.pl : Nat)
  | 6, v, _ => v = .pointer (some ⟨gx, 1, none⟩)
  | 7, v, _ => v = .agg (Lib.byteCells x.was).toArray
  | 8, v, _ => v = .pointer (some ⟨b, x.pl * 64, none⟩)
  | 9, _, _ => True
  | _, _, _ => True
def bkBack3_X (b : Nat) (x : WrP) : Nat → List Value → World → World → Prop
  | 0, _, w1, w => w = w1
  | 1, [_], w1, w => w = w1.setCells b (x.pl * 64) (Lib.byteCells x.was)
  | _, _, _, _ => False
set_option maxRecDepth 100000 in
set_option maxHeartbeats 1600000 in
theorem bkBack3 {ops : Array Oper} (hn : ops.size = 10) (hg : goesBack ops = true) (hdf : noDefer ops = true)
    (o0 : OpIs ops 0 (.load 25 (.tmp 1)) (some 11) [])
    (o1 : OpIs ops 1 (.nilCheck (.tmp 11)) (some 12) [0])
    (o2 : OpIs ops 2 (.fieldAddr 95 (.tmp 12) 0) (some 13) [1])
    (o3 : OpIs ops 3 (.load 92 (.tmp 13)) (some 14) [2])
    (o4 : OpIs ops 4 (.fieldAddr 103 (.tmp 3) 0) (some 15) [])
    (o5 : OpIs ops 5 (.load 3 (.tmp 15)) (some 16) [4])
    (o6 : OpIs ops 6 (.fieldAddr 103 (.tmp 3) 1) (some 17) [])
    (o7 : OpIs ops 7 (.load 101 (.tmp 17)) (some 18) [6])
    (o8 : OpIs ops 8 (.indexAddr 92 (.tmp 14) (.tmp 16)) (some 19) [0, 1, 2, 3, 4, 5, 6, 7])
    (o9 : OpIs ops 9 (.store 101 (.tmp 19) (.tmp 18)) none [0, 1, 2, 3, 4, 5, 6, 7, 8])
    {a1 : Act} (hs : 20 ≤ a1.tmps.size) {wx : World} {g gb gx b N c : Nat} {x : WrP} (e1 : a1.eval (.tmp 1) = .pointer (some ⟨gb, 0, none⟩)) (e3 : a1.eval (.tmp 3) = .pointer (some ⟨gx, 0, none⟩)) (hcb : wx.cell? ⟨gb, 0, none⟩ = some (.pointer (some ⟨g, 0, none⟩))) (hc0 : wx.cell? ⟨g, 0 + 0, none⟩ = some (.slice (some ⟨b, 0, none⟩) N c)) (hbw : CellsAt wx gx (wrL x).toArray 103) (hwl : x.was.length = 64) (hpl : x.pl < N) (hth : ∀ v, Later wx v → v.there b (x.pl * 64) (Lib.byteCells x.was).length)
    {Q : Exit → Act → World → Prop} (hq : ¬ LetsOut Q) {id lp mp : Nat} (hend : ∀ (a : Act) (w1 w : World) (v0 : Value), SameOut a1 a [11, 12, 13, 14, 15, 16, 17, 18, 19] → Later wx w1 → bkBack3_X b x 1 [v0] w1 w → Q .normal a w) :
    (Code.region id ops true).wpIn (Fence.wide.inRound lp) mp Try.prog Q a1 wx := by
  refine region_turnsIn (n := 10) (by kernel_rfl) hg hdf hq hn [11, 12, 13, 14, 15, 16, 17, 18, 19, 1009] (by decide +kernel) rfl [11, 12, 13, 14, 15, 16, 17, 18, 19] (fun i => decide (i = 9)) (fun i => decide (i = 1) || decide (i = 2) || decide (i = 4) || decide (i = 6) || decide (i = 8)) (fun i => !decide (i = 9)) [9] ?_ ?_ (bkBack3_R g gx b N c x) (bkBack3_X b x) ?_ ?_ (by decide) ?_ ?_ ?_ ?_ (fun _ _ _ => Iff.rfl) ?_ ?_ ?_ ?_
  · intro i hi hs'
    have hc : i = 0 ∨ i = 1 ∨ i = 2 ∨ i = 3 ∨ i = 4 ∨ i = 5 ∨ i = 6 ∨ i = 7 ∨ i = 8 ∨ i = 9 := by omega
    rcases hc with rfl | rfl | rfl | rfl | rfl | rfl | rfl | rfl | rfl | rfl
    · decide
    · decide
    · decide
    · decide
    · decide
    · decide
    · decide
    · decide
    · decide
    · cases hs'
  · intro i hi hs'
    have hc : i = 0 ∨ i = 1 ∨ i = 2 ∨ i = 3 ∨ i = 4 ∨ i = 5 ∨ i = 6 ∨ i = 7 ∨ i = 8 ∨ i = 9 := by omega
    rcases hc with rfl | rfl | rfl | rfl | rfl | rfl | rfl | rfl | rfl | rfl
    · show (11 : Nat) < _; omega
    · show (12 : Nat) < _; omega
    · show (13 : Nat) < _; omega
    · show (14 : Nat) < _; omega
    · show (15 : Nat) < _; omega
    · show (16 : Nat) < _; omega
    · show (17 : Nat) < _; omega
    · show (18 : Nat) < _; omega
    · show (19 : Nat) < _; omega
    · cases hs'
  · intro i hi
    simp only [decide_eq_true_eq] at hi
    subst hi
    · decide
  · intro i hi
    simp only [List.mem_cons, List.not_mem_nil, or_false] at hi
    subst hi
    · decide
  · intro i hi hT
    have hc : i = 0 ∨ i = 1 ∨ i = 2 ∨ i = 3 ∨ i = 4 ∨ i = 5 ∨ i = 6 ∨ i = 7 ∨ i = 8 ∨ i = 9 := by omega
    rcases hc with rfl | rfl | rfl | rfl | rfl | rfl | rfl | rfl | rfl | rfl
    · rfl
    · rfl
    · rfl
    · rfl
    · rfl
    · rfl
    · rfl
    · rfl
    · rfl
    · cases hT
  · intro l dn i hi h k hk hp hT
    simp only [List.mem_cons, List.not_mem_nil, or_false] at hi
    subst hi
    · have c0 := o9.back dn h 0 (by simp)
      have c1 := o9.back dn h 1 (by simp)
      have c2 := o9.back dn h 2 (by simp)
      have c3 := o9.back dn h 3 (by simp)
      have c4 := o9.back dn h 4 (by simp)
      have c5 := o9.back dn h 5 (by simp)
      have c6 := o9.back dn h 6 (by simp)
      have c7 := o9.back dn h 7 (by simp)
      have c8 := o9.back dn h 8 (by simp)
      have hc : k = 0 ∨ k = 1 ∨ k = 2 ∨ k = 3 ∨ k = 4 ∨ k = 5 ∨ k = 6 ∨ k = 7 ∨ k = 8 ∨ k = 9 := by omega
      rcases hc with rfl | rfl | rfl | rfl | rfl | rfl | rfl | rfl | rfl | rfl
      · exact c0
      · cases hp
      · cases hp
      · exact c3
      · cases hp
      · exact c5
      · cases hp
      · exact c7
      · cases hp
      · cases hT
  · intro l dn t i i' h1 h2 h
    simp at h2
  · intro i hi v w
    simp only [decide_eq_true_eq] at hi
    subst hi
    · trivial
  · intro l a w i o K ho hi hp hT hwait so hl0 F hK
    have hc : i = 0 ∨ i = 1 ∨ i = 2 ∨ i = 3 ∨ i = 4 ∨ i = 5 ∨ i = 6 ∨ i = 7 ∨ i = 8 ∨ i = 9 := by omega
    rcases hc with rfl | rfl | rfl | rfl | rfl | rfl | rfl | rfl | rfl | rfl
    · refine o0.loadDP ((show _ = a1.eval _ from by simp only [Act.eval, Array.getD_eq_getD_getElem?, so.out 1 (by decide)]).trans e1) (Later.cell hl0 hcb) ?_
      exact hK _ _ (Later.refl w) rfl
    · cases hp
    · cases hp
    · have ws := o3.waits ho hwait
      have f2 : a.eval (.tmp 13) = .pointer (some ⟨g, 0 + 0, none⟩) := by obtain ⟨_, _, _, h⟩ := F 2 (ws 2 (by simp)) (by decide); exact h
      refine o3.loadDC f2 (Later.cell hl0 hc0) ?_
      exact hK _ _ (Later.refl w) rfl
    · cases hp
    · have ws := o5.waits ho hwait
      have f4 : a.eval (.tmp 15) = .pointer (some ⟨gx, 0, none⟩) := by obtain ⟨_, _, _, h⟩ := F 4 (ws 4 (by simp)) (by decide); exact h
      refine o5.loadDI f4 ((hbw.later hl0).cell (by rw [arr_get]; rfl)) ?_
      exact hK _ _ (Later.refl w) rfl
    · cases hp
    · have ws := o7.waits ho hwait
      have f6 : a.eval (.tmp 17) = .pointer (some ⟨gx, 1, none⟩) := by obtain ⟨_, _, _, h⟩ := F 6 (ws 6 (by simp)) (by decide); exact h
      refine o7.loadMid f6 (CellsAt.range (o := 1) (hbw.later hl0) (fun j u hj => by rw [arr_get, wrL_was hwl (by have := (List.getElem?_eq_some_iff.1 hj).1; rw [bc_len, hwl] at this; exact this)]; exact hj)) Try.underlying101 rfl (by rw [bc_len, hwl]; exact Try.cellSize) ?_
      exact hK _ _ (Later.refl w) rfl
    · cases hp
    · cases hT
  · intro l a w w1 i o K ho hi hp hwait so hl0 F hK
    have hc : i = 0 ∨ i = 1 ∨ i = 2 ∨ i = 3 ∨ i = 4 ∨ i = 5 ∨ i = 6 ∨ i = 7 ∨ i = 8 ∨ i = 9 := by omega
    rcases hc with rfl | rfl | rfl | rfl | rfl | rfl | rfl | rfl | rfl | rfl
    · cases hp
    · have ws := o1.waits ho hwait
      have f0 : a.eval (.tmp 11) = .pointer (some ⟨g, 0, none⟩) := by obtain ⟨_, _, _, h⟩ := F 0 (ws 0 (by simp)) (by decide); exact h
      refine o1.nilCk f0 ?_
      exact hK _ rfl
    · have ws := o2.waits ho hwait
      have f1 : a.eval (.tmp 12) = .pointer (some ⟨g, 0, none⟩) := by obtain ⟨_, _, _, h⟩ := F 1 (ws 1 (by simp)) (by decide); exact h
      refine o2.fieldDev (by omega) f1 ?_
      exact hK _ rfl
    · cases hp
    · refine o4.fieldW0 ((show _ = a1.eval _ from by simp only [Act.eval, Array.getD_eq_getD_getElem?, so.out 3 (by decide)]).trans e3) ?_
      exact hK _ rfl
    · cases hp
    · refine o6.fieldW1 ((show _ = a1.eval _ from by simp only [Act.eval, Array.getD_eq_getD_getElem?, so.out 3 (by decide)]).trans e3) ?_
      exact hK _ rfl
    · cases hp
    · have ws := o8.waits ho hwait
      have f3 : a.eval (.tmp 14) = .slice (some ⟨b, 0, none⟩) N c := by obtain ⟨_, _, _, h⟩ := F 3 (ws 3 (by simp)) (by decide); exact h
      have f5 : a.eval (.tmp 16) = .int .i64 (x.pl : Nat) := by obtain ⟨_, _, _, h⟩ := F 5 (ws 5 (by simp)) (by decide); exact h
      refine o8.indexDC f3 f5 hpl ?_
      exact hK _ rfl
    · cases hp
  · intro l a w1 w tq iq o vals K htq ho hwait so hl0 F hvl hvs hx hK
    match tq, htq with
    | 0, htq =>
      cases htq
      have hv0 := List.eq_nil_of_length_eq_zero hvl
      subst hv0
      have hw : w = w1 := hx
      subst hw
      have ws := o9.waits ho hwait
      have f7 : a.eval (.tmp 18) = .agg (Lib.byteCells x.was).toArray := by obtain ⟨_, _, _, h⟩ := F 7 (ws 7 (by simp)) (by decide); exact h
      have f8 : a.eval (.tmp 19) = .pointer (some ⟨b, x.pl * 64, none⟩) := by obtain ⟨_, _, _, h⟩ := F 8 (ws 8 (by simp)) (by decide); exact h
      replace hK : ∀ vv ww, bkBack3_X b x 1 ([] ++ [vv]) w ww → K a ww := hK
      refine o9.storeMid f8 f7 (hth w hl0) (by rw [bc_len, hwl]; exact Try.cellSize) (bc_one _) (fun w' hw => hK undef _ hw)
    | tq + 1, htq => simp at htq
  · intro a w1 w vals so hl F hvl hvs hx
    obtain ⟨v0, rfl⟩ := List.length_eq_one_iff.1 hvl
    exact hend a w1 w v0 so hl   hx

end Go.Proofs.Ytaonfedjilfgjaa

/-
  The blocks as they were flushed: back, as a call.
-/
namespace Go.Proofs.Ytaonfedjilfgjaa
open Go.RowKit
attribute [local go_sem] Oper.semAt_some

section
variable {W w V V' : World} {S : Nat → Prop} {g l B : Nat} {d : DvP} {o o' : Obj}
theorem chg_shut (V : World) (l : Nat) (o' : Obj) : Chg (fun q => q = l) V (V.putObj l o') := ⟨rfl, rfl, rfl, by simp, fun i _ hne => World.putObj_heap_other hne⟩
theorem DevAt.shut (h : DevAt W V S g d) (hS : ∀ q, S q → q ≠ l) (hl : W.heap.size ≤ l) : DevAt W (V.putObj l o') S g d :=
  h.chg (chg_shut V l o') hS ((chg_shut V l o').low h.base fun q hq => by rw [hq]; exact hl)
theorem CellsAt.shut {q : Nat} {cs : Array Value} {T : TypeId} (h : CellsAt V q cs T) (hl : V.heap[l]? = some o) (ho : o.isCells = false) : CellsAt (V.putObj l o') q cs T :=
  h.chg (chg_shut V l o') (fun e => by
    subst e
    unfold CellsAt at h
    rw [h] at hl
    cases hl
    cases ho)
theorem KeepsFrom.chg {q : Nat} {cs : Array Value} {T : TypeId} (h : Chg (fun k => k = q) V V') (hb : CellsAt V q cs T) : KeepsFrom B V V' :=
  ⟨h.size, fun k o _ hk ho => (h.block k (Array.getElem?_eq_some_iff.1 hk).1 (fun e => by
    subst e
    unfold CellsAt at hb
    rw [hb] at hk
    cases hk
    cases ho)).trans hk⟩
theorem KeepsFrom.ofLater (h : Later V V') : KeepsFrom B V V' := ⟨h.size, fun k _ _ hk _ => (h.block k (Array.getElem?_eq_some_iff.1 hk).1).trans hk⟩
/-- Between two rounds of back. -/
structure InvB (W w : World) (S : Nat → Prop) (g gb : Nat) (d : DvP) (A : Option Addr) (n c Bs k : Nat) (V : World) : Prop where
  dev : DevAt W V S g { d with bl := backP d.bl (d.row.drop (n - k)) }
  box : CellsAt V gb #[.pointer (some ⟨g, 0, none⟩)] 25
  row : RowOk A n c Bs d.row V
  chg : Chg S w V
theorem InvB.later {gb n c Bs k : Nat} {A : Option Addr} (h : InvB W w S g gb d A n c Bs k V) (hl : Later V V') : InvB W w S g gb d A n c Bs k V' := ⟨h.dev.later hl, h.box.later hl, h.row.later hl, h.chg.then hl⟩
theorem InvB.shut {gb n c Bs k : Nat} {A : Option Addr} (h : InvB W w S g gb d A n c Bs k V) (hw : w.heap.size ≤ l) (hS : ∀ q, S q → q < w.heap.size) (hW : W.heap.size ≤ w.heap.size) (hl : V.heap[l]? = some o) (ho : o.isCells = false) : InvB W w S g gb d A n c Bs k (V.putObj l o') :=
  ⟨h.dev.shut (fun q hq e => by have := hS q hq; omega) (by omega), h.box.shut hl ho, h.row.shut hl ho, h.chg.trans (chg_shut V l o') fun q hq => by rw [hq]; exact .inr hw⟩

set_option maxRecDepth 100000 in
set_option maxHeartbeats 1600000 in
theorem back_any (h : DevAt W w S g d) (hro : d.row.length ≤ 900000) :
    Calls Try.prog 55 #[.pointer (some ⟨g, 0, none⟩)] w fun e w' => e = .returned (.tuple #[]) ∧ DevAt W w' S g { d with bl := backP d.bl d.row } ∧ Chg S w w' := by
  obtain ⟨b, cc, A, n, c, hb, h1, hc, h2, hm, hc2, hr2, sb, bg, s2⟩ := h.parts
  have hlS : ∀ q, S q → q < w.heap.size := fun q hq => (h.low q hq).2
  have hWw := h.base.le
  have hl1 : Later w (w.alloc (.cells #[.pointer (some ⟨g, 0, none⟩)] 25)) := (Later.refl w).alloc _
  have q1 := (hb.later hl1).cell (i := 1) rfl
  simp only [List.getElem_toArray, List.getElem_cons_zero, List.getElem_cons_succ] at q1
  have HH := Lib.hid h; have HR := Lib.hid hr2; have HLS := Lib.hid hlS; have HWW := Lib.hid hWw
  have HXS : Hid (∀ x ∈ d.row, x.was.length = 64 ∧ x.is.length = 64) := fun x hx => (h.ok.row x hx).2
  have hgl := hb.lt
  have HBK := Lib.hid (fun (w1 : World) => backW_any A n c w1)
  have HM := Lib.hid hm; have HTY := Lib.hid h2.typed
  clear h hb h1 h2 s2 hlS hm
  refine (callsIn_wide (n := 3)).1 (callsIn_of_wp_marks Try.func55 rfl trivial (wpIn_wide.2 ?_) rfl)
  simp only [Try.ntmps55, List.size_toArray, List.length_cons, List.length_nil, Nat.reduceAdd, Nat.reduceSub, Array.replicate_succ, Array.replicate_zero, List.push_toArray, List.append_toArray, List.nil_append, List.cons_append]
  go_wp2_with fail
  refine (HBK.out _).mono ?_
  rintro e w1 ⟨rfl, rfl⟩
  clear HBK
  go_wp2_with fail
  obtain ⟨b0, b1, hl0, hsz⟩ : CellsAt ((w.alloc (.cells #[.pointer (some ⟨g, 0, none⟩)] 25)).alloc (.cells #[.slice A n c] 93)) w.heap.size #[.pointer (some ⟨g, 0, none⟩)] 25 ∧ CellsAt ((w.alloc (.cells #[.pointer (some ⟨g, 0, none⟩)] 25)).alloc (.cells #[.slice A n c] 93)) (w.heap.size + 1) #[.slice A n c] 93 ∧ Later w ((w.alloc (.cells #[.pointer (some ⟨g, 0, none⟩)] 25)).alloc (.cells #[.slice A n c] 93)) ∧ ((w.alloc (.cells #[.pointer (some ⟨g, 0, none⟩)] 25)).alloc (.cells #[.slice A n c] 93)).heap.size = w.heap.size + 2 := by
    refine ⟨(CellsAt.made w _ _).later ((Later.refl _).alloc _), ?_, ((Later.refl w).alloc _).alloc _, by simp⟩
    have := CellsAt.made (w.alloc (.cells #[.pointer (some ⟨g, 0, none⟩)] 25)) #[.slice A n c] 93
    rw [World.size_alloc] at this
    exact this
  generalize (w.alloc (.cells #[.pointer (some ⟨g, 0, none⟩)] 25)).alloc (.cells #[.slice A n c] 93) = wL at b0 b1 hl0 hsz ⊢
  clear q1 hl1
  have hrow : RowOk A n c (w.heap.size + 1) d.row wL := ⟨HR.out.later hl0, b1.cell rfl, fun q hq => (HTY.out q hq).imp fun _ hc => hc.later hl0⟩
  have hI0 : InvB W w S g w.heap.size d A n c (w.heap.size + 1) 0 wL := by
    refine ⟨?_, b0, hrow, Chg.later hl0⟩
    rw [Nat.sub_zero, List.drop_of_length_le (by rw [HM.out]; exact Nat.le_refl _)]
    exact HH.out.later hl0
  refine range_rows (zs := roundsW d.row) (w0 := wL) rfl (enters_of Try.func108 (by kernel_rfl) rfl) (backW_hands 2 (w.heap.size + 1) (by decide) A n c d.row (by rw [HM.out]; omega) wL hrow) (Later.refl _) (fun _ => rfl) (fun h k => fun h0 => k (h h0)) (fun V l o o' _ hh ho => fun h0 => h0.shut hh ho)
    (InvB W w S g w.heap.size d A n c (w.heap.size + 1)) (fun _ _ => False)
    (fun k z a' V => InvB W w S g w.heap.size d A n c (w.heap.size + 1) k V ∧ ∃ gx, CellsAt V gx (wrL z.2).toArray 103 ∧ a' = { tmps := #[.pointer (some ⟨g, 0, none⟩), .pointer (some ⟨w.heap.size, 0, none⟩), undef, .pointer (some ⟨gx, 0, none⟩), .pointer (some ⟨g, 0, none⟩), .pointer (some ⟨g, 0, none⟩), .pointer (some ⟨g, 1, none⟩), .slice A n c, .func (.func 108) #[] #[.pointer (some ⟨w.heap.size + 1, 0, none⟩)], .int .i64 z.1, .agg (wrL z.2).toArray, undef, undef, undef, undef, undef, undef, undef, undef, undef], defers := [] })
    (fun k V l o o' h1 hl hh ho => h1.shut (by omega) HLS.out HWW.out hh ho) (fun k V l o o' h => h.elim) (fun k z a' V l o o' ⟨h1, gx, h2, h3⟩ hl hh ho => ⟨h1.shut (by omega) HLS.out HWW.out hh ho, gx, h2.shut hh ho, h3⟩)
    (fun o o' h => h.later (((Later.refl wL).alloc o).alloc o')) hI0 ?assign ?body ?done ?stop
  case assign =>
    intro l k z V K hz hi hK
    obtain ⟨j, x⟩ := z
    have hxx := HXS.out x (List.mem_of_getElem? (roundsW_at hz).2)
    simp only [backVW]
    gi_wp2_with (with_reducible show wpListIn _ _ _ _ _ ({ dst := some 3, op := Op.alloc 103, type := _, pos := _, after := _, guard := _ } :: _) _ _; refine Hid.out ?_)
    refine Lib.hid (wpListIn_round rfl (fun c e => by cases e) (wp_alloc_new _ rfl _ Try.writeZero fun w2 hc2' hl2 hs2 => ?_))
    refine wpListIn_round rfl (fun c e => by cases e) (wp_store_mid _ _ _ rfl V.heap.size 0 (wrL x).toArray rfl rfl (hc2'.there (by simp only [List.size_toArray, Value.cells]; rw [wrL_len hxx, wrL_len ⟨zeros_length 64, zeros_length 64⟩]; decide)) (by simp only [List.size_toArray]; rw [wrL_len hxx]; exact Try.writeSize) (all_oneCell_toArray (wrL_one x)) ?_)
    have hl3 : Later V (w2.setCells V.heap.size 0 (wrL x)) := (sets_chg (g := V.heap.size) (wrL x) w2 0).low hl2 (fun k hk => by rw [hk]; exact Nat.le_refl _)
    have hc3 : CellsAt (w2.setCells V.heap.size 0 (wrL x)) V.heap.size (wrL x).toArray 103 := by
      have := hc2'.sets (wrL x) (o := 0)
      rw [set_all (by simp only [Value.cells, List.size_toArray]; rw [wrL_len hxx, wrL_len ⟨zeros_length 64, zeros_length 64⟩])] at this
      exact this
    exact hK _ _ (KeepsFrom.ofLater hl3) (fun h0 => h0.later hl3) ⟨hi.later hl3, _, hc3, rfl⟩
  case body =>
    rintro l k ⟨j, x⟩ a' V hz ⟨hi, gx, hbx, rfl⟩
    obtain ⟨hj, hat⟩ := roundsW_at hz
    dsimp only at hj hat hbx ⊢
    have hxr := HH.out.ok.row x (List.mem_of_getElem? hat)
    obtain ⟨b', cc', A', n', c', hb', g1, gc, g2, gm, gc2, gr2, gsb, gbg, gs2⟩ := hi.dev.parts
    have hbl : (backP d.bl (d.row.drop (n - k))).length = d.bl.length := backP_length _
    dsimp only at hb' g1 gc g2 gm gs2
    rw [hbl] at hb' g1 gc
    have hth : ∀ v, Later V v → v.there b' (x.pl * 64) (Lib.byteCells x.was).length := fun v hv => by
      have := (g1.on hv).there (j := x.pl) (p := 0) (q := 64) (by simp only [blL, List.length_map]; rw [hbl]; exact hxr.1) (by decide)
      rw [bc_len, hxr.2.1]
      exact this
    refine wpIn_block (bkBack3 rfl (by kernel_rfl) (by kernel_rfl) ⟨_, rfl, rfl, rfl, rfl, by kernel_rfl⟩ ⟨_, rfl, rfl, rfl, rfl, by kernel_rfl⟩ ⟨_, rfl, rfl, rfl, rfl, by kernel_rfl⟩ ⟨_, rfl, rfl, rfl, rfl, by kernel_rfl⟩ ⟨_, rfl, rfl, rfl, rfl, by kernel_rfl⟩ ⟨_, rfl, rfl, rfl, rfl, by kernel_rfl⟩ ⟨_, rfl, rfl, rfl, rfl, by kernel_rfl⟩ ⟨_, rfl, rfl, rfl, rfl, by kernel_rfl⟩ ⟨_, rfl, rfl, rfl, rfl, by kernel_rfl⟩ ⟨_, rfl, rfl, rfl, rfl, by kernel_rfl⟩ (of_decide_eq_true rfl) (gb := w.heap.size) (gx := gx) (b := b') (N := d.bl.length) (c := cc') (x := x) rfl rfl (hi.box.cell rfl) (hb'.cell rfl) hbx hxr.2.1 hxr.1 hth (fun ⟨_, _, h⟩ => h) (fun a w1 w2 v0 so l1 hx => ?_))
    have hw2 : w2 = w1.setCells b' (x.pl * 64) (Lib.byteCells x.was) := hx
    have hch : Chg (fun q => q = b') w1 w2 := by rw [hw2]; exact sets_chg _ _ _
    have hch2 : Chg (fun q => q = b') V w2 := (Chg.later l1).trans hch fun q hq => .inl hq
    obtain ⟨curb, hcb⟩ := g1.typed b' rfl
    have hdw : d.row.drop j = x :: d.row.drop (j + 1) := by
      have hjl := (List.getElem?_eq_some_iff.1 hat)
      obtain ⟨h1, h2⟩ := hjl
      rw [← h2]
      exact List.drop_eq_getElem_cons h1
    have hnk : n - k = j + 1 := by have := HM.out; omega
    have hbk : backP d.bl (d.row.drop (n - (k + 1))) = (backP d.bl (d.row.drop (n - k))).set x.pl x.was := by
      rw [show n - (k + 1) = j by omega, hdw, hnk]
      rfl
    have hset : OwnK 101 64 W w2 (.slice (some ⟨b', 0, none⟩) d.bl.length cc') ((backP d.bl (d.row.drop (n - (k + 1)))).map Lib.byteCells) := by
      have := (g1.on l1).setAll (j := x.pl) (vs := Lib.byteCells x.was) (by simp only [blL, List.length_map]; rw [hbl]; exact hxr.1) (by rw [bc_len]; exact hxr.2.1)
      rw [hw2, hbk, List.map_set]
      exact this
    have hdev : DevAt W w2 S g { d with bl := backP d.bl (d.row.drop (n - (k + 1))) } := by
      have := (hi.dev.later l1).blocks (bl' := backP d.bl (d.row.drop (n - (k + 1)))) (b := b') (c := cc') (m := n') (c2 := c') (B := A') (by dsimp only; rw [hbl]; exact hb'.later l1) (g2.on l1) gsb gbg gs2 hch (by dsimp only; rw [hbl]; exact hset) (by dsimp only; rw [backP_length, backP_length]) (fun y hy => backP_size HH.out.ok.size (fun z hz => (HH.out.ok.row z (List.mem_of_mem_drop hz)).2.1) y hy)
      exact this
    have hbne : b' ≠ w.heap.size := fun e => by have := HLS.out b' gsb; omega
    have hrowk : RowOk A n c (w.heap.size + 1) d.row w2 := by
      have hne : ∀ q, (Value.slice A n c).ownBlock = some q → q ≠ b' := fun q hq => by
        obtain ⟨cq, hq2⟩ := hi.row.2.2 q hq
        exact cells_apart hq2 hcb (by decide)
      refine ⟨⟨hi.row.1.1, hi.row.1.2.1, fun h0 => ?_⟩, hch2.cell hi.row.2.1 (fun e => by have := HLS.out b' gsb; dsimp only at e; omega), fun q hq => ?_⟩
      · obtain ⟨bq, oq, e, hcq⟩ := hi.row.1.2.2 h0
        exact ⟨bq, oq, e, fun j i cs v h1 h2 => hch2.cell (hcq j i cs v h1 h2) (hne bq (by rw [e]; rfl))⟩
      · obtain ⟨cq, hq2⟩ := hi.row.2.2 q hq
        exact ⟨cq, hq2.chg hch2 (hne q hq)⟩
    refine ⟨(KeepsFrom.ofLater l1).trans (KeepsFrom.chg hch (hcb.later l1)), fun _ => hrowk, hdev, (hi.box.later l1).chg hch (fun e => hbne e.symm), hrowk, hi.chg.trans hch2 fun q hq => .inl (by rw [hq]; exact gsb)⟩
  case done =>
    rintro D V hD hi hd
    have hdev := hi.dev
    rw [roundsW_length, HM.out, Nat.sub_self, List.drop_zero] at hdev
    have HDV := Lib.hid hdev; have HCG := Lib.hid hi.chg; have HD := Lib.hid hd
    clear hdev hi hd
    go_wp2
    refine ⟨by simp, .inl ⟨_, _, rfl, run_takeDeferred HD.out, ?_⟩⟩
    have hWD : W.heap.size ≤ D := by have := HWW.out; omega
    exact ⟨_, results_none rfl _ _ _, rfl, HDV.out.shut (fun q hq e => by have := HLS.out q hq; omega) hWD, HCG.out.trans (chg_shut V D _) fun q hq => by rw [hq]; exact .inr (by omega)⟩
  case stop =>
    rintro D k V _ _ h _
    exact h.elim
end

end Go.Proofs.Ytaonfedjilfgjaa

/-
  What a crash leaves: Crash, as a call.
-/
namespace Go.Proofs.Ytaonfedjilfgjaa
open Go.RowKit

section
variable {W w V V' : World} {S : Nat → Prop} {g n : Nat} {d : DvP} {A : Option Addr} {xs : List Int}
theorem IntsAt.chg (h : IntsAt V A n xs) (hc : Chg S V V') (hn : 0 < n → ∀ a, A = some a → ¬ S a.block) : IntsAt V' A n xs := ⟨h.1, fun hp => by
  obtain ⟨b, o, e, hcl⟩ := h.2 hp
  exact ⟨b, o, e, fun j x hx => hc.cell (hcl j x hx) (hn hp ⟨b, o, .none⟩ e)⟩⟩
theorem IntsAt.later (h : IntsAt V A n xs) (hl : Later V V') : IntsAt V' A n xs := h.chg (S := fun _ => False) (Chg.later hl) fun _ _ _ e => e
theorem RowK.cells129 {B : Option Addr} {m : Nat} (h : RowK 129 V B m (rowL d)) {k : Nat} (hk : k < m) : ∃ b o x, B = some ⟨b, o, .none⟩ ∧ d.row[k]? = some x ∧ V.rangeAt b (o + k * 129) (wrL x) := by
  obtain ⟨b, o, e, cs, hcs, _, hcc⟩ := h.get hk
  have hkl : k < d.row.length := by have := h.len; simp only [rowL, List.length_map] at this; omega
  have hz : d.row[k]? = some d.row[k] := List.getElem?_eq_getElem hkl
  refine ⟨b, o, d.row[k], e, hz, fun i v hi => hcc i v ?_⟩
  unfold rowL at hcs
  rw [List.getElem?_map, hz] at hcs
  cases hcs
  exact hi
set_option maxRecDepth 100000 in
set_option maxHeartbeats 1600000 in
theorem crashDev_any (h : DevAt W w S g d) (hro : d.row.length ≤ 900000) (c : Nat) (hx : IntsAt w A n xs) (hn : n ≤ 1000000000) (hr : ∀ x ∈ xs, -9223372036854775808 ≤ x ∧ x ≤ 9223372036854775807) (hA : 0 < n → ∀ a, A = some a → ¬ S a.block) :
    Calls Try.prog 18 #[.pointer (some ⟨g, 0, none⟩), .slice A n c] w fun e w' => e = .returned (.tuple #[]) ∧ DevAt W w' S g (crashP d xs) ∧ Chg S w w' := by
  have HBK := Lib.hid (back_any h hro)
  have HX := Lib.hid hx; have HR := Lib.hid hr; have HA := Lib.hid hA
  have HROW := Lib.hid h.ok.row
  have HOK := Lib.hid (crashP_ok h.ok xs)
  have HSL : Hid (∀ q, S q → q < w.heap.size) := fun q hq => (h.low q hq).2
  clear h hx hr hA
  go_enter Try.func18, Try.ntmps18
  go_wp2_with fail
  refine HBK.out.mono ?_
  rintro e w1 ⟨rfl, h1, hc1⟩
  obtain ⟨b, cc, B, m, c2, hb, g1, hcc, g2, hm, hc2, hr2, sb, bg, s2⟩ := h1.parts
  have q1 := hb.cell (i := 1) rfl
  simp only [List.getElem_toArray, List.getElem_cons_zero, List.getElem_cons_succ] at q1
  have H1 := Lib.hid h1; have HC1 := Lib.hid hc1; have HM := Lib.hid hm
  have HQ1 := Lib.hid q1
  dsimp only at hm
  have hmb : m ≤ 900000 := by rw [hm]; exact hro
  clear h1 hc1 hb g1 g2 s2 hr2 hm HBK
  go_wp2_with fail
  clear q1
  go_loopg [13] (m + 1) (fun g0 s13 wr => ∃ (k : Nat) (bl : List Bs), k ≤ m ∧ m - k ≤ g0 ∧ s13 = .int .i64 (k : Nat) ∧ Hid (DevAt W wr S g { d with bl := bl }) ∧ Hid (Chg S w wr) ∧ Hid (wr.cell? ⟨g, 1, none⟩ = some (.slice B m c2)) ∧ Hid (formsP xs k (d.row.drop k) bl = formsP xs 0 d.row (backP d.bl d.row)))
  case atStart => exact ⟨0, _, Nat.zero_le _, by omega, rfl, H1, HC1, HQ1, rfl⟩
  case round =>
    obtain ⟨k, bl, hk, hg, rfl, hdv, hcg, hq1, hfm⟩ := hrel
    by_cases hlt : k < m
    · obtain ⟨b', cc', B', m', c2', hb', g1, gcc, g2, gm, gc2, gr2, gsb, gbg, gs2⟩ := hdv.out.parts
      have hq := hb'.cell (i := 1) rfl
      simp only [List.getElem_toArray, List.getElem_cons_zero, List.getElem_cons_succ] at hq
      rw [hq1.out] at hq
      cases hq
      obtain ⟨br, o, x, rfl, hz, hrg⟩ := gr2.cells129 hlt
      dsimp only at hz
      have hxr := HROW.out x (List.mem_of_getElem? hz)
      have HRG := Lib.hid hrg; have HZ := Lib.hid hz; have HXR := Lib.hid hxr
      have hwl : (wrL x).length = 129 := wrL_len hxr.2
      have HWL := Lib.hid hwl
      clear hb' g1 g2 gs2 gr2 hrg hz hxr hwl gm
      go_wp2_with (with_reducible show wpList _ _ _ ({ dst := some 17, op := Op.load 103 _, type := _, pos := _, after := _, guard := _ } :: _) _ _; refine Hid.out ?_)
      refine Lib.hid (wpList_load_mid rfl _ _ rfl br (o + k * 129) rfl (wrL x) _ HRG.out Try.underlying103 rfl (by rw [HWL.out]; exact Try.writeSize) ?_)
      refine wpList_alloc_new rfl _ rfl _ Try.writeZero ?_
      intro w2 hc2' hl2 hs2
      go_wp2_with (with_reducible show wpList _ _ _ ({ dst := none, op := Op.store 103 _ _, type := _, pos := _, after := _, guard := _ } :: _) _ _; refine Hid.out ?_)
      refine Lib.hid (wpList_store_mids rfl rfl _ _ _ rfl wr.heap.size 0 (wrL x) rfl rfl (hc2'.there (by rw [HWL.out]; simp only [Value.cells, List.size_toArray]; rw [wrL_len ⟨zeros_length 64, zeros_length 64⟩]; decide)) (by rw [HWL.out]; exact Try.writeSize) (wrL_one _) ?_)
      intro w3 hw3
      have hl3 : Later wr w3 := by
        rw [hw3]
        exact (sets_chg (g := wr.heap.size) (wrL x) w2 0).low hl2 (fun k hk => by rw [hk]; exact Nat.le_refl _)
      have hc3 : CellsAt w3 wr.heap.size (wrL x).toArray 103 := by
        have := hc2'.sets (wrL x) (o := 0)
        rw [set_all (by simp only [Value.cells, List.size_toArray]; rw [HWL.out, wrL_len ⟨zeros_length 64, zeros_length 64⟩])] at this
        rw [hw3]
        exact this
      have HL3 := Lib.hid hl3; have HC3 := Lib.hid hc3
      clear hw3 hl2 hs2 hc2' hl3 hc3 HRG
      generalize hgw : wr.heap.size = gw at HC3 ⊢
      clear hgw
      go_wp2_with fail
      refine wp_region_still_tail 5 (by kernel_rfl) (by kernel_rfl) ?_
      simp only [List.take_succ_cons, List.take_zero, List.drop_succ_cons, List.drop_zero]
      still_step
      refine wpStill_load_mid rfl _ _ rfl gw 0 rfl (wrL x) _ ((HC3.out.later ((Later.refl w3).drew)).range (o := 0) (fun j u hj => by rw [Nat.zero_add, arr_get]; exact hj)) Try.underlying103 rfl (by rw [HWL.out]; exact Try.writeSize) ?_
      still_step
      still_step
      have hld : Later wr w3.drew := HL3.out.drew
      have hin : IntsAt w3.drew A n xs := (HX.out.chg hcg.out HA.out).later hld
      still_call (formOf_any A n c xs k w3.drew hin hn HR.out)
      refine wpStill_nil ?_
      refine (show wpList _ _ _ _ _ w3.drew from ?_)
      have HT := Lib.hid (take_any (hdv.out.later hld) x (hdv.out.ok.row x (List.mem_of_getElem? HZ.out)) (formB xs k) (formB_lt xs k))
      have HQ2 := Lib.hid (hld.cell hq1.out)
      have HCW := Lib.hid (hcg.out.then hld)
      clear hin hld HL3 HC3 hdv hcg hq1
      generalize w3.drew = w4 at HT HQ2 HCW ⊢
      go_wp2_with fail
      refine HT.out.mono ?_
      rintro e w5 ⟨rfl, hd5, hc5, hq5⟩
      have HD5 := Lib.hid hd5; have HC5 := Lib.hid (HCW.out.trans hc5 fun q hq => .inl hq); have HQ5 := Lib.hid (hq5 _ HQ2.out)
      clear hd5 hc5 hq5 HT HCW HQ2
      go_wp2
      go_roundg (m - (k + 1))
      case measure => omega
      case rel =>
        refine ⟨k + 1, _, by omega, by omega, by go_num, HD5, HC5, HQ5, ?_⟩
        have hdw : d.row.drop k = x :: d.row.drop (k + 1) := by
          obtain ⟨h1, h2⟩ := List.getElem?_eq_some_iff.1 HZ.out
          rw [← h2]
          exact List.drop_eq_getElem_cons h1
        have := hfm.out
        rw [hdw] at this
        exact this
    · obtain rfl : k = m := by omega
      have hdr : d.row.drop k = [] := List.drop_of_length_le (by have := HM.out; omega)
      have hbl : bl = formsP xs 0 d.row (backP d.bl d.row) := by
        have := hfm.out
        rw [hdr] at this
        exact this
      obtain ⟨b', cc', B', m', c2', hb', g1, gcc, g2, gm, gc2, gr2, gsb, gbg, gs2⟩ := hdv.out.parts
      have z1 := hb'.frozen 1; have z3 := hb'.frozen 3; have z5 := hb'.frozen 5
      have y3 := hb'.cell (i := 3) rfl; have y5 := hb'.cell (i := 5) rfl
      have y1 := hb'.cell (i := 1) rfl
      simp only [List.getElem_toArray, List.getElem_cons_zero, List.getElem_cons_succ] at y1 y3 y5
      have HB' := Lib.hid hb'; have G1 := Lib.hid g1; have HBL := Lib.hid hbl
      clear hb' g1 g2 gs2 gr2 hfm hdr hbl gm
      go_wp2
      go_end0
      have hch : Chg (fun q => q = g) wr (((wr.setCell ⟨g, 1, none⟩ (.slice none 0 0)).setCell ⟨g, 3, none⟩ (.bool false)).setCell ⟨g, 5, none⟩ (.bool false)) := ((chg_set wr g 1 _).trans (chg_set _ g 3 _) fun _ e => .inl e).trans (chg_set _ g 5 _) fun _ e => .inl e
      refine ⟨rfl, ?_, hcg.out.trans hch fun q hq => .inl (by rw [hq]; exact hdv.out.mem)⟩
      refine hdv.out.box (d' := crashP d xs) hch (((HB'.out.set1 1 (.slice none 0 0)).set1 3 (.bool false)).set1 5 (.bool false)) ?_ (OwnK.nil hdv.out.base) (fun q hq => by cases hq; exact ⟨gsb, gbg⟩) (fun q hq => by cases hq) HOK.out
      have e : blL (crashP d xs) = blL { d with bl := bl } := by unfold blL crashP; rw [HBL.out]
      rw [e]
      exact G1.out
end

end Go.Proofs.Ytaonfedjilfgjaa
