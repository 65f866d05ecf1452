/-
  slices.Backward at a row of writes: what its closure hands on, round by round.
-/
import Derived.RangeFuncNested
import Derived.RangeFuncBound
import Derived.RangeFuncCalls
import Derived.RangeFuncLeaves
import Derived.Shelf.Abstract
import Derived.Shelf.RegionOpen
import Derived.OwnWalkIn
import Derived.TacticsInMore
import Derived.LoopNIn
import Derived.LoopIn
import Derived.Test.YtknjkkdoeanhbaaBkLaws
import Derived.Test.YtknjkkdoeanhbaaSqRange
import Derived.Test.YtknjkkdoeanhbaaRgCoreIn
import Derived.Lib.Hide
namespace Go.Proofs.Ytknjkkdoeanhbaa
open Go.RowKit
attribute [local go_sem] Oper.semAt_some

def zeroW : WrP := ⟨0, [], []⟩
/-- The rounds: the last place first. -/
def roundsW (xs : List WrP) : List (Nat × WrP) := ((List.range xs.length).map fun j => (j, xs.getD j zeroW)).reverse
theorem roundsW_length (xs : List WrP) : (roundsW xs).length = xs.length := by simp [roundsW]
theorem roundsW_at {xs : List WrP} {k : Nat} {z : Nat × WrP} (h : (roundsW xs)[k]? = some z) : z.1 + k + 1 = xs.length ∧ xs[z.1]? = some z.2 := by
  have hk : k < xs.length := by have := (List.getElem?_eq_some_iff.1 h).1; rwa [roundsW_length] at this
  unfold roundsW at h
  rw [List.getElem?_reverse (by simpa using hk)] at h
  simp only [List.length_map, List.length_range, List.getElem?_map] at h
  rw [List.getElem?_range (by omega)] at h
  simp only [Option.map_some, Option.some.injEq] at h
  subst h
  dsimp only
  refine ⟨by omega, ?_⟩
  rw [List.getD, List.getElem?_eq_getElem (by omega)]
  rfl
theorem roundsW_get {xs : List WrP} {j k : Nat} {x : WrP} (h : xs[j]? = some x) (hk : j + k + 1 = xs.length) : (roundsW xs)[k]? = some (j, x) := by
  unfold roundsW
  rw [List.getElem?_reverse (by simp; omega)]
  simp only [List.length_map, List.length_range, List.getElem?_map]
  rw [List.getElem?_range (by omega), show xs.length - 1 - k = j by omega]
  simp [List.getD, h]
/-- What a round hands on. -/
def backVW (z : Nat × WrP) : Array Value := #[.int .i64 (z.1 : Nat), .agg (wrL z.2).toArray]
/-- The row stands, and its box. -/
def RowOk (A : Option Addr) (n c Bs : Nat) (xs : List WrP) (V : World) : Prop := RowK 129 V A n (xs.map wrL) ∧ V.cell? ⟨Bs, 0, none⟩ = some (.slice A n c) ∧ ∀ q, (Value.slice A n c).ownBlock = some q → ∃ cur, CellsAt V q cur 75
theorem cell_shutD {V : World} {l : Nat} {o o' : Obj} (hl : V.heap[l]? = some o) (ho : o.isCells = false) {a : Addr} {u : Value} (hc : V.cell? a = some u) : (V.putObj l o').cell? a = some u := by
  have hne : a.block ≠ l := by
    intro e
    unfold World.cell? at hc
    rw [e, hl] at hc
    cases o <;> simp_all [Obj.isCells]
  rw [World.cell?_of_block (World.putObj_heap_other hne)]
  exact hc
theorem RowOk.shut {A : Option Addr} {n c Bs : Nat} {xs : List WrP} {V : World} {l : Nat} {o o' : Obj} (h : RowOk A n c Bs xs V) (hl : V.heap[l]? = some o) (ho : o.isCells = false) : RowOk A n c Bs xs (V.putObj l o') :=
  ⟨⟨h.1.1, h.1.2.1, fun hn => by
    obtain ⟨b, q, e, hc⟩ := h.1.2.2 hn
    exact ⟨b, q, e, fun j i cs v h1 h2 => cell_shutD hl ho (hc j i cs v h1 h2)⟩⟩, cell_shutD hl ho h.2.1, fun q hq => by
    obtain ⟨cur, hc⟩ := h.2.2 q hq
    refine ⟨cur, ?_⟩
    unfold CellsAt at hc ⊢
    rw [World.putObj_heap_other (fun e => by rw [e, hl] at hc; cases hc; cases ho)]
    exact hc⟩
theorem RowOk.later {A : Option Addr} {n c Bs : Nat} {xs : List WrP} {V V' : World} (h : RowOk A n c Bs xs V) (hl : Later V V') : RowOk A n c Bs xs V' := ⟨h.1.later hl, hl.cell h.2.1, fun q hq => (h.2.2 q hq).imp fun _ hc => hc.later hl⟩

set_option maxRecDepth 100000 in
set_option maxHeartbeats 2000000 in
theorem back1w_in (m l Bs : Nat) (A : Option Addr) (n c : Nat) (xs : List WrP) (hm : 1 ≤ m) (hn : n ≤ 1000000) (J Jx : Nat → World → Prop)
    (hY : ∀ k x W, (roundsW xs)[k]? = some x → J k W → YieldAt Fence.wide (m - 1) Try.prog l (backVW x) W fun e W' =>
      (e = .returned (.bool true) ∧ J (k + 1) W' ∧ (RowOk A n c Bs xs W → RowOk A n c Bs xs W')) ∨ (e = .returned (.bool false) ∧ Jx (k + 1) W'))
    (W : World) (hok : RowOk A n c Bs xs W) (h0 : J 0 W) :
    CallsIn Fence.wide m Try.prog 51 #[.func (.yield l) #[] #[], .pointer (some ⟨Bs, 0, none⟩)] W fun e W' => (∃ v, e = .returned v) ∧
      (J (roundsW xs).length W' ∨ ∃ k, k ≤ (roundsW xs).length ∧ Jx k W') := by
  have hlen : xs.length = n := by have := hok.1.len; simpa using this
  have hbs := hok.2.1
  have HOK := Lib.hid hok
  clear hok
  refine callsIn_of_wp Try.func51 rfl trivial ?_ rfl
  simp only [Try.ntmps51, List.size_toArray, List.length_cons, List.length_nil, Nat.reduceAdd, Nat.reduceSub, Array.replicate_succ, Array.replicate_zero, List.push_toArray, List.append_toArray, List.nil_append, List.cons_append]
  gi_wp2
  gi_loopw [3] (fun s wr => ∃ r : Nat, r ≤ n ∧ s = .int .i64 ((r : Int) - 1) ∧ J (n - r) wr ∧ RowOk A n c Bs xs wr)
    (fun s _ => (intOf s + 1).toNat)
  case atStart => exact ⟨n, Nat.le_refl _, by go_num, by rw [Nat.sub_self]; exact h0, HOK.out⟩
  case round =>
    obtain ⟨r, hr, rfl, hJs, hok⟩ := hrel
    rcases Nat.eq_zero_or_pos r with h0 | h0
    · subst h0
      clear hok
      gi_wp2
      go_end0
      exact ⟨⟨_, rfl⟩, .inl (by rw [roundsW_length, hlen]; exact hJs)⟩
    · obtain ⟨j, rfl⟩ : ∃ j, r = j + 1 := ⟨r - 1, by omega⟩
      rw [show ((j + 1 : Nat) : Int) - 1 = (j : Int) by omega]
      obtain ⟨b, o, rfl, cs, hcs, hcl, hcc⟩ := hok.1.get (show j < n by omega)
      have hjl : j < xs.length := by omega
      have hz : xs[j]? = some xs[j] := List.getElem?_eq_getElem hjl
      generalize xs[j] = x at hz
      have hcs2 : cs = wrL x := by
        rw [List.getElem?_map, hz] at hcs
        exact (Option.some.inj hcs).symm
      subst hcs2
      have hrg : wr.rangeAt b (o + j * 129) (wrL x) := fun i v hi => hcc i v hi
      obtain ⟨fn, tmps, assign, body, hy, hR⟩ := hY (n - (j + 1)) (j, x) wr (roundsW_get hz (by omega)) hJs
      simp only [backVW] at hy hR
      have hbw := hok.2.1
      have HRG := Lib.hid hrg; have HR := Lib.hid hR; have HOW := Lib.hid hok; have HCL := Lib.hid hcl
      clear hR hz hrg hcc hcs hok hcl
      gi_wp2_with (with_reducible show wpListIn _ _ _ _ _ ({ dst := some 16, op := Op.load 75 _, type := _, pos := _, after := _, guard := _ } :: _) _ _; refine Hid.out ?_)
      refine Lib.hid (wpListIn_out rfl ?_)
      refine wp_load_mid _ _ rfl b (o + j * 129) rfl (wrL x) _ HRG.out Try.underlying75 rfl (by rw [HCL.out]; exact Try.writeSize) ?_
      gi_wp2
      refine HR.out.mono ?_
      rintro e W3 (⟨rfl, hJ3, hk3⟩ | ⟨rfl, hJx3⟩)
      · rw [show n - (j + 1) + 1 = n - j by omega] at hJ3
        have hok3 := Lib.hid (hk3 HOW.out)
        clear hk3
        gi_wp2
        go_roundw
        case rel => exact ⟨j, by omega, by go_num, hJ3, hok3.out⟩
        case measure => simp [intOf]
      · gi_wp2
        refine bodyPost_ret (results_none rfl _ _ _) rfl ?_
        exact ⟨⟨_, rfl⟩, .inr ⟨_, by rw [roundsW_length]; omega, hJx3⟩⟩

/-- slices.Backward(s): the slice is boxed; the function value captures the box. -/
theorem backW_any (A : Option Addr) (n c : Nat) (w : World) :
    Calls Try.prog 48 #[.slice A n c] w fun e w' => e = .returned (.func (.func 51) #[] #[.pointer (some ⟨w.heap.size, 0, none⟩)]) ∧ w' = w.alloc (.cells #[.slice A n c] 65) := by
  go_enter Try.func48, Try.ntmps48
  go_wp2
  go_ret
  exact ⟨rfl, rfl⟩

theorem backW_hands (m Bs : Nat) (hm : 1 ≤ m) (A : Option Addr) (n c : Nat) (xs : List WrP) (hn : n ≤ 1000000) (w : World) (hok : RowOk A n c Bs xs w) :
    Hands m Try.prog 51 #[.pointer (some ⟨Bs, 0, none⟩)] backVW (fun V V' => RowOk A n c Bs xs V → RowOk A n c Bs xs V') (roundsW xs) w := fun l J Jx W hW hY h0 =>
  back1w_in m l Bs A n c xs hm hn J Jx hY W (hok.later hW) h0

end Go.Proofs.Ytknjkkdoeanhbaa
