import Derived.RangeFuncNested
import Derived.RangeFuncBound
import Derived.RangeFuncCalls
import Derived.RangeFuncLeaves
import Derived.Test.YtlnjhimbgckdcaaGreatPk1
import Derived.Shelf.Abstract
import Derived.Shelf.RegionOpen
import Derived.OwnWalkIn
import Derived.TacticsInMore
import Derived.LoopNIn
import Derived.LoopIn
import Derived.Test.YtlnjhimbgckdcaaGreatPk5
import Derived.Lib.Hide
import Derived.Test.YtlnjhimbgckdcaaGreatPk8
import Derived.Test.YtlnjhimbgckdcaaGreatPk6
import Derived.Test.YtlnjhimbgckdcaaGreatPk7

/-
  A range over a function that hands on the places of a known row, in order: the round of place k is walked with what is known of place k.
-/
namespace Go.Proofs.YtlnjhimbgckdcaaGreat
open Go.RowKit

def Hands {α : Type} (m : Nat) (P : Program) (gf : Nat) (lb : Array Value) (encs : α -> Array Value) (Kp : World -> World -> Prop) (zs : List α) (w : World) : Prop :=
  ∀ (l : Nat) (J Jx : Nat -> World -> Prop) (W : World), Later w W →
    (∀ k x V, zs[k]? = some x -> J k V -> YieldAt Fence.wide (m - 1) P l (encs x) V fun e V' => (e = .returned (.bool true) /\ J (k + 1) V' /\ Kp V V') ∨ (e = .returned (.bool false) /\ Jx (k + 1) V')) →
    J 0 W -> CallsIn Fence.wide m P gf (#[.func (.yield l) #[] #[]] ++ lb) W fun e V => (∃ v, e = .returned v) /\ (J zs.length V ∨ ∃ k, k <= zs.length /\ Jx k V)

def Books (B : Nat) (I : World -> Prop) : Prop := ∀ V l o o', I V -> B <= l -> V.heap[l]? = some o -> o.isCells = false -> I (V.putObj l o')

def rowPost (B : Nat) (Kp : World -> World -> Prop) (I Ix : World -> Prop) (V : World) : Exit -> Act -> World -> Prop
  | .normal, _, V' => KeepsFrom B V V' /\ Kp V V' /\ I V'
  | .ret, _, V' => KeepsFrom B V V' /\ Ix V'
  | _, _, _ => False

theorem range_rows {P : Program} {α : Type} {g : Operand} {ps : Array Tmp} {assign body : Code} {Q : Exit -> Act -> World -> Prop} {a : Act} {w w0 : World} {gf : Nat} {lb : Array Value} {encs : α -> Array Value} {Kp : World -> World -> Prop} {zs : List α}
    (hg : a.eval g = .func (.func gf) #[] lb) (eg : ∀ args w, (callFunc gf args).run P w = .ok (.enter gf args) w) (hit : Hands 2 P gf lb encs Kp zs w0) (hw0 : Later w0 w) (hps : ∀ x, (encs x).size = ps.size)
    (hKt : ∀ {X Y Z : World}, Kp X Y -> Kp Y Z -> Kp X Z) (hKb : ∀ V l o o', w.heap.size <= l -> V.heap[l]? = some o -> o.isCells = false -> Kp V (V.putObj l o'))
    (I Ix : Nat -> World -> Prop) (Ax : Nat -> α -> Act -> World -> Prop) (hI : ∀ k, Books w.heap.size (I k)) (hIx : ∀ k, Books w.heap.size (Ix k)) (hAx : ∀ k x a', Books w.heap.size (Ax k x a')) (hIb : ∀ o o', I 0 w -> I 0 ((w.alloc o).alloc o')) (h0 : I 0 w)
    (hassign : ∀ (l k : Nat) (x : α) (V : World) (K : Act -> World -> Prop), zs[k]? = some x -> I k V -> (∀ a' V', KeepsFrom w.heap.size V V' -> Kp V V' -> Ax k x a' V' -> K a' V') →
      assign.wpIn (Fence.wide.inRound l) 1 P (Exit.then K (fun _ _ _ => False)) { tmps := (ps.zip (encs x)).foldl (fun t (p, v) => t.setIfInBounds p v) a.tmps, defers := [] } V)
    (hbody : ∀ (l k : Nat) (x : α) (a' : Act) (V : World), zs[k]? = some x -> Ax k x a' V -> body.wpIn (Fence.wide.inRound l) 1 P (rowPost w.heap.size Kp (I (k + 1)) (Ix (k + 1)) V) a' V)
    (hdone : ∀ (D : Nat) (V : World), w.heap.size <= D -> I zs.length V -> V.heap[D]? = some (.deferred (some [])) -> Q .normal { a with defers := { target := .collected D, args := #[] } :: a.defers } V)
    (hstop : ∀ (D k : Nat) (V : World), w.heap.size <= D -> k <= zs.length -> Ix k V -> V.heap[D]? = some (.deferred (some [])) -> Q .ret { a with defers := { target := .collected D, args := #[] } :: a.defers } V) :
    (Code.rangeFunc g ps assign body).wp P Q a w := by
  refine (wpIn_wide (n := 3)).1 (wpIn_rangeFunc fun fn hfn => ?_)
  -- the loop's two blocks: D (calls put off), L (the record)
  have key : ∃ (rec : LoopState -> Option Code -> Loop) (V1 : World), V1 = (w.alloc (.deferred (some []))).alloc (.loop (rec .ready none)) ∧
      (∀ st pe, (rec st pe).fn = fn /\ (rec st pe).tmps = a.tmps /\ (rec st pe).params = ps /\ (rec st pe).assign = assign /\ (rec st pe).body = body /\ (rec st pe).state = st /\ (rec st pe).pending = pe) ∧
      (∀ st pe st' pe', { rec st pe with state := st', pending := pe' } = rec st' pe') /\ (∀ st pe st', { rec st pe with state := st' } = rec st' pe) ∧
      (Instr.enterLoop fn a.tmps ps assign body none).run P w = .ok (w.heap.size + 1, [{ target := .collected w.heap.size, args := #[] }]) V1 :=
    ⟨fun st pe => { state := st, pending := pe, fn := fn, tmps := a.tmps, params := ps, assign := assign, body := body, defers := w.heap.size }, _, rfl, fun _ _ => ⟨rfl, rfl, rfl, rfl, rfl, rfl, rfl⟩, fun _ _ _ _ => rfl, fun _ _ _ => rfl, run_enterLoop_outer fn a.tmps ps assign body⟩
  obtain ⟨rec, V1, hV1, hrec, hturn, hstate, henter⟩ := key
  have hL1 : V1.heap[w.heap.size + 1]? = some (.loop (rec .ready none)) := by
    rw [hV1, ← World.size_alloc w (.deferred (some []))]
    exact World.alloc_heap_new _ _
  have hD1 : V1.heap[w.heap.size]? = some (.deferred (some [])) := by
    rw [hV1, Below.heap_alloc _ _ _ (by simp)]
    exact World.alloc_heap_new _ _
  have hlater : Later w V1 := by rw [hV1]; exact ((Later.refl w).alloc _).alloc _
  refine ⟨w.heap.size + 1, _, V1, { target := .fn (.func gf) lb, args := #[.func (.yield (w.heap.size + 1)) #[] #[]] }, V1, gf, #[.func (.yield (w.heap.size + 1)) #[] #[]] ++ lb, V1, henter, ?_, (fun _ _ => trivial), ?_, (fun _ => by decide), ?_⟩
  · simp only [resolve, hg]
    simp [go_sem]
  · simp [invoke, go_sem, eg]
  refine (hit (w.heap.size + 1) (fun k V => I k V /\ V.heap[w.heap.size + 1]? = some (.loop (rec .ready none)) /\ V.heap[w.heap.size]? = some (.deferred (some [])))
    (fun k V => Ix k V /\ V.heap[w.heap.size + 1]? = some (.loop (rec .done (some .ret))) /\ V.heap[w.heap.size]? = some (.deferred (some []))) V1 (hw0.trans hlater) ?_ ⟨by rw [hV1]; exact hIb _ _ h0, hL1, hD1⟩).mono ?_
  · -- a round
    rintro k x V hx ⟨hi, hl, hd⟩
    have hy := run_yield (P := P) (args := encs x) hl (by rw [(hrec _ _).2.2.1]; exact hps x)
    refine ⟨_, _, _, _, hy, ?_⟩
    rw [(hrec _ _).1, (hrec _ _).2.1, (hrec _ _).2.2.1, (hrec _ _).2.2.2.1, (hrec _ _).2.2.2.2.1]
    refine roundIn_of_wpIn hfn (hassign _ k x V _ hx hi fun a' Va hka hkpa hax => ?_)
    have hla := hka.same _ _ (by omega) hl rfl
    have hda := hka.same _ _ (Nat.le_refl _) hd rfl
    have hlt := (Array.getElem?_eq_some_iff.1 hla).1
    refine ⟨_, run_beginRound hla (hrec _ _).2.2.2.2.2.1, ?_⟩
    rw [hstate]
    have hlb : (Va.putObj (w.heap.size + 1) (.loop (rec .busy none))).heap[w.heap.size + 1]? = some (.loop (rec .busy none)) := World.putObj_heap_same hlt
    have hdb : (Va.putObj (w.heap.size + 1) (.loop (rec .busy none))).heap[w.heap.size]? = some (.deferred (some [])) := (World.putObj_heap_other (by omega)).trans hda
    have hkb : Kp V (Va.putObj (w.heap.size + 1) (.loop (rec .busy none))) := hKt hkpa (hKb _ _ _ _ (by omega) hla rfl)
    refine wpIn_mono (hbody _ k x a' _ hx (hAx k x a' _ _ _ _ hax (by omega) hla rfl)) fun e a3 V3 hp => ?_
    cases e with
    | normal =>
      obtain ⟨hk3, hkp3, hi3⟩ := hp
      have hl3 := hk3.same _ _ (by omega) hlb rfl
      have hd3 := hk3.same _ _ (Nat.le_refl _) hdb rfl
      have hend := run_endRound (P := P) none hl3
      rw [show ({ rec .busy none with state := if (none : Option Code).isNone then .ready else .done, pending := none } : Loop) = rec .ready none from hturn _ _ _ _] at hend
      exact ⟨_, _, hend, .inl ⟨rfl, ⟨hI _ _ _ _ _ hi3 (by omega) hl3 rfl, World.putObj_heap_same (Array.getElem?_eq_some_iff.1 hl3).1, (World.putObj_heap_other (by omega)).trans hd3⟩, hKt hkb (hKt hkp3 (hKb _ _ _ _ (by omega) hl3 rfl))⟩⟩
    | ret =>
      obtain ⟨hk3, hi3⟩ := hp
      have hl3 := hk3.same _ _ (by omega) hlb rfl
      have hd3 := hk3.same _ _ (Nat.le_refl _) hdb rfl
      have hend := run_endRound (P := P) (some .ret) hl3
      rw [show ({ rec .busy none with state := if (some Code.ret).isNone then .ready else .done, pending := some .ret } : Loop) = rec .done (some .ret) from hturn _ _ _ _] at hend
      exact ⟨_, _, hend, .inr ⟨rfl, hIx _ _ _ _ _ hi3 (by omega) hl3 rfl, World.putObj_heap_same (Array.getElem?_eq_some_iff.1 hl3).1, (World.putObj_heap_other (by omega)).trans hd3⟩⟩
    | exit id => exact hp.elim
    | goto t => exact hp.elim
    | panic ch => exact hp.elim
    | outgrown => exact hp.elim
  · -- behind the function
    rintro e V2 ⟨⟨v, rfl⟩, (⟨hi, hl, hd⟩ | ⟨k, hk, hi, hl, hd⟩)⟩
    · refine ⟨none, _, ?_, hdone _ _ (Nat.le_refl _) (hI _ _ _ _ (.loop (rec .exhausted none)) hi (by omega) hl rfl) ((World.putObj_heap_other (by omega)).trans hd)⟩
      have := run_endLoop (P := P) hl (by rw [(hrec _ _).2.2.2.2.2.1]; simp)
      rw [hstate, (hrec _ _).2.2.2.2.2.2] at this
      exact this
    · refine ⟨some .ret, _, ?_, wpIn_ret (hstop _ k _ (Nat.le_refl _) hk (hIx _ _ _ _ (.loop (rec .exhausted (some .ret))) hi (by omega) hl rfl) ((World.putObj_heap_other (by omega)).trans hd))⟩
      have := run_endLoop (P := P) hl (by rw [(hrec _ _).2.2.2.2.2.1]; simp)
      rw [hstate, (hrec _ _).2.2.2.2.2.2] at this
      exact this

end Go.Proofs.YtlnjhimbgckdcaaGreat

/-
  slices.Backward at a row of prims: what its closure hands on, round by round.
-/
namespace Go.Proofs.YtlnjhimbgckdcaaGreat
open Go.RowKit Go.Maps
attribute [local go_sem] Oper.semAt_some

def rounds (xs : List PrC) : List (Nat × PrC) := ((List.range xs.length).map fun j => (j, xs.getD j zeroC)).reverse
theorem rounds_length (xs : List PrC) : (rounds xs).length = xs.length := by simp [rounds]
theorem rounds_at {xs : List PrC} {k : Nat} {z : Nat × PrC} (h : (rounds xs)[k]? = some z) : z.1 + k + 1 = xs.length /\ xs[z.1]? = some z.2 := by
  have hk : k < xs.length := by have := (List.getElem?_eq_some_iff.1 h).1; rwa [rounds_length] at this
  unfold rounds at h
  rw [List.getElem?_reverse (by simpa using hk)] at h
  simp only [List.length_map, List.length_range, List.getElem?_map] at h
  rw [List.getElem?_range (by omega)] at h
  simp only [Option.map_some, Option.some.injEq] at h
  subst h
  dsimp only
  refine ⟨by omega, ?_⟩
  rw [List.getD, List.getElem?_eq_getElem (by omega)]
  rfl
theorem rounds_get {xs : List PrC} {j k : Nat} {x : PrC} (h : xs[j]? = some x) (hk : j + k + 1 = xs.length) : (rounds xs)[k]? = some (j, x) := by
  unfold rounds
  rw [List.getElem?_reverse (by simp; omega)]
  simp only [List.length_map, List.length_range, List.getElem?_map]
  rw [List.getElem?_range (by omega), show xs.length - 1 - k = j by omega]
  simp [List.getD, h]
def backV (z : Nat × PrC) : Array Value := #[.int .i64 (z.1 : Nat), prV z.2]
def KpB (n₀ Bs : Nat) (W W' : World) : Prop := Below n₀ W W' /\ ∀ v, W.cell? ⟨Bs, 0, none⟩ = some v -> W'.cell? ⟨Bs, 0, none⟩ = some v
theorem KpB.trans {n₀ Bs : Nat} {X Y Z : World} (h : KpB n₀ Bs X Y) (k : KpB n₀ Bs Y Z) : KpB n₀ Bs X Z := ⟨h.1.trans k.1, fun v hv => k.2 v (h.2 v hv)⟩
theorem KpB.book {n₀ Bs B : Nat} (hB : n₀ <= B) (W : World) (l : Nat) (o o' : Obj) (hl : B <= l) (ho : W.heap[l]? = some o) (hc : o.isCells = false) : KpB n₀ Bs W (W.putObj l o') := by
  refine ⟨⟨rfl, rfl, rfl, by simp, fun i hi => World.putObj_heap_other (by omega)⟩, fun v hv => ?_⟩
  by_cases e : Bs = l
  · subst e
    simp only [World.cell?, ho] at hv
    cases o <;> simp_all [Obj.isCells]
  · simp only [World.cell?] at hv ⊢
    rw [World.putObj_heap_other e]
    exact hv

set_option maxRecDepth 100000 in
set_option maxHeartbeats 2000000 in
theorem back1_in (m l Bs : Nat) (hm : 1 <= m) (A : Option Addr) (n c : Nat) (xs : List PrC) (hn : n <= 524288) (w00 : World) (hrow : RowK 6 w00 A n (xs.map prL)) (J Jx : Nat -> World -> Prop)
    (hY : ∀ k x W, (rounds xs)[k]? = some x -> J k W -> YieldAt Fence.wide (m - 1) Tryz.prog l (backV x) W fun e W' =>
      (e = .returned (.bool true) /\ J (k + 1) W' /\ KpB w00.heap.size Bs W W') ∨ (e = .returned (.bool false) /\ Jx (k + 1) W'))
    (W : World) (hl : Later w00 W) (hBs : W.cell? ⟨Bs, 0, none⟩ = some (.slice A n c)) (h0 : J 0 W) :
    CallsIn Fence.wide m Tryz.prog 63 #[.func (.yield l) #[] #[], .pointer (some ⟨Bs, 0, none⟩)] W fun e W' => (∃ v, e = .returned v) ∧
      (J (rounds xs).length W' ∨ ∃ k, k <= (rounds xs).length /\ Jx k W') := by
  have hlen : xs.length = n := by have := hrow.len; simpa using this
  refine callsIn_of_wp Tryz.func63 rfl trivial ?_ rfl
  simp only [Tryz.ntmps63, List.size_toArray, List.length_cons, List.length_nil, Nat.reduceAdd, Nat.reduceSub, Array.replicate_succ, Array.replicate_zero, List.push_toArray, List.append_toArray, List.nil_append, List.cons_append]
  gi_wp2
  gi_loopw [3] (fun s wr => ∃ r : Nat, r <= n /\ s = .int .i64 ((r : Int) - 1) /\ J (n - r) wr /\ Later w00 wr /\ wr.cell? ⟨Bs, 0, none⟩ = some (.slice A n c))
    (fun s _ => (intOf s + 1).toNat)
  case atStart => exact ⟨n, Nat.le_refl _, by go_num, by rw [Nat.sub_self]; exact h0, hl, hBs⟩
  case round =>
    obtain ⟨r, hr, rfl, hJs, hlw, hbs⟩ := hrel
    rcases Nat.eq_zero_or_pos r with h0 | h0
    · subst h0
      gi_wp2
      go_end0
      exact ⟨⟨_, rfl⟩, .inl (by rw [rounds_length, hlen]; exact hJs)⟩
    · obtain ⟨j, rfl⟩ : ∃ j, r = j + 1 := ⟨r - 1, by omega⟩
      rw [show ((j + 1 : Nat) : Int) - 1 = (j : Int) by omega]
      obtain ⟨b, o, x, rfl, hz, g0, g1, g2, g3, g4, g5⟩ := (hrow.later hlw).getP (show j < n by omega)
      obtain ⟨fn, tmps, assign, body, hy, hR⟩ := hY (n - (j + 1)) (j, x) wr (rounds_get hz (by omega)) hJs
      simp only [backV, prV] at hy hR
      have HLW := Lib.hid hlw; have HBS := Lib.hid hbs; have HR := Lib.hid hR
      clear hlw hR hz
      gi_wp2
      refine HR.out.mono ?_
      rintro e W3 (⟨rfl, hJ3, hk3⟩ | ⟨rfl, hJx3⟩)
      · rw [show n - (j + 1) + 1 = n - j by omega] at hJ3
        gi_wp2
        go_roundw
        case rel => exact ⟨j, by omega, by go_num, hJ3, Below.trans HLW.out hk3.1, hk3.2 _ HBS.out⟩
        case measure => simp [intOf]
      · gi_wp2
        refine bodyPost_ret (results_none rfl _ _ _) rfl ?_
        exact ⟨⟨_, rfl⟩, .inr ⟨_, by rw [rounds_length]; omega, hJx3⟩⟩

theorem back_any (A : Option Addr) (n c : Nat) (w : World) :
    Calls Tryz.prog 48 #[.slice A n c] w fun e w' => e = .returned (.func (.func 63) #[] #[.pointer (some ⟨w.heap.size, 0, none⟩)]) /\ w' = w.alloc (.cells #[.slice A n c] 28) := by
  go_enter Tryz.func48, Tryz.ntmps48
  go_wp2
  go_ret
  exact ⟨rfl, rfl⟩

theorem back_hands (m Bs : Nat) (hm : 1 <= m) (A : Option Addr) (n c : Nat) (xs : List PrC) (hn : n <= 524288) (w00 w : World) (hrow : RowK 6 w00 A n (xs.map prL)) (hl : Later w00 w) (hBs : w.cell? ⟨Bs, 0, none⟩ = some (.slice A n c)) :
    Hands m Tryz.prog 63 #[.pointer (some ⟨Bs, 0, none⟩)] backV (KpB w00.heap.size Bs) (rounds xs) w := fun l J Jx W hW hY h0 =>
  back1_in m l Bs hm A n c xs hn w00 hrow J Jx hY W (hl.trans hW) (Later.cell hW hBs) h0

end Go.Proofs.YtlnjhimbgckdcaaGreat

/-
  What stands while a loop over a function keeps its books; what a round keeps.
-/
namespace Go.Proofs.YtlnjhimbgckdcaaGreat
open Go.RowKit Go.Maps

section
variable {V V' w : World} {l : Nat} {o o' : Obj}
theorem shut_turned (V : World) (l : Nat) (o' : Obj) : Turned l V (V.putObj l o') := grownBy_putObj' V l o'
theorem cell_off (hl : V.heap[l]? = some o) (ho : o.isCells = false) {a : Addr} {u : Value} (hc : V.cell? a = some u) : a.block ≠ l := by
  intro e
  unfold World.cell? at hc
  rw [e, hl] at hc
  cases o <;> simp_all [Obj.isCells]
theorem box_off (hl : V.heap[l]? = some o) (ho : o.isCells = false) {g : Nat} {cs : Array Value} {t : TypeId} (hb : BoxAt V g cs t) : g ≠ l := by
  rintro rfl
  unfold BoxAt at hb
  rw [hb] at hl
  cases hl
  cases ho
theorem BoxAt.shut {g : Nat} {cs : Array Value} {t : TypeId} (hb : BoxAt V g cs t) (hl : V.heap[l]? = some o) (ho : o.isCells = false) : BoxAt (V.putObj l o') g cs t := hb.other (shut_turned V l o') (box_off hl ho hb)
theorem Row.away_shut {A : Option Addr} {n c : Nat} {ss : List ByteArray} (h : Row V A n ss) (hl : V.heap[l]? = some o) (ho : o.isCells = false) (hs : ss ≠ []) : Off l (.slice A n c) := by
  have hn : 0 < n := by
    have := h.1
    cases ss with
    | nil => exact absurd rfl hs
    | cons s ss => simp at this; omega
  obtain ⟨b, o1, rfl, hc⟩ := h.2 hn
  cases ss with
  | nil => exact absurd rfl hs
  | cons s ss =>
    have := cell_off hl ho (hc 0 s rfl)
    intro e
    simp only [Value.ownBlock, Option.some.injEq] at e
    exact this e
theorem PrOk.shut {x : PrC} (h : PrOk V x) (hl : V.heap[l]? = some o) (ho : o.isCells = false) : PrOk (V.putObj l o') x := h.off (shut_turned V l o') ⟨h.old.away_shut hl ho, h.new.away_shut hl ho⟩
theorem OwnPs.shut {e : TypeId} {v : Value} {xs : List PrC} (h : OwnPs e w V v xs) (hw : w.heap.size <= l) (hl : V.heap[l]? = some o) (ho : o.isCells = false) : OwnPs e w (V.putObj l o') v xs := by
  refine h.other (shut_turned V l o') ?_ (fun x hx => ⟨(h.ok x hx).old.away_shut hl ho, (h.ok x hx).new.away_shut hl ho⟩) (h.later.turn (shut_turned V l o') hw)
  rcases h.own.1.2 with ⟨rfl, _⟩ | ⟨g, cap, cur, rfl, _, hh, _⟩
  · simp [Value.ownBlock]
  · intro e
    simp only [Value.ownBlock, Option.some.injEq] at e
    subst e
    rw [hh] at hl
    cases hl
    cases ho
theorem Later.shut (h : Later w V) (hw : w.heap.size <= l) : Later w (V.putObj l o') := h.turn (shut_turned V l o') hw

theorem KeepsFrom.later (h : Later V V') (B : Nat) : KeepsFrom B V V' := ⟨h.size, fun k _ _ hk _ => (h.block k (Array.getElem?_eq_some_iff.1 hk).1).trans hk⟩
theorem KeepsFrom.turn {B g : Nat} {cs : Array Value} {t : TypeId} (h : Turned g V V') (hb : BoxAt V g cs t) : KeepsFrom B V V' :=
  ⟨h.size, fun k _ _ hk ho => (h.block k (Array.getElem?_eq_some_iff.1 hk).1 (by have := box_off hk ho hb; simp; omega)).trans hk⟩
theorem KeepsFrom.grown {B : Nat} {e : TypeId} {v : Value} {xs : List PrC} (h : V.grownBy V' v.ownBlock) (ho : OwnPs e w V v xs) : KeepsFrom B V V' := by
  refine ⟨h.size, fun k _ _ hk hc => (h.block k (Array.getElem?_eq_some_iff.1 hk).1 ?_).trans hk⟩
  rcases ho.own.1.2 with ⟨rfl, _⟩ | ⟨g, cap, cur, rfl, _, hh, _⟩
  · simp [Value.ownBlock]
  · intro e
    simp only [Value.ownBlock, Option.some.injEq] at e
    subst e
    rw [hk] at hh
    cases hh
    cases hc
theorem below_between {n : Nat} {w V V' : World} (h : Below n w V) (k : Below n w V') (hs : V.heap.size <= V'.heap.size) : Below n V V' :=
  ⟨k.os.trans h.os.symm, k.tape.trans h.tape.symm, k.output.trans h.output.symm, hs, fun i hi => (k.block i hi).trans (h.block i hi).symm⟩
theorem kpB_of {Bs : Nat} {sl : Value} {t : TypeId} (h : Later w V) (k : Later w V') (hs : V.heap.size <= V'.heap.size) (hb : BoxAt V Bs #[sl] t) (hb' : BoxAt V' Bs #[sl] t) : KpB w.heap.size Bs V V' :=
  ⟨below_between h k hs, fun v hv => by
    have h1 := hb.cell (i := 0) rfl
    rw [h1] at hv
    cases hv
    exact hb'.cell rfl⟩
end
end Go.Proofs.YtlnjhimbgckdcaaGreat

/-
  More operations of a region that draws its order: make, len, an index, a store into a row.
-/
namespace Go.Proofs.YtlnjhimbgckdcaaGreat
open Go.RowKit Go.Maps

theorem made_zero (n : Nat) : (madeCells (Value.agg #[.int .i64 0, .string ByteArray.empty, .string ByteArray.empty, .int .i64 0, .slice none 0 0, .slice none 0 0]).cells (n * 6)).toList = ((List.replicate n zeroC).map prL).flatten := by
  have hk : ∀ cs ∈ (List.replicate n zeroC).map prL, cs.length = 6 := by
    intro cs hcs
    obtain ⟨y, _, rfl⟩ := List.mem_map.1 hcs
    rfl
  refine List.ext_getElem? fun j => ?_
  rcases Nat.lt_or_ge j (n * 6) with hj | hj
  · have hq : j / 6 < n := by omega
    have hat := flat_at (j := j / 6) (i := j % 6) hk (cs := prL zeroC) (by simp [hq]) (Nat.mod_lt _ (by decide))
    rw [show j / 6 * 6 + j % 6 = j by omega] at hat
    rw [hat]
    have h6 : j % 6 = 0 ∨ j % 6 = 1 ∨ j % 6 = 2 ∨ j % 6 = 3 ∨ j % 6 = 4 ∨ j % 6 = 5 := by omega
    simp only [madeCells, Value.cells]
    rcases h6 with h | h | h | h | h | h <;> simp [hj, h, prL, zeroC, zeroPr]
  · rw [List.getElem?_eq_none (by simp [madeCells]; exact hj), List.getElem?_eq_none (by rw [flat_length hk]; simpa using hj)]
theorem zero_away (g : Nat) : Away g zeroC := ⟨fun h => absurd rfl h, fun h => absurd rfl h⟩
section
variable {ops : Array Oper} {Q : Exit -> Act -> World -> Prop} {K : Act -> World -> Prop} {i : Nat} {dst : Option Tmp} {js : List Nat} {a : Act} {w w0 : World}
theorem OpIs.lenS {k : Tmp} {A : Option Addr} {n c : Nat} (h : OpIs ops i (.call { callee := .builtin .len, args := #[.tmp k], argTypes := #[28] }) dst js) (he : a.eval (.tmp k) = .slice A n c) (hk : K (a.put dst (.int .i64 n)) w) : wpOp Tryz.prog ops Q i K a w :=
  h.go fun o h1 h2 => by
    have hr : (execOp a.eval o).run Tryz.prog w = .ok (.value (.int .i64 n)) w := by
      unfold execOp
      rw [h1]
      simp only [resolve, invoke, builtin, Sem.run_bind, List.map_toArray, List.map_cons, List.map_nil, he]
      go_simp
    unfold Oper.wp
    rw [hr]
    show K _ _
    rw [h2]
    exact hk
theorem OpIs.makeS {j k : Tmp} {n : Nat} (h : OpIs ops i (.makeSlice 28 (.tmp j) (.tmp k)) dst js) (hj : a.eval (.tmp j) = .int .i64 n) (hk' : a.eval (.tmp k) = .int .i64 n) (hn : n <= 1000000) (hl : Later w0 w)
    (hk : ∀ w', OwnPs 58 w0 w' (.slice (some ⟨w.heap.size, 0, none⟩) n n) (List.replicate n zeroC) -> Later w w' -> K (a.put dst (.slice (some ⟨w.heap.size, 0, none⟩) n n)) w') : wpOp Tryz.prog ops Q i K a w :=
  h.go fun o h1 h2 => by
    obtain ⟨i0, hi, hz0, hz1, hz2⟩ := info_parts Tryz.primInfo
    obtain ⟨w', hrun, r1, r2⟩ := run_make_full (P := Tryz.prog) w w0.heap.size 28 58 i0 _ 6 Tryz.underlying28 hi hz0 hz1 .i64 .i64 n (by rw [hz2]; omega) (by simp only [maxLen]; omega) hl.le
    have hlw : Later w w' := ⟨r2.os, r2.tape, r2.output, r2.size, fun i hi => r2.block i hi (by simp)⟩
    unfold Oper.wp execOp
    simp only [h1, hj, hk', hrun, Sem.run_bind, Sem.run_pure, Result.andThen_ok]
    show K _ _
    rw [h2]
    rw [made_zero] at r1
    refine hk w' ⟨⟨by simpa using r1, fun cs hcs => ?_, hl.trans hlw⟩, fun x hx => ?_, fun x hx g _ => ?_⟩ hlw
    · obtain ⟨y, _, rfl⟩ := List.mem_map.1 hcs
      rfl
    · rw [List.eq_of_mem_replicate hx]; exact zeroC_ok _
    · rw [List.eq_of_mem_replicate hx]; exact zero_away g
theorem OpIs.index {j k : Tmp} {g o n c m : Nat} (h : OpIs ops i (.indexAddr 28 (.tmp j) (.tmp k)) dst js) (hj : a.eval (.tmp j) = .slice (some ⟨g, o, none⟩) n c) (hk' : a.eval (.tmp k) = .int .i64 (m : Nat)) (hm : m < n) (hk : K (a.put dst (.pointer (some ⟨g, o + m * 6, none⟩))) w) : wpOp Tryz.prog ops Q i K a w :=
  h.go fun op h1 h2 => by
    have hr : (execOp a.eval op).run Tryz.prog w = .ok (.value (.pointer (some ⟨g, o + m * 6, none⟩))) w := by
      unfold execOp
      rw [h1]
      dsimp only
      rw [hj, hk']
      go_simp
    unfold Oper.wp
    rw [hr]
    show K _ _
    rw [h2]
    exact hk
theorem OpIs.storeP {j k : Tmp} {T e : TypeId} {g o n c m : Nat} {xs : List PrC} {x : PrC} (h : OpIs ops i (.store T (.tmp j) (.tmp k)) none js) (hi : (Tryz.prog.info? T).map (·.size) = some 6) (hj : a.eval (.tmp j) = .pointer (some ⟨g, o + m * 6, none⟩)) (hv : a.eval (.tmp k) = prV x)
    (hown : OwnPs e w0 w (.slice (some ⟨g, o, none⟩) n c) xs) (hin : m < n) (hx : PrOk w x) (ha : Away g x) (hk : ∀ w', OwnPs e w0 w' (.slice (some ⟨g, o, none⟩) n c) (xs.set m x) -> Turned g w w' -> K a w') : wpOp Tryz.prog ops Q i K a w :=
  h.go fun op h1 h2 => by
    obtain ⟨b', o', q, hA, hz, hok, g0, g1, g2, g3, g4, g5⟩ := hown.ps.get hin
    cases hA
    have hth : w.there g (o + m * 6) 6 := by
      intro r hr
      refine ⟨?_, hown.frozen _⟩
      match r, hr with
      | 0, _ => rw [Nat.add_zero, g0]; rfl
      | 1, _ => rw [g1]; rfl
      | 2, _ => rw [g2]; rfl
      | 3, _ => rw [g3]; rfl
      | 4, _ => rw [g4]; rfl
      | 5, _ => rw [g5]; rfl
    refine wp_store_mid T (.tmp j) (.tmp k) h1 g (o + m * 6) (prL x).toArray hj (hv.trans (prV_is x)) hth hi (prL_one x) ?_
    rw [h2, put_none]
    exact hk _ (hown.set hin x hx ha) (turned_sets w g o m _ _ _ _ _ _)
end

end Go.Proofs.YtlnjhimbgckdcaaGreat

/-
  The first statement of Swap: in whatever order its operations come.
-/
namespace Go.Proofs.YtlnjhimbgckdcaaGreat
open Go.RowKit Go.Maps

structure SwAD where
  v : Value
  ys : List PrC
  u : Value
structure SwA (w V0 : World) (m : List Pr) (n : Nat) (b : Bool) (s : Nat) (D : SwAD) (V : World) : Prop where
  later : Later w V
  size : V0.heap.size <= V.heap.size
  x4 : BoxAt V w.heap.size #[if 2 <= s then D.v else .slice none 0 0] 28
  x5 : BoxAt V (w.heap.size + 1) #[if 3 <= s then D.u else .slice none 0 0] 28
  x6 : BoxAt V (w.heap.size + 2) #[.bool false] 4
  first : 1 <= s -> OwnPs 58 w V D.v D.ys /\ valsP D.ys = m /\ ∀ y ∈ D.ys, Fresh V0 y
  second : b = true -> OwnPs 58 w V D.u (List.replicate n zeroC)
  apart : 1 <= s -> b = true -> (∀ g, D.v.ownBlock = some g -> D.u.ownBlock ≠ some g) /\ ∀ y ∈ D.ys, ∀ g, D.u.ownBlock = some g -> Away g y
section
variable {w V0 V V' : World} {m : List Pr} {n : Nat} {b : Bool} {s : Nat} {D : SwAD}
theorem SwA.clone (h : SwA w V0 m n b 0 D V) {v : Value} {ys : List PrC} (ho : OwnPs 58 V V' v ys) (hv : valsP ys = m) (hf : ∀ y ∈ ys, Fresh V y) : SwA w V0 m n b 1 { D with v := v, ys := ys } V' := by
  have hl := ho.later
  refine ⟨h.later.trans hl, Nat.le_trans h.size hl.le, h.x4.later hl, h.x5.later hl, h.x6.later hl, fun _ => ⟨ho.base h.later, hv, fun y hy => ?_⟩, fun e => (h.second e).on hl, fun _ e => ⟨fun g hg hu => ?_, fun y hy g hu => ?_⟩⟩
  · exact ⟨fun k hk => Nat.le_trans h.size ((hf y hy).1 k hk), fun k hk => Nat.le_trans h.size ((hf y hy).2 k hk)⟩
  · have h1 := ho.block g hg
    have h2 := (h.second e).lt g hu
    omega
  · exact (hf y hy).away ((h.second e).lt g hu)
theorem SwA.make (h : SwA w V0 m n false s D V) (hs : s <= 2) {c : Nat} (ho : OwnPs 58 w V' (.slice (some ⟨V.heap.size, 0, none⟩) n c) (List.replicate n zeroC)) (hl : Later V V') : SwA w V0 m n true s { D with u := .slice (some ⟨V.heap.size, 0, none⟩) n c } V' := by
  have h5 := h.x5
  rw [if_neg (by omega)] at h5
  refine ⟨h.later.trans hl, Nat.le_trans h.size hl.le, h.x4.later hl, by rw [if_neg (by omega)]; exact h5.later hl, h.x6.later hl, fun e => ⟨(h.first e).1.on hl, (h.first e).2⟩, fun _ => ho, fun e _ => ⟨fun g hg hu => ?_, fun y hy g hu => ?_⟩⟩
  · cases hu
    exact Nat.lt_irrefl _ ((h.first e).1.lt _ hg)
  · cases hu
    exact ((h.first e).1.ok y hy).away (Nat.le_refl _)
theorem SwA.st4 (h : SwA w V0 m n b 1 D V) (hV0 : V0.heap.size = w.heap.size + 3) (hb : BoxAt V' w.heap.size #[D.v] 28) (ht : Turned w.heap.size V V') : SwA w V0 m n b 2 D V' := by
  have hl := h.later.turn ht (Nat.le_refl _)
  have h4 := h.x4
  have h5 := h.x5
  refine ⟨hl, Nat.le_trans h.size ht.size, hb, h.x5.other ht (by omega), h.x6.other ht (by omega), fun _ => ⟨(h.first (Nat.le_refl _)).1.other ht ((h.first (Nat.le_refl _)).1.noBox h4 (by decide)) (fun y hy => ((h.first (Nat.le_refl _)).2.2 y hy).away (by omega)) hl, (h.first (Nat.le_refl _)).2⟩, fun e => (h.second e).other ht ((h.second e).noBox h4 (by decide)) (fun y hy => by rw [List.eq_of_mem_replicate hy]; exact zero_away _) hl, fun _ e => h.apart (Nat.le_refl _) e⟩
theorem SwA.st5 (h : SwA w V0 m n true 2 D V) (hV0 : V0.heap.size = w.heap.size + 3) (hb : BoxAt V' (w.heap.size + 1) #[D.u] 28) (ht : Turned (w.heap.size + 1) V V') : SwA w V0 m n true 3 D V' := by
  have hl := h.later.turn ht (Nat.le_succ _)
  have h5 := h.x5
  refine ⟨hl, Nat.le_trans h.size ht.size, h.x4.other ht (by omega), hb, h.x6.other ht (by omega), fun _ => ⟨(h.first (by decide)).1.other ht ((h.first (by decide)).1.noBox h5 (by decide)) (fun y hy => ((h.first (by decide)).2.2 y hy).away (by omega)) hl, (h.first (by decide)).2⟩, fun e => (h.second e).other ht ((h.second e).noBox h5 (by decide)) (fun y hy => by rw [List.eq_of_mem_replicate hy]; exact zero_away _) hl, fun _ e => h.apart (by decide) e⟩
end

set_option maxHeartbeats 1600000 in
theorem swa_region {ops : Array Oper} (hn : ops.size = 7) (hg : goesBack ops = true)
    (o0 : OpIs ops 0 (.move (.tmp 1)) (some 9) [])
    (o1 : OpIs ops 1 (.call { callee := .value (.func 47), args := #[.tmp 9], argTypes := #[28] }) (some 10) [0])
    (o2 : OpIs ops 2 (.move (.tmp 0)) (some 11) [])
    (o3 : OpIs ops 3 (.call { callee := .builtin .len, args := #[.tmp 11], argTypes := #[28] }) (some 12) [2])
    (o4 : OpIs ops 4 (.makeSlice 28 (.tmp 12) (.tmp 12)) (some 13) [3])
    (o5 : OpIs ops 5 (.store 28 (.tmp 4) (.tmp 10)) none [1])
    (o6 : OpIs ops 6 (.store 28 (.tmp 5) (.tmp 13)) none [4, 5])
    {a1 : Act} (hs : 31 <= a1.tmps.size) {wx : World} {wE : World} {A B : Option Addr} {n c m d : Nat} {ms : List PrC} (e0 : a1.eval (.tmp 0) = .slice A n c) (e1 : a1.eval (.tmp 1) = .slice B m d) (e4 : a1.eval (.tmp 4) = .pointer (some ⟨wE.heap.size, 0, none⟩)) (e5 : a1.eval (.tmp 5) = .pointer (some ⟨wE.heap.size + 1, 0, none⟩)) (hl0 : Later wE wx) (hV : wx.heap.size = wE.heap.size + 3) (hm : PsOk wE B m ms) (hmn : m <= 65536) (hn0 : n <= 65536) (b4 : BoxAt wx wE.heap.size #[.slice none 0 0] 28) (b5 : BoxAt wx (wE.heap.size + 1) #[.slice none 0 0] 28) (b6 : BoxAt wx (wE.heap.size + 2) #[.bool false] 4)
    {Q : Exit -> Act -> World -> Prop} {id : Nat} (hend : ∀ (D : SwAD) (a : Act) (w : World), SameOut a1 a [9, 10, 11, 12, 13] -> SwA wE wx (valsP ms) n true (3) D w -> Q .normal a w) :
    (Code.region id ops true).wp Tryz.prog Q a1 wx := by
  refine region_inv (by kernel_rfl) hg (fun l a w => ∃ D : SwAD, SameOut a1 a [9, 10, 11, 12, 13] /\ SwA wE wx (valsP ms) n (l 4) (if l 6 = true then 3 else (if l 5 = true then 2 else (if l 1 = true then 1 else 0))) D w /\ (l 0 = true -> a.eval (.tmp 9) = .slice B m d) /\ (l 1 = true -> a.eval (.tmp 10) = D.v) /\ (l 2 = true -> a.eval (.tmp 11) = .slice A n c) /\ (l 3 = true -> a.eval (.tmp 12) = .int .i64 n) /\ (l 4 = true -> a.eval (.tmp 13) = D.u) /\ (l 5 = true -> l 1 = true) /\ (l 6 = true -> l 5 = true) /\ (l 6 = true -> l 4 = true)) ?_ ?_ ?_
  · intro l a w i o ho hl hwait ⟨D, so, st, f0, f1, f2, f3, f4, d5_1, d6_5, d6_4⟩
    have hi : i < 7 := by rw [← hn]; exact (Array.getElem?_eq_some_iff.1 ho).1
    have hc : i = 0 ∨ i = 1 ∨ i = 2 ∨ i = 3 ∨ i = 4 ∨ i = 5 ∨ i = 6 := by omega
    rcases hc with rfl | rfl | rfl | rfl | rfl | rfl | rfl
    · have st0 := st
      have ev : a.eval (.tmp 1) = .slice B m d := ((show _ = a1.eval _ from by simp only [Act.eval, Array.getD_eq_getD_getElem?, so.out 1 (by decide)]).trans e1)
      refine o0.move ?_
      rw [ev]
      exact ⟨D, (so.put (by decide) _), st, (fun _ => eval_put_same' _ _ _ (by rw [so.size]; show (9 : Nat) < _; omega)), (fun e => (eval_put_other' _ _ (by decide)).trans (f1 e)), (fun e => (eval_put_other' _ _ (by decide)).trans (f2 e)), (fun e => (eval_put_other' _ _ (by decide)).trans (f3 e)), (fun e => (eval_put_other' _ _ (by decide)).trans (f4 e)), d5_1, d6_5, d6_4⟩
    · have ws := o1.waits ho hwait
      have w0 := ws 0 (by simp)
      have n5 : l 5 = false := by cases hx : l 5 with | false => rfl | true => have := d5_1 hx; rw [hl] at this; cases this
      have n6 : l 6 = false := by cases hx : l 6 with | false => rfl | true => have := d6_5 hx; rw [n5] at this; cases this
      have st0 : SwA wE wx (valsP ms) n (l 4) 0 D w := by
        have hst := st
        simp only [hl, n5, n6, Bool.false_eq_true, if_false] at hst
        exact hst
      refine o1.call1 (enters_of Tryz.func47 (by kernel_rfl) rfl) (f0 w0) (clone5_any B m d ms w (hm.later st0.later) hmn) ?_
      rintro e w' ⟨v, ys, rfl, ho', hv', hf'⟩
      have st1 := st0.clone ho' hv' hf'
      have st2 : SwA wE wx (valsP ms) n ((more l 1) 4) (if (more l 1) 6 = true then 3 else (if (more l 1) 5 = true then 2 else (if (more l 1) 1 = true then 1 else 0))) ({ D with v := v, ys := ys }) w' := by
        rw [if_neg (show ¬ (more l 1 6 = true) from by rw [show more l 1 6 = l 6 from rfl, n6]; simp), if_neg (show ¬ (more l 1 5 = true) from by rw [show more l 1 5 = l 5 from rfl, n5]; simp), if_pos (show more l 1 1 = true from rfl)]
        exact st1
      exact ⟨_, rfl, ⟨{ D with v := v, ys := ys }, (so.put (by decide) _), st2, (fun e => (eval_put_other' _ _ (by decide)).trans (f0 e)), (fun _ => eval_put_same' _ _ _ (by rw [so.size]; show (10 : Nat) < _; omega)), (fun e => (eval_put_other' _ _ (by decide)).trans (f2 e)), (fun e => (eval_put_other' _ _ (by decide)).trans (f3 e)), (fun e => (eval_put_other' _ _ (by decide)).trans (f4 e)), (fun _ => rfl), d6_5, d6_4⟩⟩
    · have st0 := st
      have ev : a.eval (.tmp 0) = .slice A n c := ((show _ = a1.eval _ from by simp only [Act.eval, Array.getD_eq_getD_getElem?, so.out 0 (by decide)]).trans e0)
      refine o2.move ?_
      rw [ev]
      exact ⟨D, (so.put (by decide) _), st, (fun e => (eval_put_other' _ _ (by decide)).trans (f0 e)), (fun e => (eval_put_other' _ _ (by decide)).trans (f1 e)), (fun _ => eval_put_same' _ _ _ (by rw [so.size]; show (11 : Nat) < _; omega)), (fun e => (eval_put_other' _ _ (by decide)).trans (f3 e)), (fun e => (eval_put_other' _ _ (by decide)).trans (f4 e)), d5_1, d6_5, d6_4⟩
    · have ws := o3.waits ho hwait
      have w2 := ws 2 (by simp)
      have st0 := st
      refine o3.lenS (f2 w2) ?_
      exact ⟨D, (so.put (by decide) _), st, (fun e => (eval_put_other' _ _ (by decide)).trans (f0 e)), (fun e => (eval_put_other' _ _ (by decide)).trans (f1 e)), (fun e => (eval_put_other' _ _ (by decide)).trans (f2 e)), (fun _ => eval_put_same' _ _ _ (by rw [so.size]; show (12 : Nat) < _; omega)), (fun e => (eval_put_other' _ _ (by decide)).trans (f4 e)), d5_1, d6_5, d6_4⟩
    · have ws := o4.waits ho hwait
      have w3 := ws 3 (by simp)
      have n6 : l 6 = false := by cases hx : l 6 with | false => rfl | true => have := d6_4 hx; rw [hl] at this; cases this
      have st0 := st
      refine o4.makeS (f3 w3) (f3 w3) (by omega) st0.later ?_
      intro w' ho' hl'
      have st1 := SwA.make (by rw [hl] at st0; exact st0) (by
        simp only [n6, Bool.false_eq_true, if_false]
        split
        · omega
        · split <;> omega) ho' hl'
      have st2 : SwA wE wx (valsP ms) n ((more l 4) 4) (if (more l 4) 6 = true then 3 else (if (more l 4) 5 = true then 2 else (if (more l 4) 1 = true then 1 else 0))) ({ D with u := .slice (some ⟨w.heap.size, 0, none⟩) n n }) w' := st1
      exact ⟨{ D with u := .slice (some ⟨w.heap.size, 0, none⟩) n n }, (so.put (by decide) _), st2, (fun e => (eval_put_other' _ _ (by decide)).trans (f0 e)), (fun e => (eval_put_other' _ _ (by decide)).trans (f1 e)), (fun e => (eval_put_other' _ _ (by decide)).trans (f2 e)), (fun e => (eval_put_other' _ _ (by decide)).trans (f3 e)), (fun _ => eval_put_same' _ _ _ (by rw [so.size]; show (13 : Nat) < _; omega)), d5_1, d6_5, (fun _ => rfl)⟩
    · have ws := o5.waits ho hwait
      have w1 := ws 1 (by simp)
      have n6 : l 6 = false := by cases hx : l 6 with | false => rfl | true => have := d6_5 hx; rw [hl] at this; cases this
      have st0 : SwA wE wx (valsP ms) n (l 4) 1 D w := by
        have hst := st
        simp only [hl, n6, Bool.false_eq_true, if_false, if_true, w1] at hst
        exact hst
      obtain ⟨A2, c2, hv2, _, _⟩ := (st0.first (Nat.le_refl _)).1.row
      refine o5.storeS ((show _ = a1.eval _ from by simp only [Act.eval, Array.getD_eq_getD_getElem?, so.out 4 (by decide)]).trans e4) ((f1 w1).trans hv2) st0.x4 ?_
      intro w' hb' ht'
      rw [← hv2] at hb'
      have st1 := st0.st4 hV hb' ht'
      have st2 : SwA wE wx (valsP ms) n ((more l 5) 4) (if (more l 5) 6 = true then 3 else (if (more l 5) 5 = true then 2 else (if (more l 5) 1 = true then 1 else 0))) (D) w' := by
        rw [if_neg (show ¬ (more l 5 6 = true) from by rw [show more l 5 6 = l 6 from rfl, n6]; simp), if_pos (show more l 5 5 = true from rfl)]
        exact st1
      exact ⟨D, so, st2, f0, f1, f2, f3, f4, (fun _ => w1), (fun _ => rfl), d6_4⟩
    · have ws := o6.waits ho hwait
      have w4 := ws 4 (by simp)
      have w5 := ws 5 (by simp)
      have w1 := d5_1 w5
      have st0 : SwA wE wx (valsP ms) n true 2 D w := by
        have hst := st
        rw [w4] at hst
        simp only [hl, Bool.false_eq_true, if_false, if_true, w5] at hst
        exact hst
      obtain ⟨A2, c2, hv2, _, _⟩ := (st0.second rfl).row
      refine o6.storeS ((show _ = a1.eval _ from by simp only [Act.eval, Array.getD_eq_getD_getElem?, so.out 5 (by decide)]).trans e5) ((f4 w4).trans hv2) st0.x5 ?_
      intro w' hb' ht'
      rw [← hv2] at hb'
      have st1 := st0.st5 hV hb' ht'
      have st2 : SwA wE wx (valsP ms) n ((more l 6) 4) (if (more l 6) 6 = true then 3 else (if (more l 6) 5 = true then 2 else (if (more l 6) 1 = true then 1 else 0))) (D) w' := by
        rw [show more l 6 4 = true from w4, if_pos (show more l 6 6 = true from rfl)]
        exact st1
      exact ⟨D, so, st2, f0, f1, f2, f3, f4, d5_1, (fun _ => w5), (fun _ => w4)⟩
  · intro l a w hall ⟨D, so, st, f0, f1, f2, f3, f4, d5_1, d6_5, d6_4⟩
    rw [hn] at hall
    have hst : SwA wE wx (valsP ms) n true 3 D w := by
      have hst := st
      rw [hall 4 (by decide)] at hst
      simp only [hall 6 (by decide), if_true] at hst
      exact hst
    exact hend D a w so hst
  · have h0 : SwA wE wx (valsP ms) n false 0 ⟨.slice none 0 0, [], .slice none 0 0⟩ { wx with drawn := wx.drawn + 1 } := ⟨hl0.drew, Nat.le_refl _, b4, b5, b6, (fun e => by omega), (fun e => by cases e), (fun e => by omega)⟩
    exact ⟨⟨.slice none 0 0, [], .slice none 0 0⟩, SameOut.refl _ _, h0, (fun e => by cases e), (fun e => by cases e), (fun e => by cases e), (fun e => by cases e), (fun e => by cases e), (fun e => by cases e), (fun e => by cases e), (fun e => by cases e)⟩

end Go.Proofs.YtlnjhimbgckdcaaGreat
