/-
  A range over a function that hands on the places of a known row, in order: the round of place k is walked with what is known of place k.
-/
import Derived.RangeFuncNested
import Derived.RangeFuncBound
import Derived.RangeFuncCalls
import Derived.RangeFuncLeaves
import Derived.Test.YtknjkkdoeanhbaaBase
namespace Go.Proofs.Ytknjkkdoeanhbaa
open Go.RowKit

/-- The function hands on zs, in order, till a round says no more. -/
def Hands {α : Type} (m : Nat) (P : Program) (gf : Nat) (lb : Array Value) (encs : α → Array Value) (Kp : World → World → Prop) (zs : List α) (w : World) : Prop :=
  ∀ (l : Nat) (J Jx : Nat → World → Prop) (W : World), Later w W →
    (∀ k x V, zs[k]? = some x → J k V → YieldAt Fence.wide (m - 1) P l (encs x) V fun e V' => (e = .returned (.bool true) ∧ J (k + 1) V' ∧ Kp V V') ∨ (e = .returned (.bool false) ∧ Jx (k + 1) V')) →
    J 0 W → CallsIn Fence.wide m P gf (#[.func (.yield l) #[] #[]] ++ lb) W fun e V => (∃ v, e = .returned v) ∧ (J zs.length V ∨ ∃ k, k ≤ zs.length ∧ Jx k V)

/-- What holds is kept while the loop's own books are turned. -/
def Books (B : Nat) (I : World → Prop) : Prop := ∀ V l o o', I V → B ≤ l → V.heap[l]? = some o → o.isCells = false → I (V.putObj l o')

/-- How a round is left: it goes on, or it returns. -/
def rowPost (B : Nat) (Kp : World → World → Prop) (I Ix : World → Prop) (V : World) : Exit → Act → World → Prop
  | .normal, _, V' => KeepsFrom B V V' ∧ Kp V V' ∧ I V'
  | .ret, _, V' => KeepsFrom B V V' ∧ Ix V'
  | _, _, _ => False

theorem range_rows {P : Program} {α : Type} {g : Operand} {ps : Array Tmp} {assign body : Code} {Q : Exit → Act → World → Prop} {a : Act} {w w0 : World} {gf : Nat} {lb : Array Value} {encs : α → Array Value} {Kp : World → World → Prop} {zs : List α}
    (hg : a.eval g = .func (.func gf) #[] lb) (eg : ∀ args w, (callFunc gf args).run P w = .ok (.enter gf args) w) (hit : Hands 2 P gf lb encs Kp zs w0) (hw0 : Later w0 w) (hps : ∀ x, (encs x).size = ps.size)
    (hKt : ∀ {X Y Z : World}, Kp X Y → Kp Y Z → Kp X Z) (hKb : ∀ V l o o', w.heap.size ≤ l → V.heap[l]? = some o → o.isCells = false → Kp V (V.putObj l o'))
    (I Ix : Nat → World → Prop) (Ax : Nat → α → Act → World → Prop) (hI : ∀ k, Books w.heap.size (I k)) (hIx : ∀ k, Books w.heap.size (Ix k)) (hAx : ∀ k x a', Books w.heap.size (Ax k x a')) (hIb : ∀ o o', I 0 w → I 0 ((w.alloc o).alloc o')) (h0 : I 0 w)
    (hassign : ∀ (l k : Nat) (x : α) (V : World) (K : Act → World → Prop), zs[k]? = some x → I k V → (∀ a' V', KeepsFrom w.heap.size V V' → Kp V V' → Ax k x a' V' → K a' V') →
      assign.wpIn (Fence.wide.inRound l) 1 P (Exit.then K (fun _ _ _ => False)) { tmps := (ps.zip (encs x)).foldl (fun t (p, v) => t.setIfInBounds p v) a.tmps, defers := [] } V)
    (hbody : ∀ (l k : Nat) (x : α) (a' : Act) (V : World), zs[k]? = some x → Ax k x a' V → body.wpIn (Fence.wide.inRound l) 1 P (rowPost w.heap.size Kp (I (k + 1)) (Ix (k + 1)) V) a' V)
    (hdone : ∀ (D : Nat) (V : World), w.heap.size ≤ D → I zs.length V → V.heap[D]? = some (.deferred (some [])) → Q .normal { a with defers := { target := .collected D, args := #[] } :: a.defers } V)
    (hstop : ∀ (D k : Nat) (V : World), w.heap.size ≤ D → k ≤ zs.length → Ix k V → V.heap[D]? = some (.deferred (some [])) → Q .ret { a with defers := { target := .collected D, args := #[] } :: a.defers } V) :
    (Code.rangeFunc g ps assign body).wp P Q a w := by
  refine (wpIn_wide (n := 3)).1 (wpIn_rangeFunc fun fn hfn => ?_)
  -- the loop's two blocks: D (calls put off), L (the record)
  have key : ∃ (rec : LoopState → Option Code → Loop) (V1 : World), V1 = (w.alloc (.deferred (some []))).alloc (.loop (rec .ready none)) ∧
      (∀ st pe, (rec st pe).fn = fn ∧ (rec st pe).tmps = a.tmps ∧ (rec st pe).params = ps ∧ (rec st pe).assign = assign ∧ (rec st pe).body = body ∧ (rec st pe).state = st ∧ (rec st pe).pending = pe) ∧
      (∀ st pe st' pe', { rec st pe with state := st', pending := pe' } = rec st' pe') ∧ (∀ st pe st', { rec st pe with state := st' } = rec st' pe) ∧
      (Instr.enterLoop fn a.tmps ps assign body none).run P w = .ok (w.heap.size + 1, [{ target := .collected w.heap.size, args := #[] }]) V1 :=
    ⟨fun st pe => { state := st, pending := pe, fn := fn, tmps := a.tmps, params := ps, assign := assign, body := body, defers := w.heap.size }, _, rfl, fun _ _ => ⟨rfl, rfl, rfl, rfl, rfl, rfl, rfl⟩, fun _ _ _ _ => rfl, fun _ _ _ => rfl, run_enterLoop_outer fn a.tmps ps assign body⟩
  obtain ⟨rec, V1, hV1, hrec, hturn, hstate, henter⟩ := key
  have hL1 : V1.heap[w.heap.size + 1]? = some (.loop (rec .ready none)) := by
    rw [hV1, ← World.size_alloc w (.deferred (some []))]
    exact World.alloc_heap_new _ _
  have hD1 : V1.heap[w.heap.size]? = some (.deferred (some [])) := by
    rw [hV1, Below.heap_alloc _ _ _ (by simp)]
    exact World.alloc_heap_new _ _
  have hlater : Later w V1 := by rw [hV1]; exact ((Later.refl w).alloc _).alloc _
  refine ⟨w.heap.size + 1, _, V1, { target := .fn (.func gf) lb, args := #[.func (.yield (w.heap.size + 1)) #[] #[]] }, V1, gf, #[.func (.yield (w.heap.size + 1)) #[] #[]] ++ lb, V1, henter, ?_, (fun _ _ => trivial), ?_, (fun _ => by decide), ?_⟩
  · simp only [resolve, hg]
    simp [go_sem]
  · simp [invoke, go_sem, eg]
  refine (hit (w.heap.size + 1) (fun k V => I k V ∧ V.heap[w.heap.size + 1]? = some (.loop (rec .ready none)) ∧ V.heap[w.heap.size]? = some (.deferred (some [])))
    (fun k V => Ix k V ∧ V.heap[w.heap.size + 1]? = some (.loop (rec .done (some .ret))) ∧ V.heap[w.heap.size]? = some (.deferred (some []))) V1 (hw0.trans hlater) ?_ ⟨by rw [hV1]; exact hIb _ _ h0, hL1, hD1⟩).mono ?_
  · -- a round
    rintro k x V hx ⟨hi, hl, hd⟩
    have hy := run_yield (P := P) (args := encs x) hl (by rw [(hrec _ _).2.2.1]; exact hps x)
    refine ⟨_, _, _, _, hy, ?_⟩
    rw [(hrec _ _).1, (hrec _ _).2.1, (hrec _ _).2.2.1, (hrec _ _).2.2.2.1, (hrec _ _).2.2.2.2.1]
    refine roundIn_of_wpIn hfn (hassign _ k x V _ hx hi fun a' Va hka hkpa hax => ?_)
    have hla := hka.same _ _ (by omega) hl rfl
    have hda := hka.same _ _ (Nat.le_refl _) hd rfl
    have hlt := (Array.getElem?_eq_some_iff.1 hla).1
    refine ⟨_, run_beginRound hla (hrec _ _).2.2.2.2.2.1, ?_⟩
    rw [hstate]
    have hlb : (Va.putObj (w.heap.size + 1) (.loop (rec .busy none))).heap[w.heap.size + 1]? = some (.loop (rec .busy none)) := World.putObj_heap_same hlt
    have hdb : (Va.putObj (w.heap.size + 1) (.loop (rec .busy none))).heap[w.heap.size]? = some (.deferred (some [])) := (World.putObj_heap_other (by omega)).trans hda
    have hkb : Kp V (Va.putObj (w.heap.size + 1) (.loop (rec .busy none))) := hKt hkpa (hKb _ _ _ _ (by omega) hla rfl)
    refine wpIn_mono (hbody _ k x a' _ hx (hAx k x a' _ _ _ _ hax (by omega) hla rfl)) fun e a3 V3 hp => ?_
    cases e with
    | normal =>
      obtain ⟨hk3, hkp3, hi3⟩ := hp
      have hl3 := hk3.same _ _ (by omega) hlb rfl
      have hd3 := hk3.same _ _ (Nat.le_refl _) hdb rfl
      have hend := run_endRound (P := P) none hl3
      rw [show ({ rec .busy none with state := if (none : Option Code).isNone then .ready else .done, pending := none } : Loop) = rec .ready none from hturn _ _ _ _] at hend
      exact ⟨_, _, hend, .inl ⟨rfl, ⟨hI _ _ _ _ _ hi3 (by omega) hl3 rfl, World.putObj_heap_same (Array.getElem?_eq_some_iff.1 hl3).1, (World.putObj_heap_other (by omega)).trans hd3⟩, hKt hkb (hKt hkp3 (hKb _ _ _ _ (by omega) hl3 rfl))⟩⟩
    | ret =>
      obtain ⟨hk3, hi3⟩ := hp
      have hl3 := hk3.same _ _ (by omega) hlb rfl
      have hd3 := hk3.same _ _ (Nat.le_refl _) hdb rfl
      have hend := run_endRound (P := P) (some .ret) hl3
      rw [show ({ rec .busy none with state := if (some Code.ret).isNone then .ready else .done, pending := some .ret } : Loop) = rec .done (some .ret) from hturn _ _ _ _] at hend
      exact ⟨_, _, hend, .inr ⟨rfl, hIx _ _ _ _ _ hi3 (by omega) hl3 rfl, World.putObj_heap_same (Array.getElem?_eq_some_iff.1 hl3).1, (World.putObj_heap_other (by omega)).trans hd3⟩⟩
    | exit id => exact hp.elim
    | goto t => exact hp.elim
    | panic ch => exact hp.elim
    | outgrown => exact hp.elim
  · -- behind the function
    rintro e V2 ⟨⟨v, rfl⟩, (⟨hi, hl, hd⟩ | ⟨k, hk, hi, hl, hd⟩)⟩
    · refine ⟨none, _, ?_, hdone _ _ (Nat.le_refl _) (hI _ _ _ _ (.loop (rec .exhausted none)) hi (by omega) hl rfl) ((World.putObj_heap_other (by omega)).trans hd)⟩
      have := run_endLoop (P := P) hl (by rw [(hrec _ _).2.2.2.2.2.1]; simp)
      rw [hstate, (hrec _ _).2.2.2.2.2.2] at this
      exact this
    · refine ⟨some .ret, _, ?_, wpIn_ret (hstop _ k _ (Nat.le_refl _) hk (hIx _ _ _ _ (.loop (rec .exhausted (some .ret))) hi (by omega) hl rfl) ((World.putObj_heap_other (by omega)).trans hd))⟩
      have := run_endLoop (P := P) hl (by rw [(hrec _ _).2.2.2.2.2.1]; simp)
      rw [hstate, (hrec _ _).2.2.2.2.2.2] at this
      exact this

end Go.Proofs.Ytknjkkdoeanhbaa
