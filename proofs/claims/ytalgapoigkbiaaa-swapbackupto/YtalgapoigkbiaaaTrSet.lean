/-
  A cell that is written: what stands, and what has turned.
-/
import Derived.Test.YtalgapoigkbiaaaTrMem
namespace Go.Proofs.Ytalgapoigkbiaaa
open Go.RowKit Go.Maps

/-- The first line of an own row: its cell may be written. -/
theorem Own.first {w0 w : World} {v : Value} {l : List ByteArray} (h : Own 9 w0 w v l) (h1 : 1 ≤ l.length) :
    ∃ g cap cur, v = .slice (some ⟨g, 0, none⟩) l.length cap ∧ l.length ≤ cap ∧ w0.heap.size ≤ g ∧ w.heap[g]? = some (.cells cur 9 (0, 0)) ∧ w.cell? ⟨g, 0, none⟩ = some (.string (l.getD 0 ByteArray.empty)) := by
  rcases h.1.2 with ⟨_, h0⟩ | ⟨g, cap, cur, hv, hg, hh, hnc, hm, hs, ht⟩
  · omega
  · refine ⟨g, cap, cur, hv, hnc, hg, hh, ?_⟩
    obtain ⟨A, c, hv2, _, hr⟩ := h.row
    rw [hv] at hv2
    simp only [Value.slice.injEq] at hv2
    obtain ⟨rfl, -, -⟩ := hv2
    obtain ⟨b, o, e, hc⟩ := hr.get (k := 0) (by omega)
    simp only [Option.some.injEq, Addr.mk.injEq] at e
    obtain ⟨rfl, rfl, -⟩ := e
    exact hc
theorem frozen_no {w : World} {g : Nat} {cur : Array Value} {t : TypeId} (h : w.heap[g]? = some (.cells cur t (0, 0))) (i : Nat) : w.frozen? ⟨g, i, none⟩ = false := by
  simp [World.frozen?, h]
theorem turned_set (w : World) (g i : Nat) (u : Value) : Turned g w (w.setCell ⟨g, i, none⟩ u) :=
  ⟨rfl, rfl, rfl, by simp, fun k _ hne => RowKit.Below.heap_setCell _ _ _ _ (fun e => hne (by rw [e]))⟩
/-- A block that was not there has turned, behind block B. -/
theorem Turned.more {B g : Nat} {w w' w'' : World} (h : Turned B w w') (k : Turned g w' w'') (hg : w.heap.size ≤ g) : Turned B w w'' :=
  ⟨k.os.trans h.os, k.tape.trans h.tape, k.output.trans h.output, Nat.le_trans h.size k.size, fun i hi hne => (k.block i (Nat.lt_of_lt_of_le hi h.size) (fun e => by cases e; omega)).trans (h.block i hi hne)⟩
theorem right_size {l : List ByteArray} (h : allB l = true) {s : ByteArray} (hs : s ∈ l) : s.size ≤ 60 := by
  have := List.all_eq_true.1 h s hs
  simp only [rightB, Bool.and_eq_true, decide_eq_true_eq] at this
  exact this.1
theorem reads_lt {w : World} {v : Value} {l : List ByteArray} (h : Reads w v l) (h1 : l ≠ []) : ∀ k, v.ownBlock = some k → k < w.heap.size := by
  obtain ⟨A, n, c, rfl, _, hr⟩ := h
  intro k hk
  have hn : 0 < n := by
    rcases Nat.eq_zero_or_pos n with h0 | h0
    · exact absurd (List.eq_nil_of_length_eq_zero (hr.len.trans h0)) h1
    · exact h0
  obtain ⟨b, o, rfl, hc⟩ := hr.get hn
  simp only [Value.ownBlock, Option.some.injEq] at hk
  rw [← hk]
  exact lt_of_cell hc

/-- Another block has turned: an own row stands. -/
theorem Own.other {e : TypeId} {w0 w w' : World} {v : Value} {ss : List ByteArray} {g : Nat} (h : Own e w0 w v ss) (hg : Turned g w w') (hv : v.ownBlock ≠ some g) (hl : Later w0 w') : Own e w0 w' v ss :=
  ⟨h.1.kept hg (.inr hv), hl⟩

end Go.Proofs.Ytalgapoigkbiaaa
