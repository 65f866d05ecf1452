/-
  A new device, and the bytes of all blocks, as calls.
-/
import Derived.Test.YtknjkkdoeanhbaaBkOne
import Derived.Test.YtknjkkdoeanhbaaBtMem
import Derived.Test.YtknjkkdoeanhbaaBkRead
namespace Go.Proofs.Ytknjkkdoeanhbaa
open Go.RowKit

theorem Try.cellInfo : (Try.prog.info? 73).map (fun i => (i.zero, i.size, i.bytes)) = some (some (.agg (Lib.byteCells (zeros 64)).toArray), 64, 64) := by kernel_rfl
theorem flatten_rep {α : Type} (z : List α) (hz : 0 < z.length) : ∀ (n i : Nat), i < n * z.length → (List.replicate n z).flatten[i]? = z[i % z.length]?
  | 0, i, h => by simp at h
  | n + 1, i, h => by
    rw [List.replicate_succ, List.flatten_cons]
    have e : (n + 1) * z.length = n * z.length + z.length := by rw [Nat.add_mul, Nat.one_mul]
    by_cases hi : i < z.length
    · rw [List.getElem?_append_left hi, Nat.mod_eq_of_lt hi]
    · have h2 := flatten_rep z hz n (i - z.length) (by omega)
      have h3 : i % z.length = (i - z.length) % z.length := Nat.mod_eq_sub_mod (by omega)
      rw [List.getElem?_append_right (by omega), h2, h3]
theorem made_flat (z : List Value) (hz : 0 < z.length) (n : Nat) : madeCells z.toArray (n * z.length) = (List.replicate n z).flatten.toArray := by
  apply Array.ext'
  apply List.ext_getElem?
  intro i
  simp only [madeCells, Array.toList_map, Array.toList_range, List.getElem?_map]
  by_cases hi : i < n * z.length
  · have hm : i % z.length < z.length := Nat.mod_lt _ hz
    rw [List.getElem?_range hi, flatten_rep z hz n i hi]
    simp [hm]
  · rw [List.getElem?_eq_none (by simp; omega), List.getElem?_eq_none ?_]
    · rfl
    · have := flat_length (css := List.replicate n z) (k := z.length) (fun cs hcs => by obtain ⟨_, rfl⟩ := List.mem_replicate.1 hcs; rfl)
      simp only [List.length_replicate] at this
      omega
section
variable {W w : World} {S : Nat → Prop} {g : Nat} {d : DvP}
/-- A device of n blocks of zeros, just laid. -/
theorem devAt_new (n : Nat) (h1 : 1 ≤ n) (h2 : n ≤ 4096) (hW : Later W w) :
    DevAt W ((w.alloc (.cells (madeCells (Lib.byteCells (zeros 64)).toArray (n * 64)) 73)).alloc (.cells #[.slice (some ⟨w.heap.size, 0, none⟩) n n, .slice none 0 0, .int .i64 0, .bool false, .int .i64 0, .bool false] 67)) (fun k => k = w.heap.size ∨ k = w.heap.size + 1) (w.heap.size + 1) (newP n) := by
  have hz : (Lib.byteCells (zeros 64)).length = 64 := by rw [bc_len, zeros_length]
  have hl0 : Later W (w.alloc (.cells (madeCells (Lib.byteCells (zeros 64)).toArray (n * 64)) 73)) := hW.alloc _
  have hbl : blL (newP n) = List.replicate n (Lib.byteCells (zeros 64)) := by simp [blL, newP]
  have hm := made_flat (Lib.byteCells (zeros 64)) (by rw [hz]; decide) n
  rw [hz] at hm
  have hk : ∀ cs ∈ blL (newP n), cs.length = 64 := fun cs hcs => by
    rw [hbl] at hcs
    obtain ⟨_, rfl⟩ := List.mem_replicate.1 hcs
    exact hz
  have ho : OwnK 73 64 W (w.alloc (.cells (madeCells (Lib.byteCells (zeros 64)).toArray (n * 64)) 73)) (.slice (some ⟨w.heap.size, 0, none⟩) n n) (blL (newP n)) := by
    refine ⟨⟨flat_length hk, .inr ⟨w.heap.size, n, _, ?_, hW.le, heap_alloc_new w _, ?_, ?_, ?_, ?_⟩⟩, hk, hl0⟩
    · rw [hbl, List.length_replicate]
    · rw [hbl, List.length_replicate]; exact Nat.le_refl _
    · simp only [maxLen]; omega
    · rw [size_madeCells]
    · rw [hm, hbl, List.length_replicate]
      show ((List.replicate n (Lib.byteCells (zeros 64))).flatten.toArray.toList).take _ = _
      rw [List.take_of_length_le]
      have := flat_length (css := List.replicate n (Lib.byteCells (zeros 64))) (k := 64) (by rw [← hbl]; exact hk)
      simp only [List.length_replicate] at this
      rw [← this]
      exact Nat.le_refl _
  have hs : (w.alloc (.cells (madeCells (Lib.byteCells (zeros 64)).toArray (n * 64)) 73)).heap.size = w.heap.size + 1 := World.size_alloc _ _
  refine ⟨⟨_, _, ?_, ho.alloc _, OwnK.nil (hl0.alloc _), (fun b hb => by cases hb; exact .inl rfl), fun b hb => by cases hb⟩, newP_ok h1 h2, .inr rfl, ?_, hl0.alloc _⟩
  · have := CellsAt.made (w.alloc (.cells (madeCells (Lib.byteCells (zeros 64)).toArray (n * 64)) 73)) #[.slice (some ⟨w.heap.size, 0, none⟩) n n, .slice none 0 0, .int .i64 0, .bool false, .int .i64 0, .bool false] 67
    rw [hs] at this
    exact this
  · intro k hk
    have := hW.le
    rw [World.size_alloc, hs]
    rcases hk with rfl | rfl <;> omega
set_option maxRecDepth 100000 in
set_option maxHeartbeats 400000 in
theorem newDev_any (count : Int) (h0 : -9223372036854775808 ≤ count) (h1 : count ≤ 9223372036854775807) (hW : Later W w) :
    Calls Try.prog 12 #[.int .i64 count] w fun e w' => ∃ g S, e = .returned (.pointer (some ⟨g, 0, none⟩)) ∧ DevAt W w' S g (newP (countN count)) ∧ Later w w' ∧ ∀ k, S k → w.heap.size ≤ k := by
  obtain ⟨i0, hi, hz0, hz1, hz2⟩ := info_parts Try.cellInfo
  obtain ⟨n, hn⟩ : ∃ n, n = countN count := ⟨_, rfl⟩
  have hlo := countN_lo count; have hhi := countN_hi count
  have hr : ∀ w : World, (Instr.makeSlice 64 (.int .i64 (n : Nat)) (.int .i64 (n : Nat))).run Try.prog w = .ok (.slice (some ⟨w.heap.size, 0, none⟩) n n) (w.alloc (.cells (madeCells (Lib.byteCells (zeros 64)).toArray (n * 64)) 73)) := fun w => by
    have := run_make (P := Try.prog) w 64 73 i0 _ Try.underlying64 hi hz0 .i64 .i64 (n : Nat) (n : Nat) (by omega) (Int.le_refl _) (by rw [hz2]; omega) (by omega)
    rw [hz1] at this
    exact this
  rw [← hn] at hlo hhi ⊢
  have HD := Lib.hid (devAt_new (W := W) (w := w) n hlo hhi hW)
  have HL := Lib.hid (((Later.refl w).alloc (.cells (madeCells (Lib.byteCells (zeros 64)).toArray (n * 64)) 73)).alloc (.cells #[.slice (some ⟨w.heap.size, 0, none⟩) n n, .slice none 0 0, .int .i64 0, .bool false, .int .i64 0, .bool false] 67))
  unfold countN at hn
  clear hi hz0 hz1 hz2
  have fin : ∃ g S, Ending.returned (.pointer (some ⟨w.heap.size + 1, 0, none⟩)) = .returned (.pointer (some ⟨g, 0, none⟩)) ∧ DevAt W ((w.alloc (.cells (madeCells (Lib.byteCells (zeros 64)).toArray (n * 64)) 73)).alloc (.cells #[.slice (some ⟨w.heap.size, 0, none⟩) n n, .slice none 0 0, .int .i64 0, .bool false, .int .i64 0, .bool false] 67)) S g (newP n) ∧ Later w ((w.alloc (.cells (madeCells (Lib.byteCells (zeros 64)).toArray (n * 64)) 73)).alloc (.cells #[.slice (some ⟨w.heap.size, 0, none⟩) n n, .slice none 0 0, .int .i64 0, .bool false, .int .i64 0, .bool false] 67)) ∧ ∀ k, S k → w.heap.size ≤ k :=
    ⟨_, _, rfl, HD.out, HL.out, fun k hk => by rcases hk with rfl | rfl <;> omega⟩
  have FIN := Lib.hid fin
  clear fin HD HL
  rcases Int.lt_or_le 4096 count with hc | hc
  · have e : n = 4096 := by omega
    subst e
    have hr2 : ∀ w : World, (Instr.makeSlice 64 (.int .i64 4096) (.int .i64 4096)).run Try.prog w = .ok (.slice (some ⟨w.heap.size, 0, none⟩) 4096 4096) (w.alloc (.cells (madeCells (Lib.byteCells (zeros 64)).toArray (4096 * 64)) 73)) := hr
    clear hn hlo hhi hr
    go_enter Try.func12, Try.ntmps12
    go_wp2
    all_goals go_ret
    all_goals exact FIN.out
  · rcases Int.lt_or_le 1 count with hc1 | hc1
    rotate_left
    · have e : n = 1 := by omega
      subst e
      have hr2 : ∀ w : World, (Instr.makeSlice 64 (.int .i64 1) (.int .i64 1)).run Try.prog w = .ok (.slice (some ⟨w.heap.size, 0, none⟩) 1 1) (w.alloc (.cells (madeCells (Lib.byteCells (zeros 64)).toArray (1 * 64)) 73)) := hr
      clear hn hlo hhi hr
      go_enter Try.func12, Try.ntmps12
      go_wp2
      all_goals go_ret
      all_goals exact FIN.out
    · have e : count = (n : Nat) := by omega
      subst e
      clear hn h0 h1
      go_enter Try.func12, Try.ntmps12
      go_wp2
      all_goals go_ret
      all_goals exact FIN.out
end

end Go.Proofs.Ytknjkkdoeanhbaa
