/-
  What a strings.Builder's WriteString comes to, at a builder that the call itself made; what Text of the program comes to.
-/
import Derived.Test.YtimljhmbaobgnaaWalk9
import Derived.Lib.Builder
import Derived.Lib.AppendStr
namespace Go.Proofs.Ytimljhmbaobgnaa
open Go.RowKit

theorem Try.builderSize : (Try.prog.info? 49).map (·.size) = some 2 := by kernel_rfl
theorem Try.builderLies : liesAt Try.prog Try.prog.depth 49 (2 / Try.prog.cellsOf 49) 0 49 1 = true := by kernel_rfl
theorem Try.byteInfo : (Try.prog.info? 5).map (fun i => (i.zero, i.size, i.bytes)) = some (some (.int .u8 0), 1, 1) := by kernel_rfl

set_option maxHeartbeats 400000 in
theorem check_used (b : Nat) (w : World) (h0 : w.cell? ⟨b, 0, none⟩ = some (.pointer (some ⟨b, 0, none⟩))) :
    Calls Try.prog 45 #[.pointer (some ⟨b, 0, none⟩)] w fun e w' => e = .returned (.tuple #[]) ∧ w = w' := by
  obtain ⟨j, hj, _⟩ := Option.map_eq_some_iff.1 Try.builderSize
  have hne := fun W => Lib.run_neq_ptr_same (P := Try.prog) W ⟨b, 0, none⟩ Try.underlying46 hj
  go_enter Try.func45, Try.ntmps45
  go_wp2
  go_end0
  exact ⟨rfl, rfl⟩

set_option maxHeartbeats 400000 in
theorem check_fresh (b : Nat) (w : World) (h0 : w.cell? ⟨b, 0, none⟩ = some (.pointer none)) (hsh : w.shape? b = some (49, 2)) (hfz : w.frozen? ⟨b, 0, none⟩ = false) :
    Calls Try.prog 45 #[.pointer (some ⟨b, 0, none⟩)] w fun e w' => e = .returned (.tuple #[]) ∧ w' = w.setCell ⟨b, 0, none⟩ (.pointer (some ⟨b, 0, none⟩)) := by
  obtain ⟨j, hj, hjs⟩ := Option.map_eq_some_iff.1 Try.builderSize
  have c1 := Lib.run_to_unsafe (P := Try.prog) w ⟨b, 0, none⟩ Try.underlying46 Try.underlying60 hj (by rw [hjs]; decide) hsh (Nat.zero_lt_succ 1)
  have c2 : Sem.run Try.prog (callFunc 47 #[.pointer (some ⟨b, 0, none⟩)]) w = .ok (.value (.pointer (some ⟨b, 0, none⟩))) w := by
    rw [run_callFunc_extern Try.func47 (by kernel_rfl) (by kernel_rfl) (by kernel_rfl) (e := Extern.AbiNoEscape.same) (by kernel_rfl), Lib.run_noEscape]; rfl
  have c3 := Lib.run_from_unsafe (P := Try.prog) w ⟨b, 0, none⟩ Try.underlying60 Try.underlying46 hj hsh Try.builderLies
  clear hsh
  go_enter Try.func45, Try.ntmps45
  go_wp2
  go_end0
  exact ⟨rfl, rfl⟩

theorem check_any (B b : Nat) (bs : List Value) (w : World) (h : Lib.IsBuilder 49 5 B b bs w) :
    Calls Try.prog 45 #[.pointer (some ⟨b, 0, none⟩)] w fun e w' => e = .returned (.tuple #[]) ∧ Lib.BuilderAt 49 5 B b (.pointer (some ⟨b, 0, none⟩)) bs w' ∧ Below B w w' := by
  rcases h with h | h
  · refine (check_fresh b w h.cell0 h.shape h.frozen0).mono ?_
    rintro e w' ⟨rfl, rfl⟩
    exact ⟨rfl, h.used _, (Below.refl B w).setCell (p := ⟨b, 0, none⟩) h.1 _⟩
  · refine (check_used b w h.cell0).mono ?_
    rintro e w' ⟨rfl, rfl⟩
    exact ⟨rfl, h, Below.refl B _⟩

set_option maxHeartbeats 400000 in
theorem write_any (B b : Nat) (bs : List Value) (s : ByteArray) (w : World) (h : Lib.IsBuilder 49 5 B b bs w) (hlen : bs.length + s.size ≤ 140737488355328) (hBw : B ≤ w.heap.size) :
    Calls Try.prog 36 #[.pointer (some ⟨b, 0, none⟩), .string s] w fun e w' => e = .returned (.tuple #[.int .i64 s.size, .nilIface]) ∧ Lib.BuilderAt 49 5 B b (.pointer (some ⟨b, 0, none⟩)) (bs ++ Lib.strCells s) w' ∧ Below B w w' := by
  obtain ⟨i0, hi, hz0, hz1, hz2⟩ := info_parts Try.byteInfo
  have HC := Lib.hid (check_any B b bs w h); clear h
  go_enter Try.func36, Try.ntmps36
  go_wp2_with (go_at_call 45; refine HC.out.mono ?_)
  rintro e w1 ⟨rfl, h1, hb1⟩
  obtain ⟨hB, v, hbk, hown, hne⟩ := h1
  have hlt : b < w1.heap.size := Lib.BuilderAt.lt ⟨hB, v, hbk, hown, hne⟩
  have c0 : w1.cell? ⟨b, 0, none⟩ = some (.pointer (some ⟨b, 0, none⟩)) := by rw [Lib.cell_of_heap hbk]; rfl
  have c1 : w1.cell? ⟨b, 1, none⟩ = some v := by rw [Lib.cell_of_heap hbk]; rfl
  have HB := Lib.hid hbk; clear hbk
  have hsz := hb1.size
  go_wp2_with (at_builtin; refine Lib.wpList_append_own_string _ rfl _ _ 47 9 rfl B 5 i0 Try.underlying47 Try.underlying9 hi hz0 hz1 hz2 _ _ _ rfl hown s rfl (by simp only [maxLen]; omega) hlen (by omega) ?_)
  intro v' w2 hown' hgrow _
  have hb2 : w2.heap[b]? = some (.cells #[.pointer (some ⟨b, 0, none⟩), v] 49 (0, 0)) := by
    rw [hgrow.block b hlt (fun e => hne e.symm)]; exact HB.out
  have d0 : w2.cell? ⟨b, 0, none⟩ = some (.pointer (some ⟨b, 0, none⟩)) := by rw [Lib.cell_of_heap hb2]; rfl
  have d1 : w2.cell? ⟨b, 1, none⟩ = some v := by rw [Lib.cell_of_heap hb2]; rfl
  have f1 : w2.frozen? ⟨b, 1, none⟩ = false := Lib.frozen_of_heap hb2 1
  have HB2 := Lib.hid hb2; clear hb2
  obtain ⟨ao, n', cap, rfl⟩ : ∃ ao n' cap, v' = .slice ao n' cap := by
    rcases hown'.2 with ⟨hv, _⟩ | ⟨g, cap, cur, hv, _⟩
    · exact ⟨_, _, _, hv⟩
    · exact ⟨_, _, _, hv⟩
  have HO := Lib.hid hown'; clear hown'
  go_wp2
  go_ret2
  refine ⟨rfl, ?_, ?_⟩
  · exact Lib.BuilderAt.put (T := 49) (e := 5) hB HB2.out (bs' := bs ++ Lib.strCells s) (by simpa [Lib.strCells_length] using HO.out) (by decide)
  · exact (hb1.grown hgrow (by omega) (fun k hk => (hown.lt k hk).1)).setCell (p := ⟨b, 1, none⟩) hB _

/-- How many bytes the lines have in all. -/
def bulk (l : List ByteArray) : Nat := (l.map ByteArray.size).sum
theorem textL_length (l : List ByteArray) : (textL l).length = bulk l + l.length := by
  induction l with
  | nil => rfl
  | cons s l ih =>
    simp only [textL, bulk, List.flatMap_cons, List.length_append, List.map_cons, List.sum_cons, List.length_cons, List.length_nil] at ih ⊢
    rw [bytes_length]; omega

theorem textL_split (l : List ByteArray) (k : Nat) : textL l = textL (l.take k) ++ textL (l.drop k) := by
  rw [textL, textL, textL, ← List.flatMap_append, List.take_append_drop]
theorem textL_next {l : List ByteArray} {k : Nat} (hk : k < l.length) : textL (l.take (k + 1)) = textL (l.take k) ++ bytes (l.getD k ByteArray.empty) ++ [10] := by
  rw [List.take_succ_eq_append_getElem hk, textL_snoc]
  simp [List.getD, List.getElem?_eq_getElem hk]
theorem textL_room {l : List ByteArray} {k : Nat} (hk : k < l.length) : (textL (l.take k)).length + (l.getD k ByteArray.empty).size + 1 ≤ (textL l).length := by
  have h1 := congrArg List.length (textL_split l (k + 1))
  have h2 := congrArg List.length (textL_next hk)
  rw [List.length_append] at h1
  rw [List.length_append, List.length_append, bytes_length] at h2
  simp only [List.length_cons, List.length_nil] at h2
  omega

theorem cells_room1 {a : List UInt8} {x : ByteArray} {m : Nat} (h : a.length + x.size + 1 ≤ m) (hm : m ≤ 1000000) : (Lib.byteCells a).length + x.size ≤ 140737488355328 := by
  rw [Lib.byteCells, List.length_map]; omega
theorem cells_room {a : List UInt8} {x : ByteArray} {m : Nat} (h : a.length + x.size + 1 ≤ m) (hm : m ≤ 1000000) : (Lib.byteCells a ++ Lib.strCells x).length + (⟨#[10]⟩ : ByteArray).size ≤ 140737488355328 := by
  rw [List.length_append, Lib.byteCells, List.length_map, Lib.strCells_length]
  have : (⟨#[10]⟩ : ByteArray).size = 1 := rfl
  omega

set_option maxHeartbeats 400000 in
theorem text_any (A : Option Addr) (n c : Nat) (l : List ByteArray) (w : World) (hx : Row w A n l) (hn : n ≤ 65536) (hb : (textL l).length ≤ 1000000) :
    Calls Try.prog 16 #[.slice A n c] w fun e w' => e = .returned (.string (txt (textL l))) ∧ Later w w' := by
  have HX := Lib.hid hx; clear hx
  go_enter Try.func16, Try.ntmps16
  go_wp2
  go_loopg [8] (n + 1) (fun g s8 wr => ∃ k : Nat, k ≤ n ∧ n - k ≤ g ∧ s8 = .int .i64 k ∧ Later w wr ∧ Lib.IsBuilder 49 5 w.heap.size w.heap.size (Lib.byteCells (textL (l.take k))) wr)
  case atStart =>
    exact ⟨0, Nat.zero_le _, by omega, rfl, (Later.refl w).alloc _, .inl ⟨Nat.le_refl _, .slice none 0 0, heap_alloc_new w _, World.ownsRow_nil _ _ _ _, by simp [Value.ownBlock]⟩⟩
  case round =>
    obtain ⟨k, hk, hg, rfl, hwr, hB⟩ := hrel
    have hle := hwr.le
    have HW := Lib.hid hwr; clear hwr
    have HB := Lib.hid hB; clear hB
    by_cases hlt : k < n
    · obtain ⟨b1, o1, rfl, g1⟩ := (HX.out.later HW.out).get hlt
      have hkl : k < l.length := by rw [HX.out.len]; exact hlt
      have hroom := textL_room hkl
      have hnext := textL_next hkl
      generalize l.getD k ByteArray.empty = x at g1 hroom hnext
      have HN := Lib.hid hnext; clear hnext
      go_wp2_with fail
      refine (write_any w.heap.size w.heap.size _ x wr HB.out (cells_room1 hroom hb) hle).mono ?_
      rintro e w1 ⟨rfl, hb1, hl1⟩
      have HB1 := Lib.hid hb1; clear hb1
      have HL1 := Lib.hid hl1; clear hl1
      have hle1 := HL1.out.size
      go_wp2_with fail
      refine (write_any w.heap.size w.heap.size _ _ w1 (.inr HB1.out) (cells_room hroom hb) (by omega)).mono ?_
      rintro e w2 ⟨rfl, hb2, hl2⟩
      have HB2 := Lib.hid hb2; clear hb2
      have HL2 := Lib.hid hl2; clear hl2
      go_wp2
      go_roundg (n - (k + 1))
      case measure => omega
      case rel =>
        refine ⟨k + 1, by omega, Nat.le_refl _, by go_num, Below.trans (Below.trans HW.out HL1.out) HL2.out, .inr ?_⟩
        rw [HN.out]
        have := HB2.out
        simpa [Lib.byteCells, Lib.strCells, bytes] using this
    · have hkn : k = n := by omega
      have e : l.take k = l := List.take_of_length_le (by rw [HX.out.len]; omega)
      rw [e] at HB
      clear e
      go_wp2_with fail
      refine (Try.Builder_String_any w.heap.size w.heap.size _ wr HB.out hle).mono ?_
      rintro e w1 ⟨rfl, hl1⟩
      have HL1 := Lib.hid hl1; clear hl1
      go_wp2
      go_ret
      exact ⟨rfl, Below.trans HW.out HL1.out⟩

end Go.Proofs.Ytimljhmbaobgnaa
