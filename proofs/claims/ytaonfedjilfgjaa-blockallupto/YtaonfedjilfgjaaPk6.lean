import Derived.Test.YtaonfedjilfgjaaPk3
import Derived.Test.YtaonfedjilfgjaaPk1
import Derived.Test.YtaonfedjilfgjaaPk4
import Derived.Test.YtaonfedjilfgjaaPk5

/-
  A new device, and the bytes of all blocks, as calls.
-/
namespace Go.Proofs.Ytaonfedjilfgjaa
open Go.RowKit

theorem Try.cellInfo : (Try.prog.info? 101).map (fun i => (i.zero, i.size, i.bytes)) = some (some (.agg (Lib.byteCells (zeros 64)).toArray), 64, 64) := by kernel_rfl
theorem flatten_rep {α : Type} (z : List α) (hz : 0 < z.length) : ∀ (n i : Nat), i < n * z.length → (List.replicate n z).flatten[i]? = z[i % z.length]?
  | 0, i, h => by simp at h
  | n + 1, i, h => by
    rw [List.replicate_succ, List.flatten_cons]
    have e : (n + 1) * z.length = n * z.length + z.length := by rw [Nat.add_mul, Nat.one_mul]
    by_cases hi : i < z.length
    · rw [List.getElem?_append_left hi, Nat.mod_eq_of_lt hi]
    · have h2 := flatten_rep z hz n (i - z.length) (by omega)
      have h3 : i % z.length = (i - z.length) % z.length := Nat.mod_eq_sub_mod (by omega)
      rw [List.getElem?_append_right (by omega), h2, h3]
theorem made_flat (z : List Value) (hz : 0 < z.length) (n : Nat) : madeCells z.toArray (n * z.length) = (List.replicate n z).flatten.toArray := by
  apply Array.ext'
  apply List.ext_getElem?
  intro i
  simp only [madeCells, Array.toList_map, Array.toList_range, List.getElem?_map]
  by_cases hi : i < n * z.length
  · have hm : i % z.length < z.length := Nat.mod_lt _ hz
    rw [List.getElem?_range hi, flatten_rep z hz n i hi]
    simp [hm]
  · rw [List.getElem?_eq_none (by simp; omega), List.getElem?_eq_none ?_]
    · rfl
    · have := flat_length (css := List.replicate n z) (k := z.length) (fun cs hcs => by obtain ⟨_, rfl⟩ := List.mem_replicate.1 hcs; rfl)
      simp only [List.length_replicate] at this
      omega
section
variable {W w : World} {S : Nat → Prop} {g : Nat} {d : DvP}
/-- A device of n blocks of zeros, just laid. -/
theorem devAt_new (n : Nat) (h1 : 1 ≤ n) (h2 : n ≤ 4096) (hW : Later W w) :
    DevAt W ((w.alloc (.cells (madeCells (Lib.byteCells (zeros 64)).toArray (n * 64)) 101)).alloc (.cells #[.slice (some ⟨w.heap.size, 0, none⟩) n n, .slice none 0 0, .int .i64 0, .bool false, .int .i64 0, .bool false] 95)) (fun k => k = w.heap.size ∨ k = w.heap.size + 1) (w.heap.size + 1) (newP n) := by
  have hz : (Lib.byteCells (zeros 64)).length = 64 := by rw [bc_len, zeros_length]
  have hl0 : Later W (w.alloc (.cells (madeCells (Lib.byteCells (zeros 64)).toArray (n * 64)) 101)) := hW.alloc _
  have hbl : blL (newP n) = List.replicate n (Lib.byteCells (zeros 64)) := by simp [blL, newP]
  have hm := made_flat (Lib.byteCells (zeros 64)) (by rw [hz]; decide) n
  rw [hz] at hm
  have hk : ∀ cs ∈ blL (newP n), cs.length = 64 := fun cs hcs => by
    rw [hbl] at hcs
    obtain ⟨_, rfl⟩ := List.mem_replicate.1 hcs
    exact hz
  have ho : OwnK 101 64 W (w.alloc (.cells (madeCells (Lib.byteCells (zeros 64)).toArray (n * 64)) 101)) (.slice (some ⟨w.heap.size, 0, none⟩) n n) (blL (newP n)) := by
    refine ⟨⟨flat_length hk, .inr ⟨w.heap.size, n, _, ?_, hW.le, heap_alloc_new w _, ?_, ?_, ?_, ?_⟩⟩, hk, hl0⟩
    · rw [hbl, List.length_replicate]
    · rw [hbl, List.length_replicate]; exact Nat.le_refl _
    · simp only [maxLen]; omega
    · rw [size_madeCells]
    · rw [hm, hbl, List.length_replicate]
      show ((List.replicate n (Lib.byteCells (zeros 64))).flatten.toArray.toList).take _ = _
      rw [List.take_of_length_le]
      have := flat_length (css := List.replicate n (Lib.byteCells (zeros 64))) (k := 64) (by rw [← hbl]; exact hk)
      simp only [List.length_replicate] at this
      rw [← this]
      exact Nat.le_refl _
  have hs : (w.alloc (.cells (madeCells (Lib.byteCells (zeros 64)).toArray (n * 64)) 101)).heap.size = w.heap.size + 1 := World.size_alloc _ _
  refine ⟨⟨_, _, ?_, ho.alloc _, OwnK.nil (hl0.alloc _), (fun b hb => by cases hb; exact .inl rfl), fun b hb => by cases hb⟩, newP_ok h1 h2, .inr rfl, ?_, hl0.alloc _⟩
  · have := CellsAt.made (w.alloc (.cells (madeCells (Lib.byteCells (zeros 64)).toArray (n * 64)) 101)) #[.slice (some ⟨w.heap.size, 0, none⟩) n n, .slice none 0 0, .int .i64 0, .bool false, .int .i64 0, .bool false] 95
    rw [hs] at this
    exact this
  · intro k hk
    have := hW.le
    rw [World.size_alloc, hs]
    rcases hk with rfl | rfl <;> omega
set_option maxRecDepth 100000 in
set_option maxHeartbeats 400000 in
theorem newDev_any (count : Int) (h0 : -9223372036854775808 ≤ count) (h1 : count ≤ 9223372036854775807) (hW : Later W w) :
    Calls Try.prog 13 #[.int .i64 count] w fun e w' => ∃ g S, e = .returned (.pointer (some ⟨g, 0, none⟩)) ∧ DevAt W w' S g (newP (countN count)) ∧ Later w w' ∧ ∀ k, S k → w.heap.size ≤ k := by
  obtain ⟨i0, hi, hz0, hz1, hz2⟩ := info_parts Try.cellInfo
  obtain ⟨n, hn⟩ : ∃ n, n = countN count := ⟨_, rfl⟩
  have hlo := countN_lo count; have hhi := countN_hi count
  have hr : ∀ w : World, (Instr.makeSlice 92 (.int .i64 (n : Nat)) (.int .i64 (n : Nat))).run Try.prog w = .ok (.slice (some ⟨w.heap.size, 0, none⟩) n n) (w.alloc (.cells (madeCells (Lib.byteCells (zeros 64)).toArray (n * 64)) 101)) := fun w => by
    have := run_make (P := Try.prog) w 92 101 i0 _ Try.underlying92 hi hz0 .i64 .i64 (n : Nat) (n : Nat) (by omega) (Int.le_refl _) (by rw [hz2]; omega) (by omega)
    rw [hz1] at this
    exact this
  rw [← hn] at hlo hhi ⊢
  have HD := Lib.hid (devAt_new (W := W) (w := w) n hlo hhi hW)
  have HL := Lib.hid (((Later.refl w).alloc (.cells (madeCells (Lib.byteCells (zeros 64)).toArray (n * 64)) 101)).alloc (.cells #[.slice (some ⟨w.heap.size, 0, none⟩) n n, .slice none 0 0, .int .i64 0, .bool false, .int .i64 0, .bool false] 95))
  unfold countN at hn
  clear hi hz0 hz1 hz2
  have fin : ∃ g S, Ending.returned (.pointer (some ⟨w.heap.size + 1, 0, none⟩)) = .returned (.pointer (some ⟨g, 0, none⟩)) ∧ DevAt W ((w.alloc (.cells (madeCells (Lib.byteCells (zeros 64)).toArray (n * 64)) 101)).alloc (.cells #[.slice (some ⟨w.heap.size, 0, none⟩) n n, .slice none 0 0, .int .i64 0, .bool false, .int .i64 0, .bool false] 95)) S g (newP n) ∧ Later w ((w.alloc (.cells (madeCells (Lib.byteCells (zeros 64)).toArray (n * 64)) 101)).alloc (.cells #[.slice (some ⟨w.heap.size, 0, none⟩) n n, .slice none 0 0, .int .i64 0, .bool false, .int .i64 0, .bool false] 95)) ∧ ∀ k, S k → w.heap.size ≤ k :=
    ⟨_, _, rfl, HD.out, HL.out, fun k hk => by rcases hk with rfl | rfl <;> omega⟩
  have FIN := Lib.hid fin
  clear fin HD HL
  rcases Int.lt_or_le 4096 count with hc | hc
  · have e : n = 4096 := by omega
    subst e
    have hr2 : ∀ w : World, (Instr.makeSlice 92 (.int .i64 4096) (.int .i64 4096)).run Try.prog w = .ok (.slice (some ⟨w.heap.size, 0, none⟩) 4096 4096) (w.alloc (.cells (madeCells (Lib.byteCells (zeros 64)).toArray (4096 * 64)) 101)) := hr
    clear hn hlo hhi hr
    go_enter Try.func13, Try.ntmps13
    go_wp2
    all_goals go_ret
    all_goals exact FIN.out
  · rcases Int.lt_or_le 1 count with hc1 | hc1
    rotate_left
    · have e : n = 1 := by omega
      subst e
      have hr2 : ∀ w : World, (Instr.makeSlice 92 (.int .i64 1) (.int .i64 1)).run Try.prog w = .ok (.slice (some ⟨w.heap.size, 0, none⟩) 1 1) (w.alloc (.cells (madeCells (Lib.byteCells (zeros 64)).toArray (1 * 64)) 101)) := hr
      clear hn hlo hhi hr
      go_enter Try.func13, Try.ntmps13
      go_wp2
      all_goals go_ret
      all_goals exact FIN.out
    · have e : count = (n : Nat) := by omega
      subst e
      clear hn h0 h1
      go_enter Try.func13, Try.ntmps13
      go_wp2
      all_goals go_ret
      all_goals exact FIN.out
end

end Go.Proofs.Ytaonfedjilfgjaa

/-
  The bytes of all blocks, as a call.
-/
namespace Go.Proofs.Ytaonfedjilfgjaa
open Go.RowKit

theorem bc_app (a b : Bs) : Lib.byteCells (a ++ b) = Lib.byteCells a ++ Lib.byteCells b := by simp [Lib.byteCells]
section
variable {W w : World} {S : Nat → Prop} {g : Nat} {d : DvP}
theorem flat64 {bl : List Bs} (h : ∀ b ∈ bl, b.length = 64) : bl.flatten.length = bl.length * 64 := flat_length h
theorem take_flat {bl : List Bs} {k : Nat} (hk : k < bl.length) : (bl.take (k + 1)).flatten = (bl.take k).flatten ++ bl.getD k [] := by
  rw [List.take_succ_eq_append_getElem hk, List.flatten_append]
  simp only [List.flatten_cons, List.flatten_nil, List.append_nil, List.getD, List.getElem?_eq_getElem hk, Option.getD_some]
set_option maxRecDepth 100000 in
set_option maxHeartbeats 400000 in
theorem imageDev_any (h : DevAt W w S g d) :
    Calls Try.prog 19 #[.pointer (some ⟨g, 0, none⟩)] w fun e w' => ∃ v, e = .returned v ∧ w'.ownsRow w.heap.size 5 1 v (imageP d).length (Lib.byteCells (imageP d)) ∧ Later w w' := by
  obtain ⟨b, c, B, m, c2, hb, h1, hc, h2, hm, hc2, hr2, sb, bg, s2⟩ := h.parts
  have q0 := hb.cell (i := 0) rfl
  simp only [List.getElem_toArray, List.getElem_cons_zero] at q0
  have hmost := h.ok.most; have hone := h.ok.one
  have HOK := Lib.hid h.ok
  have H1 := Lib.hid h1
  obtain ⟨n, hn⟩ : ∃ n, n = d.bl.length := ⟨_, rfl⟩
  rw [← hn] at q0 hmost hone
  have HN := Lib.hid hn
  have HQ := Lib.hid q0
  clear h hb h1 h2 s2 hr2 hm hc2 hn
  obtain ⟨i0, hi, hz0, hz1, hz2⟩ := info_parts Try.byteInfo
  have HSZ : ∀ k, k ≤ n → Hid ((d.bl.take k).flatten.length = k * 64) := fun k hk => by
    show _ = _
    have := flat64 (bl := d.bl.take k) (fun b hb => HOK.out.size b (List.mem_of_mem_take hb))
    rw [List.length_take, ← HN.out, Nat.min_eq_left hk] at this
    exact this
  obtain ⟨w1, hrun, hown, hgr⟩ := run_make_own (P := Try.prog) w w.heap.size 33 5 i0 _ 1 Try.underlying33 hi hz0 hz1 .i64 .i64 (n * 64) (by rw [hz2]; omega) (by simp only [maxLen]; omega) (Nat.le_refl _)
  have hrun1 : (Instr.makeSlice 33 (.int .i64 0) (.int .i64 ((n : Int) * 64))).run Try.prog w = .ok (.slice (some ⟨w.heap.size, 0, none⟩) 0 (n * 64)) w1 := by
    rw [show ((n : Int) * 64) = ((n * 64 : Nat) : Int) by omega]
    exact hrun
  have hl1 : Later w w1 := ⟨hgr.os, hgr.tape, hgr.output, hgr.size, fun i hi => hgr.block i hi (by simp)⟩
  have p0 := hl1.cell q0
  have HL1 := Lib.hid hl1; have HO1 := Lib.hid hown
  clear hrun hgr hl1 hown hi hz0 hz1 hz2
  go_enter Try.func19, Try.ntmps19
  go_wp2
  clear hrun1 p0 q0
  go_loopg [3, 17] (n + 1) (fun g0 s3 s17 wr => ∃ (k : Nat) (v : Value), k ≤ n ∧ n - k ≤ g0 ∧ s17 = .int .i64 (k : Nat) ∧ s3 = v ∧ Hid (wr.ownsRow w.heap.size 5 1 v (k * 64) (Lib.byteCells (d.bl.take k).flatten)) ∧ Hid (Later w wr))
  case atStart => exact ⟨0, _, Nat.zero_le _, by omega, rfl, rfl, HO1, HL1⟩
  case round =>
    obtain ⟨k, v, hk, hg, rfl, hv, hown, hlw⟩ := hrel
    obtain rfl := hv.symm
    clear hv
    by_cases hlt : k < n
    · have q0 := hlw.out.cell HQ.out
      have HB := Lib.hid ((bs_block H1.out HOK.out (j := k) (by rw [← HN.out]; exact hlt)).later hlw.out)
      have HT := Lib.hid (take_flat (bl := d.bl) (k := k) (by rw [← HN.out]; exact hlt))
      have HLE : Hid (w.heap.size ≤ wr.heap.size) := hlw.out.le
      go_wp2_with (at_builtin; refine wpList_append_bs rfl _ _ rfl hown.out rfl rfl HB.out (fun e => by cases e) (by decide) (by omega) HLE.out ?_; intro v4 w4 hown4 hg4; have HO4 := Lib.hid hown4; have HG4 := Lib.hid hg4; clear hown4 hg4)
      go_roundg (n - (k + 1))
      case measure => omega
      case rel =>
        refine ⟨k + 1, v4, by omega, by omega, by go_num, rfl, ?_, Below.grown hlw.out HG4.out hlw.out.size (fun q hq => (hown.out.lt q hq).1)⟩
        show World.ownsRow _ _ _ _ _ _ _
        rw [show (k + 1) * 64 = k * 64 + 64 by omega, HT.out, bc_app]
        exact HO4.out
    · obtain rfl : k = n := by omega
      have e1 : d.bl.take k = d.bl := List.take_of_length_le (by rw [HN.out]; exact Nat.le_refl _)
      have e2 : (imageP d).length = k * 64 := by unfold imageP; rw [flat64 HOK.out.size, HN.out]
      rw [e1] at hown
      have E2 := Lib.hid e2
      clear e1 e2
      go_wp2
      go_ret
      exact ⟨v, rfl, by rw [E2.out]; exact hown.out, hlw.out⟩
end

end Go.Proofs.Ytaonfedjilfgjaa

/-
  What a form of a write leaves: take, as a call.
-/
namespace Go.Proofs.Ytaonfedjilfgjaa
open Go.RowKit

section
variable {W w w' : World} {S : Nat → Prop} {g : Nat} {d : DvP}
/-- Its blocks are written anew. -/
theorem DevAt.blocks (h : DevAt W w S g d) {b c m c2 : Nat} {B : Option Addr} {bl' : List Bs} (hb : CellsAt w g #[.slice (some ⟨b, 0, none⟩) d.bl.length c, .slice B m c2, .int .i64 (d.ops : Nat), .bool d.armed, .int .i64 d.left, .bool d.down] 95) (h2 : OwnK 103 129 W w (.slice B m c2) (rowL d)) (sb : S b) (bg : b ≠ g) (s2 : ∀ q, (Value.slice B m c2).ownBlock = some q → S q ∧ q ≠ g ∧ q ≠ b)
    (hch : Chg (fun q => q = b) w w') (h1 : OwnK 101 64 W w' (.slice (some ⟨b, 0, none⟩) d.bl.length c) (bl'.map Lib.byteCells)) (hl : bl'.length = d.bl.length) (hs : ∀ x ∈ bl', x.length = 64) : DevAt W w' S g { d with bl := bl' } := by
  have hlt := h1.2.2
  refine ⟨⟨_, _, hb.chg hch (fun e => bg e.symm), h1, h2.chg hch (fun q hq e => (s2 q hq).2.2 e) hlt, (fun q hq => by cases hq; exact sb), fun q hq => (s2 q hq).1⟩, ?_, h.mem, fun k hk => ⟨(h.low k hk).1, Nat.lt_of_lt_of_le (h.low k hk).2 hch.size⟩, hlt⟩
  exact ⟨by rw [hl]; exact h.ok.one, by rw [hl]; exact h.ok.most, hs, (fun x hx => by rw [hl]; exact h.ok.row x hx), h.ok.lo, h.ok.hi, h.ok.arm⟩
theorem bc_take (k : Nat) (b : Bs) : Lib.byteCells (b.take k) = (Lib.byteCells b).take k := by simp [Lib.byteCells]
theorem bc_drop (k : Nat) (b : Bs) : Lib.byteCells (b.drop k) = (Lib.byteCells b).drop k := by simp [Lib.byteCells]
theorem mix2 (a b : Bs) : Lib.byteCells (mixB 2 a b) = (Lib.byteCells b).take 32 ++ (Lib.byteCells a).drop 32 := by
  show Lib.byteCells (b.take 32 ++ a.drop 32) = _
  rw [bc_app, bc_take, bc_drop]
theorem mix3 (a b : Bs) : Lib.byteCells (mixB 3 a b) = (Lib.byteCells a).take 32 ++ (Lib.byteCells b).drop 32 := by
  show Lib.byteCells (a.take 32 ++ b.drop 32) = _
  rw [bc_app, bc_take, bc_drop]
theorem mix2_in {a b : Bs} (i : Nat) (u : Value) (h : ((Lib.byteCells b).take 32)[i]? = some u) : (Lib.byteCells (mixB 2 a b))[0 + i]? = some u := by
  have hi := (List.getElem?_eq_some_iff.1 h).1
  rw [Nat.zero_add, mix2, List.getElem?_append_left hi]
  exact h
theorem mix2_out {a b : Bs} (hv : ((Lib.byteCells b).take 32).length = 32) (i : Nat) (h : i < 0 ∨ 0 + ((Lib.byteCells b).take 32).length ≤ i) : (Lib.byteCells (mixB 2 a b))[i]? = (Lib.byteCells a)[i]? := by
  rw [mix2, List.getElem?_append_right (by omega), hv, List.getElem?_drop]
  congr 1
  omega
theorem mix3_in {a b : Bs} (ha : (Lib.byteCells a).length = 64) (i : Nat) (u : Value) (h : ((Lib.byteCells b).drop 32)[i]? = some u) : (Lib.byteCells (mixB 3 a b))[32 + i]? = some u := by
  rw [mix3, List.getElem?_append_right (by rw [List.length_take, ha]; omega), List.length_take, ha]
  rw [show 32 + i - min 32 64 = i by omega]
  exact h
theorem mix3_out {a b : Bs} (ha : (Lib.byteCells a).length = 64) (hb : (Lib.byteCells b).length = 64) (i : Nat) (h : i < 32 ∨ 32 + ((Lib.byteCells b).drop 32).length ≤ i) : (Lib.byteCells (mixB 3 a b))[i]? = (Lib.byteCells a)[i]? := by
  rw [List.length_drop, hb] at h
  rw [mix3]
  by_cases hi : i < 32
  · rw [List.getElem?_append_left (by rw [List.length_take, ha]; omega), List.getElem?_take, if_pos hi]
  · rw [List.getElem?_append_right (by rw [List.length_take, ha]; omega), List.getElem?_eq_none (by rw [List.length_take, ha, List.length_drop, hb]; omega), List.getElem?_eq_none (by rw [ha]; omega)]
set_option maxRecDepth 100000 in
set_option maxHeartbeats 800000 in
theorem take_any (h : DevAt W w S g d) (x : WrP) (hx : x.pl < d.bl.length ∧ x.was.length = 64 ∧ x.is.length = 64) (f : Nat) (hf : f < 4) :
    Calls Try.prog 56 #[.pointer (some ⟨g, 0, none⟩), .agg (wrL x).toArray, .int .i64 (f : Nat)] w fun e w' => e = .returned (.tuple #[]) ∧ DevAt W w' S g { d with bl := takeB d.bl x f } ∧ Chg S w w' ∧ ∀ u, w.cell? ⟨g, 1, none⟩ = some u → w'.cell? ⟨g, 1, none⟩ = some u := by
  obtain ⟨b, cc, B, m, c2, hb, h1, hc, h2, hm, hc2, hr2, sb, bg, s2⟩ := h.parts
  have hl1 : Later w (w.alloc (.cells (wrL x).toArray 103)) := (Later.refl w).alloc _
  have hbx := CellsAt.made w (wrL x).toArray 103
  have hmost := h.ok.most
  have H := Lib.hid (h.later hl1); have HB := Lib.hid (hb.later hl1); have H1 := Lib.hid (h1.on hl1); have H2 := Lib.hid (h2.on hl1); have HS := Lib.hid s2; have HL := Lib.hid hl1
  have q0 := (hb.later hl1).cell (i := 0) rfl
  have p0 : (w.alloc (.cells (wrL x).toArray 103)).cell? ⟨w.heap.size, 0, none⟩ = some (.int .i64 (x.pl : Nat)) := hbx.cell (by rw [arr_get]; rfl)
  simp only [List.getElem_toArray, List.getElem_cons_zero] at q0
  have HBX := Lib.hid hbx
  have HQ1 : Hid (w.cell? ⟨g, 1, none⟩ = some (.slice B m c2)) := hb.cell (i := 1) rfl
  have HX := Lib.hid hx
  have hpl := hx.1
  have hzb : d.bl.getD x.pl [] = d.bl[x.pl] := by simp [List.getD, hpl]
  have hz1 : (blL d)[x.pl]? = some (Lib.byteCells (d.bl.getD x.pl [])) := by rw [hzb]; simp [blL, hpl]
  have hnow : (d.bl.getD x.pl []).length = 64 := by rw [hzb]; exact h.ok.size _ (List.getElem_mem hpl)
  have HZ := Lib.hid hz1; have HN := Lib.hid hnow
  have HSZ := Lib.hid (takeB_size h.ok.size ⟨hx.1, hx.2.2⟩ f)
  have hf4 : f = 0 ∨ f = 1 ∨ f = 2 ∨ f = 3 := by omega
  clear h hb h1 h2 s2 hm hc2 hr2 hbx hx hzb hz1 hnow hl1
  go_enter Try.func56, Try.ntmps56
  go_wp2_with fail
  generalize hgx : w.heap.size = gx at p0 HBX ⊢
  have HGX := Lib.hid hgx
  clear hgx
  generalize w.alloc (.cells (wrL x).toArray 103) = w1 at *
  go_still (by kernel_rfl)
  refine (show Exit.then _ _ Exit.normal _ w1.drew from ?_)
  have hd : Later w1 w1.drew := (Later.refl w1).drew
  replace H := Lib.hid (H.out.later hd); replace HB := Lib.hid (HB.out.later hd); replace H1 := Lib.hid (H1.out.on hd); replace H2 := Lib.hid (H2.out.on hd); replace HL := Lib.hid (HL.out.trans hd); replace HBX := Lib.hid (HBX.out.later hd)
  clear hd p0 q0
  generalize w1.drew = w2 at *
  have HIS : Hid (w2.rangeAt gx 65 (Lib.byteCells x.is)) := HBX.out.range fun j u hj => by rw [arr_get, wrL_is HX.out.2.1]; exact hj
  have HLI : Hid ((Lib.byteCells x.is).length = 64) := by show _ = _; rw [bc_len]; exact HX.out.2.2
  have HLN : Hid ((Lib.byteCells (d.bl.getD x.pl [])).length = 64) := by show _ = _; rw [bc_len]; exact HN.out
  -- what the store leaves
  have FIN : Hid (∀ (w0 : World), Later w2 w0 → ∀ (p : Nat) (vs : List Value) (w' : World), p + vs.length ≤ 64 → w' = w0.setCells b (x.pl * 64 + p) vs → (∀ i u, vs[i]? = some u → (Lib.byteCells (mixB f (d.bl.getD x.pl []) x.is))[p + i]? = some u) → (∀ i, i < p ∨ p + vs.length ≤ i → (Lib.byteCells (mixB f (d.bl.getD x.pl []) x.is))[i]? = (Lib.byteCells (d.bl.getD x.pl []))[i]?) →
      DevAt W w' S g { d with bl := takeB d.bl x f } ∧ Chg S w w' ∧ ∀ u, w.cell? ⟨g, 1, none⟩ = some u → w'.cell? ⟨g, 1, none⟩ = some u) := by
    intro w0 hl0 p vs w' hp hw' hin hout
    have hch : Chg (fun q => q = b) w0 w' := by rw [hw']; exact sets_chg _ _ _
    have h5 := (H1.out.on hl0).set (p := p) HZ.out hp (by rw [bc_len]; exact mixB_length (f := f) HN.out HX.out.2.2) hin hout
    rw [← hw'] at h5
    refine ⟨(H.out.later hl0).blocks (HB.out.later hl0) (H2.out.on hl0) sb bg HS.out hch ?_ (takeB_length x f) HSZ.out, (Chg.later (HL.out.trans hl0)).trans hch (fun q hq => .inl (by rw [hq]; exact sb)), fun u hu => ?_⟩
    rotate_left
    · rw [HQ1.out] at hu
      cases hu
      exact hch.cell ((HB.out.later hl0).cell rfl) (fun e => bg e.symm)
    have e : (takeB d.bl x f).map Lib.byteCells = (blL d).set x.pl (Lib.byteCells (mixB f (d.bl.getD x.pl []) x.is)) := by simp [takeB, blL, List.map_set]
    rw [e]
    exact h5
  rcases hf4 with rfl | rfl | rfl | rfl
  · go_wp2
    go_end0
    have := FIN.out w2 (Later.refl w2) 0 [] w2 (by decide) rfl (fun i u hi => by simp at hi) (fun i _ => rfl)
    exact ⟨rfl, this⟩
  · go_wp2_with (with_reducible show wpList _ _ _ ({ dst := some 19, op := Op.load 101 _, type := _, pos := _, after := _, guard := _ } :: _) _ _; refine Hid.out ?_)
    refine Lib.hid (wpList_load_mid rfl _ _ rfl gx 65 rfl (Lib.byteCells x.is) _ HIS.out Try.underlying101 rfl (by rw [HLI.out]; exact Try.cellSize) ?_)
    go_wp2_with (with_reducible show wpList _ _ _ ({ dst := none, op := Op.store 101 _ _, type := _, pos := _, after := _, guard := _ } :: _) _ _; refine Hid.out ?_)
    refine Lib.hid (wpList_store_mids rfl rfl _ _ _ rfl b (x.pl * 64) (Lib.byteCells x.is) rfl rfl (by
      have := H1.out.there (j := x.pl) (p := 0) (q := 64) (by simpa [blL] using hpl) (by decide)
      rw [HLI.out]
      exact this) (by rw [HLI.out]; exact Try.cellSize) (bc_one _) ?_)
    intro w3 hw3
    have hfin := FIN.out w2 (Later.refl w2) 0 (Lib.byteCells x.is) w3 (by rw [HLI.out]; decide) hw3 (fun i u hi => by rw [Nat.zero_add]; exact hi) (fun i hi => by
      rw [List.getElem?_eq_none (by have := HLI.out; show (Lib.byteCells x.is).length ≤ i; omega), List.getElem?_eq_none (by have := HLI.out; have := HLN.out; omega)])
    have HFIN := Lib.hid hfin
    clear hfin hw3
    go_wp2
    go_end0
    exact ⟨rfl, HFIN.out⟩
  · go_wp2_with fail
    refine wp_region_still_tail 5 (by kernel_rfl) (by kernel_rfl) ?_
    simp only [List.take_succ_cons, List.take_zero, List.drop_succ_cons, List.drop_zero]
    repeat still_step
    refine wpStill_nil ?_
    refine (show wpList _ _ _ _ _ w2.drew from ?_)
    have HV : Hid (((Lib.byteCells x.is).take 32).length = 32) := by
      have := HLI.out
      show _ = _
      rw [List.length_take, this]
      rfl
    refine wpList_copy_mid rfl _ _ _ _ rfl 5 Try.underlying33 Try.byteSize (some ⟨b, x.pl * 64, none⟩) (some ⟨gx, 65, none⟩) 32 64 32 64 rfl rfl b (x.pl * 64) ((Lib.byteCells x.is).take 32) (by rw [HV.out]; rfl) (fun _ => ⟨rfl, _, rfl, fun j u hj => ?_⟩) ?_ (fun v hv => bc_one _ v (List.mem_of_mem_take hv)) ?_
    · rw [plain_add]
      exact (Later.refl w2).drew.cell (HIS.out j u (by
        rw [List.getElem?_take] at hj
        split at hj
        · exact hj
        · cases hj))
    · have := (H1.out.on (Later.refl w2).drew).there (j := x.pl) (p := 0) (q := 32) (by simpa [blL] using hpl) (by decide)
      rw [HV.out]
      exact this
    intro w3 hw3
    have hfin := FIN.out w2.drew (Later.refl w2).drew 0 _ w3 (by rw [HV.out]; decide) hw3 mix2_in (mix2_out HV.out)
    have HFIN := Lib.hid hfin
    clear hfin hw3
    go_wp2
    go_end0
    exact ⟨rfl, HFIN.out⟩
  · go_wp2_with fail
    refine wp_region_still_tail 5 (by kernel_rfl) (by kernel_rfl) ?_
    simp only [List.take_succ_cons, List.take_zero, List.drop_succ_cons, List.drop_zero]
    repeat still_step
    refine wpStill_nil ?_
    refine (show wpList _ _ _ _ _ w2.drew from ?_)
    have HV : Hid (((Lib.byteCells x.is).drop 32).length = 32) := by
      have := HLI.out
      show _ = _
      rw [List.length_drop, this]
    refine wpList_copy_mid rfl _ _ _ _ rfl 5 Try.underlying33 Try.byteSize (some ⟨b, x.pl * 64 + 32, none⟩) (some ⟨gx, 65 + 32, none⟩) 32 32 32 32 rfl rfl b (x.pl * 64 + 32) ((Lib.byteCells x.is).drop 32) (by rw [HV.out]; rfl) (fun _ => ⟨rfl, _, rfl, fun j u hj => ?_⟩) ?_ (fun v hv => bc_one _ v (List.mem_of_mem_drop hv)) ?_
    · rw [plain_add, Nat.add_assoc]
      exact (Later.refl w2).drew.cell (HIS.out _ u (by rw [List.getElem?_drop] at hj; exact hj))
    · have := (H1.out.on (Later.refl w2).drew).there (j := x.pl) (p := 32) (q := 32) (by simpa [blL] using hpl) (by decide)
      rw [HV.out]
      exact this
    intro w3 hw3
    have hfin := FIN.out w2.drew (Later.refl w2).drew 32 _ w3 (by rw [HV.out]; decide) hw3 (mix3_in HLN.out) (mix3_out HLN.out HLI.out)
    have HFIN := Lib.hid hfin
    clear hfin hw3
    go_wp2
    go_end0
    exact ⟨rfl, HFIN.out⟩
end

end Go.Proofs.Ytaonfedjilfgjaa

/-
  A device of an image: Of, as a call.
-/
namespace Go.Proofs.Ytaonfedjilfgjaa
open Go.RowKit

/-- Block i of an image. -/
def pieceB (bs : Bs) (i : Nat) : Bs := fillB ((bs.drop (i * 64)).take 64)
/-- The first k blocks are the image's. -/
def ofTo (bs : Bs) (m k : Nat) : DvP := { newP m with bl := (List.range m).map fun i => if i < k then pieceB bs i else zeros 64 }
def countI (n : Nat) : Nat := countN (((n + 63) / 64 : Nat) : Int)
def ofP (bs : Bs) : DvP := ofTo bs (countI bs.length) (countI bs.length)
section
variable {W w w' : World} {S : Nat → Prop} {g : Nat} {d : DvP} {bs : Bs} {m k : Nat}
theorem ofTo_len (bs : Bs) (m k : Nat) : (ofTo bs m k).bl.length = m := by simp [ofTo]
theorem ofTo_size (bs : Bs) (m k : Nat) : ∀ b ∈ (ofTo bs m k).bl, b.length = 64 := fun b hb => by
  obtain ⟨i, _, rfl⟩ := List.mem_map.1 hb
  split
  · exact fillB_length (by rw [List.length_take]; omega)
  · exact zeros_length 64
theorem ofTo_zero (bs : Bs) (m : Nat) : ofTo bs m 0 = newP m := by
  have e : (List.range m).map (fun i => if i < 0 then pieceB bs i else zeros 64) = List.replicate m (zeros 64) := by
    apply List.ext_getElem?
    intro i
    simp [List.getElem?_replicate]
    by_cases h : i < m <;> simp [h]
  unfold ofTo newP
  rw [e]
theorem ofTo_next (bs : Bs) {m k : Nat} (hk : k < m) : (ofTo bs m (k + 1)).bl = (ofTo bs m k).bl.set k (pieceB bs k) := by
  apply List.ext_getElem?
  intro i
  rw [List.getElem?_set]
  simp only [ofTo, List.getElem?_map, List.length_map, List.length_range]
  by_cases h : i < m
  · rw [List.getElem?_range h]
    simp only [Option.map_some]
    by_cases h2 : k = i
    · subst h2
      simp [hk]
    · rw [if_neg h2]
      by_cases h3 : i < k
      · rw [if_pos h3, if_pos (by omega)]
      · rw [if_neg h3, if_neg (by omega)]
  · rw [List.getElem?_eq_none (by simp; omega)]
    have : ¬ k = i := by omega
    simp [this]
theorem ofTo_at (bs : Bs) {m k : Nat} (hk : k < m) : (ofTo bs m k).bl[k]? = some (zeros 64) := by
  simp only [ofTo, List.getElem?_map, List.getElem?_range hk, Option.map_some]
  rw [if_neg (by omega)]
theorem piece_out (p : Bs) (i : Nat) (hp : p.length ≤ 64) (h : i < 0 ∨ 0 + (Lib.byteCells p).length ≤ i) : (Lib.byteCells (fillB p))[i]? = (Lib.byteCells (zeros 64))[i]? := by
  rw [bc_len] at h
  unfold fillB
  rw [bc_app, List.getElem?_append_right (by rw [bc_len]; omega), bc_len]
  unfold zeros Lib.byteCells
  simp only [List.map_replicate, List.getElem?_replicate]
  by_cases h2 : i < 64
  · rw [if_pos (by omega), if_pos h2]
  · rw [if_neg (by omega), if_neg h2]
theorem piece_in (p : Bs) (i : Nat) (u : Value) (h : (Lib.byteCells p)[i]? = some u) : (Lib.byteCells (fillB p))[0 + i]? = some u := by
  have hi := (List.getElem?_eq_some_iff.1 h).1
  unfold fillB
  rw [Nat.zero_add, bc_app, List.getElem?_append_left hi]
  exact h
theorem take_64 {A : Option Addr} {n : Nat} {xs : Bs} (h : BsAt w A n xs) : BsAt w A (xs.take 64).length (xs.take 64) := by
  have hl := h.len
  rcases Nat.lt_or_ge n 64 with h1 | h1
  · rw [List.take_of_length_le (by omega), hl]
    exact h
  · have := h.take h1
    rw [List.length_take, hl, Nat.min_eq_left h1]
    exact this
theorem drop_64 (xs : Bs) : xs.drop (xs.take 64).length = xs.drop 64 := by
  rw [List.length_take]
  rcases Nat.lt_or_ge xs.length 64 with h | h
  · rw [Nat.min_eq_right (by omega), List.drop_of_length_le (Nat.le_refl _), List.drop_of_length_le (by omega)]
  · rw [Nat.min_eq_left h]
set_option maxRecDepth 100000 in
set_option maxHeartbeats 1600000 in
theorem ofDev_any (A : Option Addr) (n c : Nat) (hx : BsAt w A n bs) (hA : A = none → c = 0) (hnc : n ≤ c) (hn : n ≤ 140737488355328) (hW : Later W w) :
    Calls Try.prog 27 #[.slice A n c] w fun e w' => ∃ g S, e = .returned (.pointer (some ⟨g, 0, none⟩)) ∧ DevAt W w' S g (ofP bs) ∧ Later w w' ∧ ∀ k, S k → w.heap.size ≤ k := by
  have hl := hx.len
  obtain ⟨q, hq⟩ : ∃ q, q = (n + 63) / 64 := ⟨_, rfl⟩
  have hqi : Int.tdiv ((n : Int) + 64 - 1) 64 = (q : Nat) := by
    rw [hq, show ((n : Int) + 64 - 1) = ((n + 63 : Nat) : Int) by omega]
    rfl
  have HNW := Lib.hid (newDev_any (w := w) (W := W) (q : Nat) (by omega) (by omega) hW)
  have HX := Lib.hid hx; have HA := Lib.hid hA; have HC := Lib.hid hnc; have HL := Lib.hid hl
  have HQ := Lib.hid hq
  have hwq : wrap64 (q : Int) = (q : Nat) := by unfold wrap64; omega
  clear hx hA hq
  go_enter Try.func27, Try.ntmps27
  go_wp2_with fail
  refine HNW.out.mono ?_
  rintro e w1 ⟨g, S, rfl, hd, hl1, hs⟩
  obtain ⟨m, hm⟩ : ∃ m, m = countN (q : Nat) := ⟨_, rfl⟩
  rw [← hm] at hd
  have hm1 : 1 ≤ m := by rw [hm]; exact countN_lo _
  have hm2 : m ≤ 4096 := by rw [hm]; exact countN_hi _
  have hmi : m = countI bs.length := by rw [hm, HQ.out]; unfold countI; rw [HL.out]
  have hlo : ∀ k, S k → k < w1.heap.size := fun k hk => (hd.low k hk).2
  obtain ⟨b, cc, B, m2, c2, hb, g1, hcc, g2, hm3, hc2, hr2, sb, bg, s2⟩ := hd.parts
  have e1 : (newP m).bl.length = m := by simp [newP]
  rw [e1] at hb g1
  have q0 := hb.cell (i := 0) rfl
  simp only [List.getElem_toArray, List.getElem_cons_zero] at q0
  have HD := Lib.hid hd; have HL1 := Lib.hid hl1; have HS := Lib.hid hs; have HQ0 := Lib.hid q0; have HMI := Lib.hid hmi; have HSB := Lib.hid sb
  have hd0 : Hid (DevAt W w1 S g (ofTo bs m 0)) := by show DevAt _ _ _ _ _; rw [ofTo_zero]; exact hd
  have hx1 := Lib.hid (HX.out.later hl1)
  clear hd hl1 hs hb g1 g2 s2 hr2 hm3 hqi hm hmi HNW e1 hlo hwq
  go_wp2_with fail
  clear q0
  go_loopg [0, 16] (m + 1) (fun g0 s0 s16 wr => ∃ (k : Nat) (A' : Option Addr) (n' c' : Nat), k ≤ m ∧ m - k ≤ g0 ∧ s16 = .int .i64 (k : Nat) ∧ s0 = .slice A' n' c' ∧ n' ≤ c' ∧ n' ≤ n ∧ Hid (DevAt W wr S g (ofTo bs m k)) ∧ Hid (Chg S w1 wr) ∧ Hid (wr.cell? ⟨g, 0, none⟩ = some (.slice (some ⟨b, 0, none⟩) m cc)) ∧ Hid (BsAt w A' n' (bs.drop (k * 64))))
  case atStart => exact ⟨0, A, n, c, Nat.zero_le _, by omega, rfl, rfl, hnc, Nat.le_refl _, hd0, Chg.refl _ _, HQ0, by rw [Nat.zero_mul, List.drop_zero]; exact HX⟩
  case round =>
    obtain ⟨k, A', n', c', hk, hg, rfl, rfl, hnc', hnn, hdv, hcg, hq0, hbs⟩ := hrel
    by_cases hlt : k < m
    · have q0 := hq0.out
      go_wp2_with (with_reducible show wpList _ _ _ ({ dst := some 28, op := Op.call _, type := _, pos := _, after := _, guard := _ } :: _) _ _; refine Hid.out ?_)
      have hlw : Later w wr := hcg.out.low HL1.out HS.out
      have hbw := hbs.out.later hlw
      have hp := take_64 hbw
      have hle : ((bs.drop (k * 64)).take 64).length ≤ n' := by rw [List.length_take, hbw.len]; exact Nat.min_le_right _ _
      have hle64 : ((bs.drop (k * 64)).take 64).length ≤ 64 := by rw [List.length_take]; exact Nat.min_le_left _ _
      have hmn : (Lib.byteCells ((bs.drop (k * 64)).take 64)).length = Nat.min n' 64 := by rw [bc_len, List.length_take, hbw.len]; exact Nat.min_comm _ _
      have hnx := hbs.out.from_ hle hnc'
      rw [drop_64, List.drop_drop, show k * 64 + 64 = (k + 1) * 64 by omega] at hnx
      obtain ⟨b', cc', B', m', c2', hb', g1, gcc, g2, gm, gc2, gr2, gsb, gbg, gs2⟩ := hdv.out.parts
      rw [ofTo_len] at hb' g1
      have hq := hb'.cell (i := 0) rfl
      simp only [List.getElem_toArray, List.getElem_cons_zero] at hq
      rw [hq0.out] at hq
      cases hq
      have hat : (blL (ofTo bs m k))[k]? = some (Lib.byteCells (zeros 64)) := by unfold blL; rw [List.getElem?_map, ofTo_at bs hlt]; rfl
      have hth := g1.there (j := k) (p := 0) (q := (Lib.byteCells ((bs.drop (k * 64)).take 64)).length) (List.getElem?_eq_some_iff.1 hat).1 (by rw [bc_len]; omega)
      refine Lib.hid (wpList_copy_mid rfl _ _ _ _ rfl 5 Try.underlying33 Try.byteSize (some ⟨b, k * 64, none⟩) A' 64 64 n' c' rfl rfl b (k * 64) (Lib.byteCells ((bs.drop (k * 64)).take 64)) hmn (fun h0 => ⟨rfl, hp.src h0⟩) hth (bc_one _) ?_)
      intro w3 hw3
      have hch : Chg (fun q => q = b) wr w3 := by rw [hw3]; exact sets_chg _ _ _
      have hset := g1.set (p := 0) (cs' := Lib.byteCells (pieceB bs k)) hat (by rw [bc_len]; omega) (by rw [bc_len]; exact fillB_length hle64) (piece_in _) (fun i hi => piece_out _ i hle64 hi)
      rw [Nat.add_zero, ← hw3] at hset
      have hdn : DevAt W w3 S g (ofTo bs m (k + 1)) := by
        have := hdv.out.blocks (bl' := (ofTo bs m (k + 1)).bl) (b := b) (c := cc) (B := B') (m := m') (c2 := c2') (by rw [ofTo_len]; exact hb') g2 gsb gbg gs2 hch (by
          rw [ofTo_len, ofTo_next bs hlt, List.map_set]
          exact hset) (by rw [ofTo_len, ofTo_len]) (ofTo_size bs m (k + 1))
        exact this
      have HDN := Lib.hid hdn
      have HCG := Lib.hid (hcg.out.trans hch fun q hq => .inl (by rw [hq]; exact gsb))
      have HQN : Hid (w3.cell? ⟨g, 0, none⟩ = some (.slice (some ⟨b, 0, none⟩) m cc)) := hch.cell hq0.out (fun e => gbg e.symm)
      have HNX := Lib.hid hnx
      have hpl : (Lib.byteCells ((bs.drop (k * 64)).take 64)).length = ((bs.drop (k * 64)).take 64).length := bc_len _
      rw [hpl]
      clear hset hdn hch hw3 hth hat g1 g2 gs2 gr2 gm hb' hp hmn hnx hbw hlw hdv hcg hq0 q0 hpl hbs hle64
      generalize ((bs.drop (k * 64)).take 64).length = p at *
      by_cases hcp : c' = p
      · have HN2 : Hid (BsAt w A' (n' - p) (bs.drop ((k + 1) * 64))) := by
          have := HNX.out
          rw [if_pos hcp] at this
          exact this
        go_wp2
        go_roundg (m - (k + 1))
        case measure => omega
        case rel => exact ⟨k + 1, A', n' - p, 0, by omega, by omega, by go_num, rfl, by omega, by omega, HDN, HCG, HQN, HN2⟩
      · have HN2 : Hid (BsAt w (A'.map (·.add p)) (n' - p) (bs.drop ((k + 1) * 64))) := by
          have := HNX.out
          rw [if_neg hcp] at this
          exact this
        go_wp2
        go_roundg (m - (k + 1))
        case measure => omega
        case rel => exact ⟨k + 1, _, n' - p, c' - p, by omega, by omega, by go_num, rfl, by omega, by omega, HDN, HCG, HQN, HN2⟩
    · obtain rfl : k = m := by omega
      have hfin : ofP bs = ofTo bs k k := by unfold ofP; rw [← HMI.out]
      go_wp2
      go_ret
      rw [hfin]
      exact ⟨g, S, rfl, hdv.out, hcg.out.low HL1.out HS.out, HS.out⟩
end

end Go.Proofs.Ytaonfedjilfgjaa
