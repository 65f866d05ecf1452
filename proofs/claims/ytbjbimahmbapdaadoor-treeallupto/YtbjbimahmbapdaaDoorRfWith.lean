/-
  What the document's Without and With come to, as calls.
-/
import Derived.Test.YtbjbimahmbapdaaDoorRfMem
namespace Go.Proofs.YtbjbimahmbapdaaDoor
open Go.RowKit Go.Maps

theorem RowK.two (w : World) (a b : Value) (t : TypeId) : RowK 2 (w.alloc (.cells #[a, b] t)) (some ⟨w.heap.size, 0, .none⟩) 1 [[a, b]] := RowK.one w [a, b] t

theorem Tryd.fileInfo : (Tryd.prog.info? 44).map (fun i => (i.zero, i.size, i.bytes)) = some (some (.agg #[.string ByteArray.empty, .slice none 0 0]), 2, 40) := by kernel_rfl

/-- A row of files of new memory. -/
def GivesRef (z : Fl Held) (w : World) (e : Ending) (w' : World) : Prop := ∃ A n c, e = .returned (.slice A n c) ∧ n ≤ c ∧ RefRow w' A n z ∧ Later w w'

theorem file_one (fn : ByteArray) (A : Option Addr) (n c : Nat) : ∀ cs ∈ [[Value.string fn, Value.slice A n c]], ∀ u ∈ cs, u.oneCell' = true := by
  intro cs hcs u hu
  simp at hcs; subst hcs
  simp at hu
  rcases hu with rfl | rfl <;> rfl

theorem filter_next {α : Type} {z : List α} {k : Nat} {f : α} (h : z[k]? = some f) (p : α → Bool) : (z.take (k + 1)).filter p = (z.take k).filter p ++ (if p f then [f] else []) := by
  obtain ⟨hk, rfl⟩ := List.getElem?_eq_some_iff.1 h
  rw [List.take_succ_eq_append_getElem hk, List.filter_append, List.filter_cons, List.filter_nil]

theorem gives_own {z : Fl Held} {w wr : World} {v : Value} (h : OwnK 44 2 w wr v (cellsF z)) (hr : ∀ f ∈ z, Reads wr f.2.1 f.2.2) : GivesRef z w (.returned v) wr := by
  obtain ⟨A, c, hv, hcc, hrow⟩ := h.row
  rw [cellsF_length] at hv hcc hrow
  exact ⟨A, _, c, by rw [hv], hcc, ⟨hrow, hr⟩, h.later⟩

set_option maxHeartbeats 400000 in
theorem refWithout_any (A : Option Addr) (n c : Nat) (z : Fl Held) (nm : ByteArray) (w : World) (hx : RefRow w A n z) (hn : n ≤ 65536) :
    Calls Tryd.prog 34 #[.slice A n c, .string nm] w (GivesRef (withoutT z nm) w) := by
  have HX := Lib.hid hx; clear hx
  obtain ⟨i0, hi, hz0, hz1, hz2⟩ := info_parts Tryd.fileInfo
  go_enter Tryd.func34, Tryd.ntmps34
  go_wp2
  go_loopg [5, 6] (n + 1) (fun g s5 s6 wr => ∃ (k : Nat) (v : Value), k ≤ n ∧ n - k ≤ g ∧ s6 = .int .i64 k ∧ s5 = v ∧ Hid (OwnK 44 2 w wr v (cellsF ((z.take k).filter fun f => decide (f.1 ≠ nm)))))
  case atStart => exact ⟨0, _, Nat.zero_le _, by omega, rfl, rfl, OwnK.nil (Later.refl w)⟩
  case round =>
    obtain ⟨k, v, hk, hg, rfl, rfl, ho⟩ := hrel
    by_cases hlt : k < n
    · obtain ⟨b, o, f, rfl, hz, g1, g2⟩ := (HX.out.later ho.out.later).get hlt
      obtain ⟨A2, n2, c2, hv2, -, -⟩ := HX.out.reads f (List.mem_of_getElem? hz)
      have hstep := filter_next hz (fun f => decide (f.1 ≠ nm))
      have hlen : (cellsF ((z.take k).filter fun f => decide (f.1 ≠ nm))).length ≤ 65536 := by
        rw [cellsF_length]
        have h1 := List.length_filter_le (fun f : ByteArray × Held => decide (f.1 ≠ nm)) (z.take k)
        rw [List.length_take] at h1; omega
      by_cases he : f.1 = nm
      · have HE : Hid ((z.take (k + 1)).filter (fun f => decide (f.1 ≠ nm)) = (z.take k).filter fun f => decide (f.1 ≠ nm)) := by rw [hstep]; simp [Hid, he]
        rw [he] at g1
        clear hstep hz he hv2 g2
        go_wp2
        go_roundg (n - (k + 1))
        case measure => omega
        case rel => exact ⟨k + 1, _, by omega, Nat.le_refl _, by go_num, rfl, by rw [HE.out]; exact ho.out⟩
      · have HE : Hid ((z.take (k + 1)).filter (fun f => decide (f.1 ≠ nm)) = (z.take k).filter (fun f => decide (f.1 ≠ nm)) ++ [f]) := by rw [hstep]; simp [Hid, he]
        have hb := text_ne he
        have HF : Hid (f = (f.1, (Value.slice A2 n2 c2, f.2.2))) := by show f = _; rw [← hv2]
        rw [hv2] at g2
        generalize f.1 = fn at g1 hb HF
        generalize f.2.2 = fl at HF
        clear hstep hz he hv2
        go_wp2_with (at_builtin; refine wpList_append_rowK rfl _ _ 28 rfl i0 _ 40 Tryd.underlying28 hi hz0 hz1 hz2 rfl (by decide) (ho.out.alloc _) rfl _ _ _ _ rfl (RowK.two _ _ _ _) (file_one _ _ _ _) (by omega) (by omega) ?_; intro v2 w2 hown2 hg2; have HO2 := Lib.hid hown2; clear hown2 hg2)
        go_roundg (n - (k + 1))
        case measure => omega
        case rel =>
          refine ⟨k + 1, _, by omega, Nat.le_refl _, by go_num, rfl, ?_⟩
          rw [HE.out, HF.out]
          have := HO2.out
          simpa [cellsF, Hid] using this
    · have e : z.take k = z := List.take_of_length_le (by rw [HX.out.len]; omega)
      rw [e] at ho
      clear e
      go_wp2
      go_ret
      exact gives_own ho.out fun f hf => (HX.out.reads f (List.mem_filter.1 hf).1).later ho.out.later

theorem less_before : ∀ a b : List UInt8, Op.bytesLess a b = bytesBefore a b
  | [], [] => rfl
  | [], _ :: _ => rfl
  | _ :: _, [] => rfl
  | a :: r, b :: s => by
    have ih := less_before r s
    unfold Op.bytesLess bytesBefore
    rw [← ih]
theorem less_is (a b : ByteArray) : Op.bytesLess a.toList b.toList = ltN a b := by
  rw [less_before, ByteArray.toList_eq, ByteArray.toList_eq]; rfl

theorem run_gtr (a b : ByteArray) (w : World) : (binOp .gtr 9 (.string a) (.string b)).run Tryd.prog w = .ok (.bool (ltN b a)) w := by
  have e : (!(Op.bytesLess a.toList b.toList || a.toList == b.toList)) = ltN b a := by
    rw [less_is, text_beq]
    by_cases h : a = b
    · subst h; simp [ltN_irrefl]
    · rcases ltN_total h with k | k
      · simp [k, ltN_asymm k]
      · simp [k, ltN_asymm k, h]
  rw [← e]
  simp [binOp, Op.stringOp]

set_option maxRecDepth 100000 in
set_option maxHeartbeats 1000000 in
theorem refWith_any (A : Option Addr) (n c : Nat) (z : Fl Held) (nm : ByteArray) (Al : Option Addr) (nl cl : Nat) (l : List ByteArray) (w : World) (hx : RefRow w A n z) (hl : Reads w (.slice Al nl cl) l) (hn : n ≤ 65536) :
    Calls Tryd.prog 33 #[.slice A n c, .string nm, .slice Al nl cl] w (GivesRef (withT z nm (.slice Al nl cl, l)) w) := by
  have HX := Lib.hid hx; have HL := Lib.hid hl; clear hl
  obtain ⟨i0, hi, hz0, hz1, hz2⟩ := info_parts Tryd.fileInfo
  have HC := Lib.hid (refWithout_any A n c z nm w hx hn)
  have hzn := without_length z nm
  rw [hx.len] at hzn
  clear hx
  go_enter Tryd.func33, Tryd.ntmps33
  go_wp2_with fail
  refine HC.out.mono ?_
  rintro e w1 ⟨A1, n1, c1, rfl, hnc1, hr1, hl1⟩
  have hn1 : n1 ≤ 65536 := by rw [← hr1.len]; omega
  have HR1 := Lib.hid hr1; have HL1 := Lib.hid hl1; clear hr1 hl1
  generalize hu : withoutT z nm = u at HR1 hzn
  have HU := Lib.hid hu; clear hu
  go_wp2
  go_loopg [7, 9] (n1 + 1) (fun g s7 s9 wr => ∃ (k : Nat) (v : Value), k ≤ n1 ∧ n1 - k ≤ g ∧ s9 = .int .i64 k ∧ s7 = v ∧ Hid (OwnK 44 2 w1 wr v (cellsF ((u.take k).filter fun f => ltN f.1 nm))))
  case atStart => exact ⟨0, _, Nat.zero_le _, by omega, rfl, rfl, OwnK.nil (Later.refl w1)⟩
  case round =>
    obtain ⟨k, v, hk, hg, rfl, rfl, ho⟩ := hrel
    by_cases hlt : k < n1
    · obtain ⟨b, o, f, rfl, hz, g1, g2⟩ := (HR1.out.later ho.out.later).get hlt
      obtain ⟨A2, n2, c2, hv2, -, -⟩ := HR1.out.reads f (List.mem_of_getElem? hz)
      have hstep := filter_next hz (fun f => ltN f.1 nm)
      have hlen : ((u.take k).filter fun f => ltN f.1 nm).length ≤ 65536 := by
        have h1 := List.length_filter_le (fun f : ByteArray × Held => ltN f.1 nm) (u.take k)
        rw [List.length_take] at h1; omega
      by_cases he : ltN f.1 nm = true
      · have HE : Hid ((u.take (k + 1)).filter (fun f => ltN f.1 nm) = (u.take k).filter (fun f => ltN f.1 nm) ++ [f]) := by rw [hstep]; simp [Hid, he]
        have hb : Op.bytesLess f.1.toList nm.toList = true := by rw [less_is]; exact he
        have HF : Hid (f = (f.1, (Value.slice A2 n2 c2, f.2.2))) := by show f = _; rw [← hv2]
        rw [hv2] at g2
        generalize f.1 = fn at g1 hb HF
        generalize f.2.2 = fl at HF
        clear hstep hz he hv2
        go_wp2_with (at_builtin; refine wpList_append_rowK rfl _ _ 28 rfl i0 _ 40 Tryd.underlying28 hi hz0 hz1 hz2 rfl (by decide) (ho.out.alloc _) rfl _ _ _ _ rfl (RowK.two _ _ _ _) (file_one _ _ _ _) (by rw [cellsF_length]; omega) (by omega) ?_; intro v2 w2 hown2 hg2; have HO2 := Lib.hid hown2; clear hown2 hg2)
        go_roundg (n1 - (k + 1))
        case measure => omega
        case rel =>
          refine ⟨k + 1, _, by omega, Nat.le_refl _, by go_num, rfl, ?_⟩
          rw [HE.out, HF.out]
          have := HO2.out
          simpa [cellsF, Hid] using this
      · have he' : ltN f.1 nm = false := by simpa using he
        have HE : Hid ((u.take (k + 1)).filter (fun f => ltN f.1 nm) = (u.take k).filter fun f => ltN f.1 nm) := by rw [hstep]; simp [Hid, he']
        have hb : Op.bytesLess f.1.toList nm.toList = false := by rw [less_is]; exact he'
        generalize f.1 = fn at g1 hb
        clear hstep hz he he' hv2 g2
        go_wp2
        go_roundg (n1 - (k + 1))
        case measure => omega
        case rel => exact ⟨k + 1, _, by omega, Nat.le_refl _, by go_num, rfl, by rw [HE.out]; exact ho.out⟩
    · have e : u.take k = u := List.take_of_length_le (by rw [HR1.out.len]; omega)
      rw [e] at ho
      have hle1 : (u.filter fun f => ltN f.1 nm).length ≤ 65536 := by
        have h1 := List.length_filter_le (fun f : ByteArray × Held => ltN f.1 nm) u
        rw [HR1.out.len] at h1; omega
      clear e
      go_wp2_with (at_builtin; refine wpList_append_rowK rfl _ _ 28 rfl i0 _ 40 Tryd.underlying28 hi hz0 hz1 hz2 rfl (by decide) (ho.out.alloc _) rfl _ _ _ _ rfl (RowK.two _ _ _ _) (file_one _ _ _ _) (by rw [cellsF_length]; omega) (by omega) ?_; intro v3 w3 hown3 hg3; have HO3 := Lib.hid hown3; clear hown3 hg3)
      have hO4 : OwnK 44 2 w1 w3 v3 (cellsF ((u.filter fun f => ltN f.1 nm) ++ [(nm, (Value.slice Al nl cl, l))])) := by
        have := HO3.out
        simpa [cellsF] using this
      generalize hP : (u.filter fun f => ltN f.1 nm) ++ [(nm, (Value.slice Al nl cl, l))] = pre at hO4
      have HP := Lib.hid hP
      have hpl : pre.length ≤ 65537 := by rw [← hP, List.length_append, List.length_singleton]; omega
      have HO4 := Lib.hid hO4
      clear hO4 HO3 ho hle1 hP hg hlt hk
      go_loopg [7, 10] (n1 + 1) (fun g s7 s10 wr => ∃ (k : Nat) (v : Value), k ≤ n1 ∧ n1 - k ≤ g ∧ s10 = .int .i64 k ∧ s7 = v ∧ Hid (OwnK 44 2 w1 wr v (cellsF (pre ++ (u.take k).filter fun f => ltN nm f.1))))
      case atStart => exact ⟨0, _, Nat.zero_le _, by omega, rfl, rfl, by simpa [Hid] using HO4.out⟩
      case round =>
        obtain ⟨k, v, hk, hg, rfl, rfl, ho⟩ := hrel
        by_cases hlt : k < n1
        · obtain ⟨b, o, f, rfl, hz, g1, g2⟩ := (HR1.out.later ho.out.later).get hlt
          obtain ⟨A2, n2, c2, hv2, -, -⟩ := HR1.out.reads f (List.mem_of_getElem? hz)
          have hstep := filter_next hz (fun f => ltN nm f.1)
          have hlen : ((u.take k).filter fun f => ltN nm f.1).length ≤ 65536 := by
            have h1 := List.length_filter_le (fun f : ByteArray × Held => ltN nm f.1) (u.take k)
            rw [List.length_take] at h1; omega
          by_cases he : ltN nm f.1 = true
          · have HE : Hid ((u.take (k + 1)).filter (fun f => ltN nm f.1) = (u.take k).filter (fun f => ltN nm f.1) ++ [f]) := by rw [hstep]; simp [Hid, he]
            have hb : ∀ w, (binOp .gtr 9 (.string f.1) (.string nm)).run Tryd.prog w = .ok (.bool true) w := fun w => by rw [run_gtr, he]
            have HF : Hid (f = (f.1, (Value.slice A2 n2 c2, f.2.2))) := by show f = _; rw [← hv2]
            rw [hv2] at g2
            generalize f.1 = fn at g1 hb HF
            generalize f.2.2 = fl at HF
            clear hstep hz he hv2
            go_wp2_with (at_builtin; refine wpList_append_rowK rfl _ _ 28 rfl i0 _ 40 Tryd.underlying28 hi hz0 hz1 hz2 rfl (by decide) (ho.out.alloc _) rfl _ _ _ _ rfl (RowK.two _ _ _ _) (file_one _ _ _ _) (by rw [cellsF_length, List.length_append]; omega) (by omega) ?_; intro v2 w2 hown2 hg2; have HO2 := Lib.hid hown2; clear hown2 hg2)
            go_roundg (n1 - (k + 1))
            case measure => omega
            case rel =>
              refine ⟨k + 1, _, by omega, Nat.le_refl _, by go_num, rfl, ?_⟩
              rw [HE.out, HF.out]
              have := HO2.out
              simpa [cellsF, Hid] using this
          · have he' : ltN nm f.1 = false := by simpa using he
            have HE : Hid ((u.take (k + 1)).filter (fun f => ltN nm f.1) = (u.take k).filter fun f => ltN nm f.1) := by rw [hstep]; simp [Hid, he']
            have hb : ∀ w, (binOp .gtr 9 (.string f.1) (.string nm)).run Tryd.prog w = .ok (.bool false) w := fun w => by rw [run_gtr, he']
            generalize f.1 = fn at g1 hb
            clear hstep hz he he' hv2 g2
            go_wp2
            go_roundg (n1 - (k + 1))
            case measure => omega
            case rel => exact ⟨k + 1, _, by omega, Nat.le_refl _, by go_num, rfl, by rw [HE.out]; exact ho.out⟩
        · have e : u.take k = u := List.take_of_length_le (by rw [HR1.out.len]; omega)
          rw [e] at ho
          have HW : Hid (withT z nm (.slice Al nl cl, l) = pre ++ u.filter fun f => ltN nm f.1) := by
            show _ = _
            rw [← HP.out, ← HU.out]; simp [withT]
          clear e
          go_wp2
          go_ret
          rw [HW.out]
          obtain ⟨A9, n9, c9, h1, h2, h3, h4⟩ := gives_own ho.out fun f hf => by
            rcases List.mem_append.1 hf with hf | hf
            · rw [← HP.out] at hf
              rcases List.mem_append.1 hf with hf | hf
              · exact (HR1.out.reads f (List.mem_filter.1 hf).1).later ho.out.later
              · simp at hf; subst hf
                exact (HL.out.later HL1.out).later ho.out.later
            · exact (HR1.out.reads f (List.mem_filter.1 hf).1).later ho.out.later
          exact ⟨A9, n9, c9, h1, h2, h3, HL1.out.trans h4⟩

end Go.Proofs.YtbjbimahmbapdaaDoor
