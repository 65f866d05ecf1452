/-
  What the law TreeOwn comes to, as a call.
-/
import Derived.Test.YtbjbimahmbapdaaDoorWBack
import Derived.Test.YtbjbimahmbapdaaDoorTrPutOk
namespace Go.Proofs.YtbjbimahmbapdaaDoor
open Go.RowKit Go.Maps

/-- What is asked of lines that come in. -/
structure CameL (w : World) (A : Option Addr) (n c : Nat) (l : List ByteArray) : Prop where
  row : Row w A n l
  room : n ≤ c
  weigh : l.length + (l.map ByteArray.size).sum ≤ 1048576

/-- A call that has lines alone. -/
def lineOp (A : Option Addr) (n c : Nat) (l : List ByteArray) : OpC := ⟨⟨0, ByteArray.empty, ByteArray.empty, l⟩, A, n, c⟩
theorem lineOp_weight (A : Option Addr) (n c : Nat) (l : List ByteArray) : weightL [lineOp A n c l] = heavy l := by
  simp [weightL, weight, lineOp, heavy, ByteArray.size_empty]
theorem lineOp_script {w : World} {A : Option Addr} {n c : Nat} {l : List ByteArray} (h : Row w A n l) (hc : n ≤ c) (t : TypeId) :
    Script (w.alloc (.cells #[.int .i64 0, .string ByteArray.empty, .string ByteArray.empty, .slice A n c] t)) (some ⟨w.heap.size, 0, none⟩) 1 [lineOp A n c l] :=
  ⟨RowK.one w [.int .i64 0, .string ByteArray.empty, .string ByteArray.empty, .slice A n c] t, fun o ho => by
    simp at ho; subst ho
    exact ⟨h.later ((Later.refl w).alloc _), hc⟩⟩

/-- The first line of an own row: its cell may be written. -/
theorem Own.first {w0 w : World} {v : Value} {l : List ByteArray} (h : Own 9 w0 w v l) (h1 : 1 ≤ l.length) :
    ∃ g cap cur, v = .slice (some ⟨g, 0, none⟩) l.length cap ∧ l.length ≤ cap ∧ w0.heap.size ≤ g ∧ w.heap[g]? = some (.cells cur 9 (0, 0)) ∧ w.cell? ⟨g, 0, none⟩ = some (.string (l.getD 0 ByteArray.empty)) := by
  rcases h.1.2 with ⟨_, h0⟩ | ⟨g, cap, cur, hv, hg, hh, hnc, hm, hs, ht⟩
  · omega
  · refine ⟨g, cap, cur, hv, hnc, hg, hh, ?_⟩
    obtain ⟨A, c, hv2, _, hr⟩ := h.row
    rw [hv] at hv2
    simp only [Value.slice.injEq] at hv2
    obtain ⟨rfl, -, -⟩ := hv2
    obtain ⟨b, o, e, hc⟩ := hr.get (k := 0) (by omega)
    simp only [Option.some.injEq, Addr.mk.injEq] at e
    obtain ⟨rfl, rfl, -⟩ := e
    exact hc
theorem frozen_no {w : World} {g : Nat} {cur : Array Value} {t : TypeId} (h : w.heap[g]? = some (.cells cur t (0, 0))) (i : Nat) : w.frozen? ⟨g, i, none⟩ = false := by
  simp [World.frozen?, h]
theorem turned_set (w : World) (g i : Nat) (u : Value) : Turned g w (w.setCell ⟨g, i, none⟩ u) :=
  ⟨rfl, rfl, rfl, by simp, fun k _ hne => RowKit.Below.heap_setCell _ _ _ _ (fun e => hne (by rw [e]))⟩
/-- A block that was not there has turned, behind block B. -/
theorem Turned.more {B g : Nat} {w w' w'' : World} (h : Turned B w w') (k : Turned g w' w'') (hg : w.heap.size ≤ g) : Turned B w w'' :=
  ⟨k.os.trans h.os, k.tape.trans h.tape, k.output.trans h.output, Nat.le_trans h.size k.size, fun i hi hne => (k.block i (Nat.lt_of_lt_of_le hi h.size) (fun e => by cases e; omega)).trans (h.block i hi hne)⟩
theorem right_size {l : List ByteArray} (h : allB l = true) {s : ByteArray} (hs : s ∈ l) : s.size ≤ 60 := by
  have := List.all_eq_true.1 h s hs
  simp only [rightB, Bool.and_eq_true, decide_eq_true_eq] at this
  exact this.1
theorem reads_lt {w : World} {v : Value} {l : List ByteArray} (h : Reads w v l) (h1 : l ≠ []) : ∀ k, v.ownBlock = some k → k < w.heap.size := by
  obtain ⟨A, n, c, rfl, _, hr⟩ := h
  intro k hk
  have hn : 0 < n := by
    rcases Nat.eq_zero_or_pos n with h0 | h0
    · exact absurd (List.eq_nil_of_length_eq_zero (hr.len.trans h0)) h1
    · exact h0
  obtain ⟨b, o, rfl, hc⟩ := hr.get hn
  simp only [Value.ownBlock, Option.some.injEq] at hk
  rw [← hk]
  exact lt_of_cell hc

def GivesWith (t : Tr) (w : World) (e : Ending) (w' : World) : Prop := ∃ v, e = .returned v ∧ RefAt w' v t ∧ Later w w'

theorem refWithAt_any (v : Value) (t : Tr) (nm : ByteArray) (Al : Option Addr) (nl cl : Nat) (l : List ByteArray) (w : World) (ht : RefAt w v t) (hr : Row w Al nl l) (hc : nl ≤ cl) (hl : t.length ≤ 65536) : Calls Tryd.prog 33 #[v, .string nm, .slice Al nl cl] w (GivesWith (withT t nm l) w) := by
  obtain ⟨A, n, c, z, rfl, hc', hr', rfl⟩ := ht
  rw [mapT_length, hr'.len] at hl
  refine (refWith_any A n c z nm Al nl cl l w hr' ⟨Al, nl, cl, rfl, hc, hr⟩ hl).mono ?_
  rintro e w' ⟨A1, n1, c1, rfl, hc1, hr1, hl1⟩
  exact ⟨_, rfl, ⟨A1, n1, c1, _, rfl, hc1, hr1, (withT_map (fun x : Held => x.2) z nm (_, l)).symm⟩, hl1⟩

theorem small_with {t : Tr} (h : Small t) (ht : Rising t) {n : ByteArray} (hn : hasT t n = true) {l : List ByteArray} (hs : n.size ≤ maxLen) (hl : l.length ≤ 65536) : Small (withT t n l) := by
  refine ⟨?_, fun f hf => ?_, fun f hf => ?_⟩
  · have := congrArg List.length (names_with ht hn l)
    simp only [List.length_map] at this
    rw [this]; exact h.many
  · rcases mem_with.1 hf with rfl | hf
    · exact hs
    · exact h.names f hf.1
  · rcases mem_with.1 hf with rfl | hf
    · exact hl
    · exact h.lines f hf.1

set_option maxRecDepth 100000 in
set_option maxHeartbeats 1000000 in
theorem lawOwn (A : Option Addr) (n c : Nat) (os : List OpC) (Al : Option Addr) (nl cl : Nat) (l : List ByteArray) (w : World) (hx : CameS w A n os) (hl : CameL w Al nl cl l) (htab : Tab w) :
    Calls Tryd.prog 7 #[.slice A n c, .slice Al nl cl] w (Says true w) := by
  have HF := Lib.hid (few_any A n c os w hx.script hx.many hx.weigh)
  have HF' := Lib.hid (fun (w1 : World) (h : Later w w1) => few_any (some ⟨w1.heap.size, 0, none⟩) 1 1 [lineOp Al nl cl l] _ (lineOp_script (hl.row.later h) hl.room 31) (by omega) (by rw [lineOp_weight]; exact hl.weigh))
  rw [lineOp_weight] at HF'
  have hbd : fewN n (weightL os) ≤ 4000000 := by have h1 := hx.many; have h2 := hx.weigh; unfold fewN; split <;> omega
  have hbd' : fewN 1 (heavy l) ≤ 4000000 := by have h2 := hl.weigh; unfold fewN heavy; split <;> omega
  have hz := @few_zero n (weightL os)
  have hz' := @few_zero 1 (heavy l)
  generalize fewN n (weightL os) = fw at HF hbd hz
  generalize fewN 1 (heavy l) = fw' at HF' hbd' hz'
  have HZ := Lib.hid hz; have HZ' := Lib.hid hz'
  have HX := Lib.hid hx; have HLL := Lib.hid hl; have HTB := Lib.hid htab
  clear hx hl htab hz hz'
  by_cases h0 : fw = 0
  · obtain ⟨hn80, hW80⟩ := HZ.out.1 h0
    subst h0
    by_cases h1 : fw' = 0
    · obtain ⟨-, hW81⟩ := HZ'.out.1 h1
      subst h1
      have hlen := HLL.out.row.len
      have hmx : ∀ x ∈ l, x.size ≤ maxLen := fun x hx => by have := sizes_mem hx; unfold heavy at hW81; simp only [maxLen]; omega
      have HMX := Lib.hid hmx; clear hmx
      have hnl : nl ≤ 8000 := by unfold heavy at hW81; omega
      by_cases h2 : nl < 1
      · have hd : decide ((nl : Int) < 1) = true := by simp; omega
        go_enter Tryd.func7, Tryd.ntmps7
        go_wp2_with fail
        refine HF.out.mono ?_
        rintro e w1 ⟨rfl, hl1⟩
        have HL1 := Lib.hid hl1; clear hl1
        go_wp2_with fail
        refine (HF'.out w1 HL1.out).mono ?_
        rintro e w2 ⟨rfl, hl2⟩
        have HL2 := Lib.hid ((HL1.out.alloc _).trans hl2); clear hl2
        go_wp2_with fail
        refine (alive_any w2 (HTB.out.later HL2.out)).mono ?_
        rintro e w20 ⟨rfl, hl20⟩
        have HL20 := Lib.hid (HL2.out.trans hl20); clear hl20
        go_wp2
        go_ret
        exact ⟨rfl, HL20.out⟩

      · have hd : decide ((nl : Int) < 1) = false := by simp; omega
        cases hal : allB l
        · have HAL : Hid (∀ w1, Later w w1 → Calls Tryd.prog 30 #[.slice Al nl cl] w1 fun e w' => e = .returned (.bool false) ∧ w1 = w') := fun w1 h => by
            have := all_any Al nl cl l w1 (HLL.out.row.later h) (by omega) HMX.out
            rwa [hal] at this
          clear hal
          go_enter Tryd.func7, Tryd.ntmps7
          go_wp2_with fail
          refine HF.out.mono ?_
          rintro e w1 ⟨rfl, hl1⟩
          have HL1 := Lib.hid hl1; clear hl1
          go_wp2_with fail
          refine (HF'.out w1 HL1.out).mono ?_
          rintro e w2 ⟨rfl, hl2⟩
          have HL2 := Lib.hid ((HL1.out.alloc _).trans hl2); clear hl2
          go_wp2_with fail
          refine (HAL.out w2 HL2.out).mono ?_
          rintro e w3 ⟨rfl, rfl⟩
          go_wp2_with fail
          refine (alive_any w2 (HTB.out.later HL2.out)).mono ?_
          rintro e w20 ⟨rfl, hl20⟩
          have HL20 := Lib.hid (HL2.out.trans hl20); clear hl20
          go_wp2
          go_ret
          exact ⟨rfl, HL20.out⟩

        · have HAL : Hid (∀ w1, Later w w1 → Calls Tryd.prog 30 #[.slice Al nl cl] w1 fun e w' => e = .returned (.bool true) ∧ w1 = w') := fun w1 h => by
            have := all_any Al nl cl l w1 (HLL.out.row.later h) (by omega) HMX.out
            rwa [hal] at this
          have HALL := Lib.hid hal
          have hfit := made_fits HX.out.script hW80
          have HSM := Lib.hid (hfit.small (by omega))
          have hmany := HSM.out.many
          obtain ⟨i0, hi, hz0, hz1, hz2⟩ := info_parts Tryd.textInfo
          have hx0 : (l.getD 0 ByteArray.empty).size ≤ 60 := right_size hal (by simp only [List.getD, List.getElem?_eq_getElem (show 0 < l.length by omega), Option.getD_some]; exact List.getElem_mem _)
          have h1l : 1 ≤ l.length := by omega
          have hll : l.length ≤ 8000 := by omega
          have hrr : Hid (l.getD 0 ByteArray.empty = l.getD 0 ByteArray.empty) := rfl
          have HLN := Lib.hid hlen
          clear hal hfit hlen
          generalize hl0 : l.getD 0 ByteArray.empty = l0 at hx0 hrr
          have HL0 := Lib.hid hl0; clear hl0
          go_enter Tryd.func7, Tryd.ntmps7
          go_wp2_with fail
          refine HF.out.mono ?_
          rintro e w1 ⟨rfl, hl1⟩
          have HL1 := Lib.hid hl1; clear hl1
          go_wp2_with fail
          refine (HF'.out w1 HL1.out).mono ?_
          rintro e w2 ⟨rfl, hl2⟩
          have HL2 := Lib.hid ((HL1.out.alloc _).trans hl2); clear hl2
          go_wp2_with fail
          refine (HAL.out w2 HL2.out).mono ?_
          rintro e w3 ⟨rfl, rfl⟩
          go_wp2_with fail
          refine (made_any A n c os w2 (HX.out.script.later HL2.out) hn80 hW80).mono ?_
          rintro e w3 ⟨p, B, v, rfl, ht3, hr3, hp, hB, hl3⟩
          have HT3 := Lib.hid ht3; have HR3 := Lib.hid hr3; have HL3 := Lib.hid (HL2.out.trans hl3)
          have hBw : w.heap.size ≤ B := Nat.le_trans HL2.out.le hB
          clear ht3 hr3 hl3 hp hB
          generalize madeT os = t at *
          go_wp2_with fail
          refine (names_any p B t w3 HT3.out (by omega)).mono ?_
          rintro e w4 ⟨v4, rfl, hown4⟩
          obtain ⟨A4, c4, hv4, hcc4, hr4⟩ := hown4.row
          subst hv4
          have HRW4 := Lib.hid hr4
          have HT4 := Lib.hid (HT3.out.later hown4.later); have HR4 := Lib.hid (HR3.out.later hown4.later); have HL4 := Lib.hid (HL3.out.trans hown4.later)
          have hnsl : (namesT t).length ≤ 1000 := by simp only [namesT, List.length_map]; omega
          have HNM : Hid (∀ s ∈ namesT t, s.size ≤ maxLen ∧ hasT t s = true) := fun s hs => by
            obtain ⟨f, hf, rfl⟩ := List.mem_map.1 hs
            exact ⟨HSM.out.names f hf, hasT_iff.2 ⟨f, hf, rfl⟩⟩
          have HNS : Hid (namesT t = namesT t) := rfl
          clear hown4 hr4
          generalize hns : namesT t = ns at HRW4 hcc4 hnsl HNM HNS ⊢
          have HNT := Lib.hid hns; clear hns
          go_wp2
          go_loopg [6, 44] (ns.length + 1) (fun g s6 s44 wr => ∃ (k : Nat) (v : Value) (tk : Tr), k ≤ ns.length ∧ ns.length - k ≤ g ∧ s44 = .int .i64 k ∧ s6 = v ∧ Hid (TreeAt wr p B tk) ∧ Hid (RefAt wr v tk) ∧ Hid (Small tk) ∧ Hid (namesT tk = ns) ∧ Hid (Later w wr) ∧ Hid (Row wr A4 ns.length ns))
          case atStart => exact ⟨0, v, t, Nat.zero_le _, by omega, rfl, rfl, HT4.out, HR4.out, HSM.out, HNT.out, HL4.out, HRW4.out⟩
          case round =>
            obtain ⟨k, v, tk, hk, hg, rfl, hv, htr, href, hsm, hnt, hwr, hrw⟩ := hrel
            obtain rfl := hv.symm
            clear hv
            by_cases hlt : k < ns.length
            · obtain ⟨b1, o1, rfl, g1⟩ := hrw.out.get hlt
              have hmem : ns.getD k ByteArray.empty ∈ ns := by
                simp only [List.getD, List.getElem?_eq_getElem hlt, Option.getD_some]
                exact List.getElem_mem _
              have hnm := (HNM.out _ hmem).1
              have hhas : hasT tk (ns.getD k ByteArray.empty) = true := by
                have h9 := hmem
                rw [← hnt.out] at h9
                obtain ⟨f, hf, hfe⟩ := List.mem_map.1 h9
                exact hasT_iff.2 ⟨f, hf, by rw [hfe, hnt.out]⟩
              generalize ns.getD k ByteArray.empty = nm at g1 hnm hhas
              have hsmm := hsm.out.many
              have hrise := htr.out.files.rise
              have HNW : Hid (namesT (withT tk nm l) = ns) := (names_with hrise hhas l).trans hnt.out
              have HSW := Lib.hid (small_with hsm.out hrise hhas (l := l) hnm (by omega))
              have hsw := HSW.out.many
              have HGW := Lib.hid (get_with_same hrise nm l)
              obtain ⟨hcell, z, hz, hzt⟩ := htr.out
              have hpl : p < wr.heap.size := lt_of_cell hcell
              have hBl : B < wr.heap.size := hz.lt
              have hzl : z.length ≤ 65536 := by have := congrArg List.length hzt; rw [mapT_length] at this; omega
              have HHZ : Hid (hasT z nm = true) := by rw [← hasT_map (fun x : Held => x.2), hzt]; exact hhas
              have HZT := Lib.hid hzt; have HZZ := Lib.hid hz; have HNMS := Lib.hid hnm
              have HMAP := Lib.hid hz.map
              clear hmem hhas hrise hz hzt hnm
              go_wp2_with (at_builtin; refine wpList_append_row (w0 := wr) rfl _ _ 29 rfl i0 Tryd.underlying29 hi hz0 hz1 hz2 (Own.empty (Later.refl wr)) rfl _ _ _ _ rfl (HLL.out.row.later (hwr.out.trans ((Later.refl wr).alloc _))) (by simp; omega) ?_; intro v5 w5 hown5 hg5; clear hg5)
              rw [List.nil_append] at hown5
              obtain ⟨g, cap, cur, hv5, hcap, hg0, hh5, hcell5⟩ := hown5.first h1l
              rw [HL0.out] at hcell5
              obtain ⟨A5, c5, hv5', hcc5, hr5⟩ := hown5.row
              rw [hv5] at hv5'
              simp only [Value.slice.injEq] at hv5'
              obtain ⟨hA5, -, -⟩ := hv5'
              subst hA5
              subst hv5
              have hl5 := hown5.later
              have hglt : g < w5.heap.size := (Array.getElem?_eq_some_iff.1 hh5).1
              have hgB : B ≠ g := by omega
              have HL5 := Lib.hid hl5; have HR5 := Lib.hid hr5; have HH5 := Lib.hid hh5; have HC5 := Lib.hid hcell5
              have hle5 := hl5.le
              clear hown5 hl5 hr5 hh5 hcell5
              go_wp2_with fail
              refine (put_ok p B nm (some ⟨g, 0, none⟩) l.length cap l z w5 (HL5.out.cell hcell) (HZZ.out.later HL5.out) HR5.out HNMS.out hzl (by omega) HMX.out HHZ.out HALL.out).mono ?_
              rintro e w6 ⟨v6, rfl, hc6, hfa6, hbk6, hg6⟩
              have hf6 : w6.frozen? ⟨g, 0, none⟩ = false := frozen_no (cur := cur) (t := 9) ((hg6.block g hglt (by simpa using fun e : g = B => hgB e.symm)).trans HH5.out) 0
              have hcx : w6.cell? ⟨g, 0, none⟩ = some (.string l0) := hg6.cell HC5.out (fun e => hgB e.symm)
              have hset := turned_set w6 g 0 (.string (l0 ++ (⟨#[120]⟩ : ByteArray)))
              have HT7 : Hid (TreeAt (w6.setCell ⟨g, 0, none⟩ (.string (l0 ++ (⟨#[120]⟩ : ByteArray)))) p B (withT tk nm l)) := by
                refine ⟨hset.cell hc6 (by show p ≠ g; omega), _, hfa6.off hset hgB (fun f hf hne => ?_), ?_⟩
                · rcases mem_with.1 hf with rfl | hf
                  · intro e9
                    have := hbk6 g e9
                    omega
                  · intro e9
                    have := reads_lt (HZZ.out.reads f hf.1) hne g e9
                    omega
                · rw [← HZT.out]
                  exact (withT_map (fun x : Held => x.2) z nm (_, l)).symm
              have HG7 : Hid (Turned B wr (w6.setCell ⟨g, 0, none⟩ (.string (l0 ++ (⟨#[120]⟩ : ByteArray))))) := ((HL5.out.turned B).trans hg6).more hset hg0
              have hnl0 : ¬ 9223372036854775807 < l0.size + 1 := by omega
              clear hset hfa6 hbk6 hg6
              go_wp2_with fail
              generalize w6.setCell ⟨g, 0, none⟩ (.string (l0 ++ (⟨#[120]⟩ : ByteArray))) = w7 at HT7 HG7 ⊢
              clear hcx hf6
              refine (get_any p B nm (withT tk nm l) w7 HT7.out HNMS.out HSW.out.lines).mono ?_
              rw [HGW.out]
              rintro e w8 ⟨v8, rfl, hown8⟩
              simp only [Option.getD_some, Option.isSome_some] at hown8 ⊢
              obtain ⟨g8, cap8, cur8, hv8, hcap8, hg8, hh8, hcell8⟩ := hown8.first h1l
              rw [HL0.out] at hcell8
              obtain ⟨A8, c8, hv8', hcc8, hr8⟩ := hown8.row
              rw [hv8] at hv8'
              simp only [Value.slice.injEq] at hv8'
              obtain ⟨hA8, -, -⟩ := hv8'
              subst hA8
              subst hv8
              have HL8 := Lib.hid hown8.later; have HR8 := Lib.hid hr8; have HH8 := Lib.hid hh8; have HC8 := Lib.hid hcell8
              clear hown8 hr8 hh8 hcell8
              obtain ⟨mes, mcl, hmap⟩ := HMAP.out
              have HW7 := Lib.hid (hwr.out.turn HG7.out hBw)
              have HRF7 := Lib.hid (href.out.turned HG7.out hmap)
              have HRN7 := Lib.hid (hrw.out.turned HG7.out hmap)
              clear hmap
              go_wp2_with fail
              refine (same_any (some ⟨g8, 0, none⟩) Al l.length cap8 nl cl l l w8 HR8.out (HLL.out.row.later (HW7.out.trans HL8.out)) (by omega) (by omega)).mono ?_
              rw [sameB_self]
              rintro e w9 ⟨rfl, q9, hw9⟩
              have hl89 : Later w8 w9 := by rw [hw9]; exact (Later.refl w8).drewN q9
              clear hw9
              have hlt8 : g8 < w8.heap.size := (Array.getElem?_eq_some_iff.1 HH8.out).1
              have hf9 : w9.frozen? ⟨g8, 0, none⟩ = false := frozen_no (cur := cur8) (t := 9) ((hl89.block g8 hlt8).trans HH8.out) 0
              have hc9 : w9.cell? ⟨g8, 0, none⟩ = some (.string l0) := hl89.cell HC8.out
              have hl710 : Later w7 (w9.setCell ⟨g8, 0, none⟩ (.string (l0 ++ (⟨#[120]⟩ : ByteArray)))) := (HL8.out.trans hl89).turn (turned_set w9 g8 0 _) hg8
              have HL710 := Lib.hid hl710
              clear hl89 hl710
              go_wp2_with fail
              generalize w9.setCell ⟨g8, 0, none⟩ (.string (l0 ++ (⟨#[120]⟩ : ByteArray))) = w10 at HL710 ⊢
              clear hc9 hf9
              refine (refWithAt_any v tk nm Al nl cl l w10 (HRF7.out.later HL710.out) (HLL.out.row.later (HW7.out.trans HL710.out)) HLL.out.room (by omega)).mono ?_
              rintro e w11 ⟨v11, rfl, hr11, hl11⟩
              have HR11 := Lib.hid hr11; have HL11 := Lib.hid (HL710.out.trans hl11)
              clear hr11 hl11
              go_wp2
              go_roundg (ns.length - (k + 1))
              case measure => omega
              case rel => exact ⟨k + 1, v11, withT tk nm l, by omega, Nat.le_refl _, by go_num, rfl, HT7.out.later HL11.out, HR11.out, HSW.out, HNW.out, HW7.out.trans HL11.out, HRN7.out.later HL11.out⟩
            · have hsmm := hsm.out.many
              go_wp2_with fail
              refine (alive_any wr (HTB.out.later hwr.out)).mono ?_
              rintro e w20 ⟨rfl, hl20⟩
              have HL20 := Lib.hid hl20; clear hl20
              go_wp2_with fail
              refine (old_any p B tk w20 (htr.out.later HL20.out) hsm.out).mono ?_
              rintro e w21 ⟨v21, rfl, hr21, hl21⟩
              have HR21 := Lib.hid hr21; have HL21 := Lib.hid (HL20.out.trans hl21)
              clear hr21 hl21
              go_wp2_with fail
              refine (refSameAt_any v21 v tk tk w21 HR21.out (href.out.later HL21.out) (by omega) (by omega) hsm.out.lines hsm.out.lines).mono ?_
              rw [sameT_self]
              rintro e w22 ⟨rfl, hd22⟩
              have HL22 := Lib.hid ((hwr.out.trans HL21.out).trans hd22.later); clear hd22
              go_wp2
              go_ret
              exact ⟨rfl, HL22.out⟩
    · have hd : decide (0 < fw') = true := by simp; omega
      go_enter Tryd.func7, Tryd.ntmps7
      go_wp2_with fail
      refine HF.out.mono ?_
      rintro e w1 ⟨rfl, hl1⟩
      have HL1 := Lib.hid hl1; clear hl1
      go_wp2_with fail
      refine (HF'.out w1 HL1.out).mono ?_
      rintro e w2 ⟨rfl, hl2⟩
      have HL2 := Lib.hid ((HL1.out.alloc _).trans hl2); clear hl2
      go_wp2_with fail
      refine (alive_any w2 (HTB.out.later HL2.out)).mono ?_
      rintro e w20 ⟨rfl, hl20⟩
      have HL20 := Lib.hid (HL2.out.trans hl20); clear hl20
      go_wp2
      go_ret
      exact ⟨rfl, HL20.out⟩

  · have hd : decide (0 < fw) = true := by simp; omega
    go_enter Tryd.func7, Tryd.ntmps7
    go_wp2_with fail
    refine HF.out.mono ?_
    rintro e w1 ⟨rfl, hl1⟩
    have HL1 := Lib.hid hl1; clear hl1
    go_wp2_with fail
    refine (alive_any w1 (HTB.out.later HL1.out)).mono ?_
    rintro e w20 ⟨rfl, hl20⟩
    have HL20 := Lib.hid (HL1.out.trans hl20); clear hl20
    go_wp2
    go_ret
    exact ⟨rfl, HL20.out⟩

end Go.Proofs.YtbjbimahmbapdaaDoor
