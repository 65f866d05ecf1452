import Derived.Test.YtbhnbkcokhfopaaGreatPk16
import Derived.Test.YtbhnbkcokhfopaaGreatPk12
import Derived.Deep.LoopGhost
import Derived.Deep.QuietTactic
import Derived.BigQuiet
import Derived.Test.YtbhnbkcokhfopaaGreatPk18
import Derived.Test.YtbhnbkcokhfopaaGreatPk19
import Derived.Test.YtbhnbkcokhfopaaGreatPk26
import Derived.Test.YtbhnbkcokhfopaaGreatPk28
import Derived.Test.YtbhnbkcokhfopaaGreatPk17
import Derived.Lib.Hide

/-
  What the document's Same on trees comes to, as a call.
-/
namespace Go.Proofs.YtbhnbkcokhfopaaGreat
open Go.RowKit Go.Maps

theorem take_sameT {a b : Tr} {k : Nat} {f : ByteArray × List ByteArray} (ha : a[k]? = some f) (hb : b[k]? = some f) (h : a.take k = b.take k) : a.take (k + 1) = b.take (k + 1) := by
  obtain ⟨h1, e1⟩ := List.getElem?_eq_some_iff.1 ha
  obtain ⟨h2, e2⟩ := List.getElem?_eq_some_iff.1 hb
  rw [List.take_succ_eq_append_getElem h1, List.take_succ_eq_append_getElem h2, h, e1, e2]

set_option maxRecDepth 100000 in
set_option maxHeartbeats 800000 in
theorem refSameT_any (A : Option Addr) (n c : Nat) (z : Fl Held) (B : Option Addr) (m d : Nat) (y : Fl Held) (w : World) (hx : RefRow w A n z) (hy : RefRow w B m y) (hn : n ≤ 65536) (hm : m ≤ 65536) (hbz : ∀ f ∈ z, f.2.2.length ≤ 65536) (hby : ∀ f ∈ y, f.2.2.length ≤ 65536) :
    Calls Tryz.prog 16 #[.slice A n c, .slice B m d] w fun e w' => e = .returned (.bool (sameT (mapT (·.2) z) (mapT (·.2) y))) ∧ Drew w w' := by
  by_cases hnm : n = m
  · subst hnm
    have HX := Lib.hid hx; clear hx
    have HY := Lib.hid hy; clear hy
    have HBZ := Lib.hid hbz; clear hbz
    have HBY := Lib.hid hby; clear hby
    go_enter Tryz.func16, Tryz.ntmps16
    go_wp2
    go_loopg [5] (n + 1) (fun g s5 wr => ∃ k : Nat, k ≤ n ∧ n - k ≤ g ∧ s5 = .int .i64 k ∧ Drew w wr ∧ Hid ((mapT (·.2) z).take k = (mapT (·.2) y).take k))
    case atStart => exact ⟨0, Nat.zero_le _, by omega, rfl, Drew.refl w, by simp [Hid]⟩
    case round =>
      obtain ⟨k, hk, hg, rfl, hwr, heq⟩ := hrel
      have HW := Lib.hid hwr
      by_cases hlt : k < n
      · obtain ⟨b1, o1, f, rfl, hz, g1, g2⟩ := (HX.out.later hwr.later).get hlt
        obtain ⟨b2, o2, h, rfl, hy, g3, g4⟩ := (HY.out.later hwr.later).get hlt
        have hfz : (mapT (·.2) z)[k]? = some (f.1, f.2.2) := by simp [mapT, hz]
        have hfy : (mapT (·.2) y)[k]? = some (h.1, h.2.2) := by simp [mapT, hy]
        clear hwr
        by_cases hxy : f.1 = h.1
        · rw [← hxy] at g3
          obtain ⟨A1, n1, c1, hv1, hnc1, hr1⟩ := HX.out.reads f (List.mem_of_getElem? hz)
          obtain ⟨A2, n2, c2, hv2, hnc2, hr2⟩ := HY.out.reads h (List.mem_of_getElem? hy)
          rw [hv1] at g2
          rw [hv2] at g4
          have HS := Lib.hid (fun (w1 : World) (hw1 : Drew w w1) => refSame_any A1 A2 n1 c1 n2 c2 f.2.2 h.2.2 w1 (hr1.later hw1.later) (hr2.later hw1.later) (by rw [← hr1.len]; exact HBZ.out f (List.mem_of_getElem? hz)) (by rw [← hr2.len]; exact HBY.out h (List.mem_of_getElem? hy)))
          by_cases hl : f.2.2 = h.2.2
          · rw [sameB_yes hl] at HS
            have HE : Hid ((mapT (·.2) z).take (k + 1) = (mapT (·.2) y).take (k + 1)) := take_sameT hfz (by rw [hfy, hxy, hl]) heq.out
            generalize f.1 = fn at g1 g3
            clear hxy hl hz hy hfz hfy hv1 hv2 hr1 hr2 heq
            go_wp2_with fail
            go_quiet ((go_at_call 39; exact Calls.quiet_of (HS.out _ (HW.out.more _))))
            go_wp2
            go_roundg (n - (k + 1))
            case measure => omega
            case rel => exact ⟨k + 1, by omega, Nat.le_refl _, by go_num, HW.out.more _, HE.out⟩
          · rw [sameB_no hl] at HS
            have E : Hid (sameT (mapT (·.2) z) (mapT (·.2) y) = false) := sameT_no fun e => by
              rw [e, hfy] at hfz
              simp only [Option.some.injEq, Prod.mk.injEq] at hfz
              exact hl hfz.2.symm
            generalize f.1 = fn at g1 g3
            clear hxy hl hz hy hfz hfy hv1 hv2 hr1 hr2 heq
            go_wp2_with fail
            go_quiet ((go_at_call 39; exact Calls.quiet_of (HS.out _ (HW.out.more _))))
            go_wp2
            go_ret
            exact ⟨ret_bool E.out.symm, HW.out.more _⟩
        · have hb := text_ne hxy
          have E : Hid (sameT (mapT (·.2) z) (mapT (·.2) y) = false) := sameT_no fun e => by
            rw [e, hfy] at hfz
            simp only [Option.some.injEq, Prod.mk.injEq] at hfz
            exact hxy hfz.1.symm
          generalize f.1 = fn at g1 hb
          generalize h.1 = hn' at g3 hb
          clear hxy hz hy hfz hfy heq g2 g4
          go_wp2_with fail
          go_quiet (fail)
          go_wp2
          go_ret
          exact ⟨ret_bool E.out.symm, HW.out.more _⟩
      · have e : sameT (mapT (·.2) z) (mapT (·.2) y) = true := by
          have h1 := heq.out
          rw [List.take_of_length_le (by rw [mapT_length, HX.out.len]; omega), List.take_of_length_le (by rw [mapT_length, HY.out.len]; omega)] at h1
          rw [h1]; exact sameT_self _
        have E := Lib.hid e; clear e heq hwr
        go_wp2
        go_ret
        exact ⟨ret_bool E.out.symm, HW.out⟩
  · have E : Hid (sameT (mapT (·.2) z) (mapT (·.2) y) = false) := sameT_no fun e => hnm (by have := congrArg List.length e; rw [mapT_length, mapT_length, hx.len, hy.len] at this; exact this)
    have hd : ((n : Int) != (m : Int)) = true := by rw [bne_iff_ne]; omega
    have hnm' : ¬ (n : Int) = (m : Int) := by omega
    clear hx hy hbz hby hnm
    go_enter Tryz.func16, Tryz.ntmps16
    go_wp2
    go_ret
    exact ⟨ret_bool E.out.symm, Drew.refl w⟩

theorem refSameAt_any (v1 v2 : Value) (t1 t2 : Tr) (w : World) (h1 : RefAt w v1 t1) (h2 : RefAt w v2 t2) (hl1 : t1.length ≤ 65536) (hl2 : t2.length ≤ 65536) (hb1 : ∀ f ∈ t1, f.2.length ≤ 65536) (hb2 : ∀ f ∈ t2, f.2.length ≤ 65536) :
    Calls Tryz.prog 16 #[v1, v2] w fun e w' => e = .returned (.bool (sameT t1 t2)) ∧ Drew w w' := by
  obtain ⟨A, n, c, z, rfl, hc, hr, rfl⟩ := h1
  obtain ⟨B, m, d, y, rfl, hd, hs, rfl⟩ := h2
  rw [mapT_length, hr.len] at hl1
  rw [mapT_length, hs.len] at hl2
  exact refSameT_any A n c z B m d y w hr hs hl1 hl2 (fun f hf => hb1 (f.1, f.2.2) (by simp only [mapT, List.mem_map]; exact ⟨_, hf, rfl⟩)) (fun f hf => hb2 (f.1, f.2.2) (by simp only [mapT, List.mem_map]; exact ⟨_, hf, rfl⟩))

end Go.Proofs.YtbhnbkcokhfopaaGreat

/-
  What the statements' own Old comes to, as a call: a tree, as the document has it.
-/
namespace Go.Proofs.YtbhnbkcokhfopaaGreat
open Go.RowKit Go.Maps

/-- A row of files has grown: the rows of lines stand. -/
theorem Own.grown {w0 w w' : World} {u v : Value} {ss : List ByteArray} {css : List (List Value)} (h : Own 9 w0 w u ss) (hk : OwnK 62 2 w0 w v css) (hg : w.grownBy w' v.ownBlock) (hl : Later w0 w') : Own 9 w0 w' u ss := by
  refine ⟨h.1.kept hg ?_, hl⟩
  rcases h.1.2 with ⟨rfl, _⟩ | ⟨g, cap, cur, rfl, _, hh, _⟩
  · exact .inl rfl
  · right
    intro e
    rcases hk.1.2 with ⟨rfl, _⟩ | ⟨g', cap', cur', rfl, _, hh', _⟩
    · simp [Value.ownBlock] at e
    · simp only [Value.ownBlock, Option.some.injEq] at e
      subst e
      rw [hh] at hh'
      simp at hh'
theorem Own.reads {w0 w : World} {v : Value} {ss : List ByteArray} (h : Own 9 w0 w v ss) : Reads w v ss := by
  obtain ⟨A, c, hv, hc, hr⟩ := h.row
  exact ⟨A, _, c, hv, hc, hr⟩

/-- A tree of files, not too many, not too great. -/
structure Mid (t : Tr) : Prop where
  many : t.length ≤ 60000
  names : ∀ f ∈ t, f.1.size ≤ maxLen
  lines : ∀ f ∈ t, f.2.length ≤ 65536
theorem Small.mid {t : Tr} (h : Small t) : Mid t := ⟨Nat.le_trans h.many (by omega), h.names, h.lines⟩

set_option maxRecDepth 100000 in
set_option maxHeartbeats 800000 in
theorem oldM_any (p B : Nat) (t : Tr) (w : World) (ht : TreeAt w p B t) (hs : Mid t) :
    Calls Tryz.prog 17 #[.pointer (some ⟨p, 0, none⟩)] w fun e w' => ∃ v, e = .returned v ∧ RefAt w' v t ∧ Later w w' := by
  have hmany := hs.many
  have HN := Lib.hid (names_any p B t w ht (by omega))
  have HT := Lib.hid ht; have HS := Lib.hid hs
  obtain ⟨i0, hi, hz0, hz1, hz2⟩ := info_parts Tryz.fileInfo
  clear ht hs
  go_enter Tryz.func17, Tryz.ntmps17
  go_wp2_with fail
  refine HN.out.mono ?_
  rintro e w1 ⟨v1, rfl, hown1⟩
  obtain ⟨A1, c1, rfl, hcc1, hr1⟩ := hown1.row
  have hlen : (namesT t).length = t.length := by simp [namesT]
  rw [hlen] at hcc1 hr1 ⊢
  have HR1 := Lib.hid hr1; have HL1 := Lib.hid hown1.later
  clear hown1 hr1 hlen
  go_wp2
  go_loopg [3, 11] (t.length + 1) (fun g s3 s11 wr => ∃ (k : Nat) (v : Value) (z : Fl Held), k ≤ t.length ∧ t.length - k ≤ g ∧ s11 = .int .i64 k ∧ s3 = v ∧ z.length ≤ k ∧ Hid (mapT (·.2) z = t.take k) ∧ Hid (OwnK 62 2 w1 wr v (cellsF z)) ∧ Hid (∀ f ∈ z, Own 9 w1 wr f.2.1 f.2.2))
  case atStart => exact ⟨0, _, [], Nat.zero_le _, by omega, rfl, rfl, Nat.le_refl _, by simp [Hid, mapT], OwnK.nil (Later.refl w1), fun f hf => by cases hf⟩
  case round =>
    obtain ⟨k, v, z, hk, hg, rfl, hv, hzl, hzt, hown, hall⟩ := hrel
    obtain rfl := hv.symm
    clear hv
    by_cases hlt : k < t.length
    · have hf : t[k]? = some t[k] := List.getElem?_eq_getElem hlt
      generalize t[k] = f at hf
      have hmem := List.mem_of_getElem? hf
      obtain ⟨b1, o1, rfl, g1⟩ := (HR1.out.later hown.out.later).get hlt
      have hnm : (namesT t).getD k ByteArray.empty = f.1 := by simp [namesT, List.getD, hf]
      rw [hnm] at g1
      have hget : getT t f.1 = some f.2 := (getT_iff HT.out.files.rise).2 hmem
      have HG := Lib.hid (get_any p B f.1 t wr (HT.out.later (HL1.out.trans hown.out.later)) (HS.out.names f hmem) HS.out.lines)
      rw [hget] at HG
      have hnext : t.take (k + 1) = t.take k ++ [f] := by
        obtain ⟨hk', rfl⟩ := List.getElem?_eq_some_iff.1 hf
        exact List.take_succ_eq_append_getElem hk'
      have HNX := Lib.hid hnext
      have HF : Hid (f = (f.1, f.2)) := rfl
      generalize f.1 = fn at g1 HG HF
      generalize f.2 = fl at HG HF
      clear hf hmem hnm hget hnext
      go_wp2_with fail
      refine HG.out.mono ?_
      rintro e w2 ⟨v2, rfl, hown2⟩
      obtain ⟨A2, c2, hv2, hcc2, hr2⟩ := hown2.row
      subst hv2
      have hb2 := hown2.base hown.out.later
      have HB2 := Lib.hid hb2
      have HL2 := Lib.hid hown2.later
      have hown' := hown.out.on hown2.later
      have HOW := Lib.hid hown'
      clear hown2 hr2 hb2 hown'
      simp only [Option.getD_some, Option.isSome_some] at HB2 hcc2 ⊢
      go_wp2_with (at_builtin; refine wpList_append_rowK rfl _ _ 27 rfl i0 _ 40 Tryz.underlying27 hi hz0 hz1 hz2 rfl (by decide) (HOW.out.alloc _) rfl _ _ _ _ rfl (RowK.two _ _ _ _) (file_one _ _ _ _) (by rw [cellsF_length]; omega) (by omega) ?_; intro v4 w4 hown4 hg4; have HO4 := Lib.hid hown4; have HG4 := Lib.hid hg4; clear hown4 hg4)
      go_roundg (t.length - (k + 1))
      case measure => omega
      case rel =>
        refine ⟨k + 1, v4, z ++ [(fn, (.slice A2 fl.length c2, fl))], by omega, Nat.le_refl _, by go_num, rfl, by simp; omega, ?_, ?_, ?_⟩
        · show _ = _
          rw [HNX.out, ← hzt.out, HF.out]; simp [mapT]
        · have := HO4.out
          simpa [cellsF, Hid] using this
        · intro f hf
          rcases List.mem_append.1 hf with hf | hf
          · exact (((hall.out f hf).on HL2.out).alloc _).grown (HOW.out.alloc _) HG4.out HO4.out.later
          · simp at hf; subst hf
            exact (HB2.out.alloc _).grown (HOW.out.alloc _) HG4.out HO4.out.later
    · have e : t.take k = t := List.take_of_length_le (by omega)
      rw [e] at hzt
      clear e
      go_wp2
      go_ret
      obtain ⟨A9, n9, c9, h1, h2, h3, h4⟩ := gives_own hown.out fun f hf => (hall.out f hf).reads
      exact ⟨_, h1, ⟨A9, n9, c9, z, rfl, h2, h3, hzt.out⟩, HL1.out.trans h4⟩

theorem old_any (p B : Nat) (t : Tr) (w : World) (ht : TreeAt w p B t) (hs : Small t) :
    Calls Tryz.prog 17 #[.pointer (some ⟨p, 0, none⟩)] w fun e w' => ∃ v, e = .returned v ∧ RefAt w' v t ∧ Later w w' := oldM_any p B t w ht hs.mid

end Go.Proofs.YtbhnbkcokhfopaaGreat

/-
  What the law DiffTrees comes to, as a call.
-/
namespace Go.Proofs.YtbhnbkcokhfopaaGreat
open Go.RowKit Go.Maps

set_option maxRecDepth 100000 in
set_option maxHeartbeats 6400000 in
theorem diffTrees_walk (A : Option Addr) (n c : Nat) (os : List OpC) (A2 : Option Addr) (n2 c2 : Nat) (os2 : List OpC) (w : World) (hs : CameS w A n os) (hs2 : CameS w A2 n2 os2) :
    Calls Tryz.prog 3 #[.slice A n c, .slice A2 n2 c2] w (Says true w) := by
  have HF1 := Lib.hid (few_any A n c os w hs.script hs.many hs.weigh)
  have hbd1 : fewN n (weightL os) ≤ 4000000 := by have h1 := hs.many; have h2 := hs.weigh; unfold fewN; split <;> omega
  have hz1 := @few_zero n (weightL os)
  generalize fewN n (weightL os) = fw1 at HF1 hbd1 hz1
  have HF2 := Lib.hid (fun w' (h : Later w w') => few_any A2 n2 c2 os2 w' (hs2.script.later h) hs2.many hs2.weigh)
  have hbd2 : fewN n2 (weightL os2) ≤ 4000000 := by have h1 := hs2.many; have h2 := hs2.weigh; unfold fewN; split <;> omega
  have hz2 := @few_zero n2 (weightL os2)
  generalize fewN n2 (weightL os2) = fw2 at HF2 hbd2 hz2
  have HS := Lib.hid hs; have HS2 := Lib.hid hs2
  clear hs hs2
  by_cases h0 : fw1 = 0
  case neg =>
    have hpos : (0 : Int) < fw1 := by omega
    have hd : decide ((0 : Int) < fw1) = true := by simp; omega
    clear hz1 hz2
    go_enter Tryz.func3, Tryz.ntmps3
    go_wp2_with fail
    refine HF1.out.mono ?_
    rintro e m1 ⟨rfl, hl⟩
    have L0 := Lib.hid hl
    clear hl HF1
    have HC := Lib.hid (alive6_any m1)
    go_wp2_with fail
    refine HC.out.mono ?_
    rintro e m2 ⟨rfl, hl⟩
    replace L0 := Lib.hid (L0.out.trans hl)
    clear hl HC
    go_wp2
    go_ret
    exact ⟨rfl, L0.out⟩

  obtain ⟨hn1, hW1⟩ := hz1.1 h0
  subst h0
  by_cases h0 : fw2 = 0
  case neg =>
    have hpos : (0 : Int) < fw2 := by omega
    have hd : decide ((0 : Int) < fw2) = true := by simp; omega
    clear hz1 hz2
    go_enter Tryz.func3, Tryz.ntmps3
    go_wp2_with fail
    refine HF1.out.mono ?_
    rintro e m1 ⟨rfl, hl⟩
    have L0 := Lib.hid hl
    clear hl HF1
    go_wp2_with fail
    refine (HF2.out m1 L0.out).mono ?_
    rintro e m2 ⟨rfl, hl⟩
    replace L0 := Lib.hid (L0.out.trans hl)
    clear hl HF2
    have HC := Lib.hid (alive6_any m2)
    go_wp2_with fail
    refine HC.out.mono ?_
    rintro e m3 ⟨rfl, hl⟩
    replace L0 := Lib.hid (L0.out.trans hl)
    clear hl HC
    go_wp2
    go_ret
    exact ⟨rfl, L0.out⟩

  obtain ⟨hn2, hW2⟩ := hz2.1 h0
  subst h0
  clear hz1 hz2
  go_enter Tryz.func3, Tryz.ntmps3
  go_wp2_with fail
  refine HF1.out.mono ?_
  rintro e m1 ⟨rfl, hl⟩
  have L0 := Lib.hid hl
  clear hl HF1
  go_wp2_with fail
  refine (HF2.out m1 L0.out).mono ?_
  rintro e m2 ⟨rfl, hl⟩
  replace L0 := Lib.hid (L0.out.trans hl)
  clear hl HF2
  have HC := Lib.hid (made_any A n c os m2 (HS.out.script.later L0.out) hn1 hW1)
  have HFIT1 := Lib.hid (made_fits HS.out.script hW1).sizedS
  generalize madeT os = t1 at HC HFIT1
  go_wp2_with fail
  refine HC.out.mono ?_
  rintro e m3 ⟨p, B, v1, rfl, ht, hr, -, hB, hl⟩
  have HB : Hid (w.heap.size ≤ B) := Nat.le_trans L0.out.le hB
  clear hB
  have T1 := Lib.hid ht; have R1 := Lib.hid hr
  replace L0 := Lib.hid (L0.out.trans hl)
  clear ht hr hl HC
  have HC := Lib.hid (made_any A2 n2 c2 os2 m3 (HS2.out.script.later L0.out) hn2 hW2)
  have HFIT2 := Lib.hid (made_fits HS2.out.script hW2).sizedS
  generalize madeT os2 = t2 at HC HFIT2
  go_wp2_with fail
  refine HC.out.mono ?_
  rintro e m4 ⟨q, D, v2, rfl, ht, hr, -, hD, hl⟩
  have HBD : Hid (D ≠ B) := by have := T1.out.files.lt; intro e; omega
  clear hD
  have T2 := Lib.hid ht; have R2 := Lib.hid hr
  replace L0 := Lib.hid (L0.out.trans hl)
  replace T1 := Lib.hid (T1.out.later hl); replace R1 := Lib.hid (R1.out.later hl)
  clear ht hr hl HC
  have HC := Lib.hid (long6_any v1 t1 m4 R1.out (by have := HFIT1.out.many; omega) (HFIT1.out.lines (by omega)))
  go_wp2_with fail
  refine HC.out.mono ?_
  rintro e m5 ⟨q1, rfl, hq1, hq1b, hl⟩
  replace L0 := Lib.hid (L0.out.trans hl); replace T1 := Lib.hid (T1.out.later hl); replace T2 := Lib.hid (T2.out.later hl); replace R2 := Lib.hid (R2.out.later hl)
  replace R1 := Lib.hid (R1.out.later hl)
  clear hl HC
  by_cases h1 : q1 ≤ 200
  case neg =>
    have hd : decide ((200 : Int) < q1) = true := by simp; omega
    clear hq1
    have HC := Lib.hid (alive6_any m5)
    go_wp2_with fail
    refine HC.out.mono ?_
    rintro e m6 ⟨rfl, hl⟩
    replace L0 := Lib.hid (L0.out.trans hl)
    clear hl HC
    go_wp2
    go_ret
    exact ⟨rfl, L0.out⟩

  have hd : decide ((200 : Int) < q1) = false := by simp; omega
  have LA := Lib.hid (hq1.1 h1)
  clear hq1
  have HC := Lib.hid (long6_any v2 t2 m5 R2.out (by have := HFIT2.out.many; omega) (HFIT2.out.lines (by omega)))
  go_wp2_with fail
  refine HC.out.mono ?_
  rintro e m6 ⟨q2, rfl, hq2, hq2b, hl⟩
  replace L0 := Lib.hid (L0.out.trans hl); replace T1 := Lib.hid (T1.out.later hl); replace T2 := Lib.hid (T2.out.later hl)
  replace R1 := Lib.hid (R1.out.later hl); replace R2 := Lib.hid (R2.out.later hl)
  clear hl HC
  by_cases h2 : q2 ≤ 200
  case neg =>
    have hd2 : decide ((200 : Int) < q2) = true := by simp; omega
    clear hq2
    have HC := Lib.hid (alive6_any m6)
    go_wp2_with fail
    refine HC.out.mono ?_
    rintro e m7 ⟨rfl, hl⟩
    replace L0 := Lib.hid (L0.out.trans hl)
    clear hl HC
    go_wp2
    go_ret
    exact ⟨rfl, L0.out⟩

  have hd2 : decide ((200 : Int) < q2) = false := by simp; omega
  have LB := Lib.hid (hq2.1 h2)
  clear hq2
  have hN1 : t1.length ≤ 80 := by have := HFIT1.out.many; omega
  have hN2 : t2.length ≤ 80 := by have := HFIT2.out.many; omega
  have M1 := Lib.hid (HFIT1.out.mild); have M2 := Lib.hid (HFIT2.out.mild)
  have S1 : Hid (Sized 80 200 t1) := ⟨hN1, fun f hf => ⟨(HFIT1.out.each f hf).1, (HFIT1.out.each f hf).2.1, long_no LA.out hf⟩⟩
  have S2 : Hid (Sized 80 200 t2) := ⟨hN2, fun f hf => ⟨(HFIT2.out.each f hf).1, (HFIT2.out.each f hf).2.1, long_no LB.out hf⟩⟩
  have F1 := Lib.hid (S1.out.lines (by decide)); have F2 := Lib.hid (S2.out.lines (by decide))
  have ERUN := Lib.hid (trees_run T1.out.files.rise T2.out.files.rise S1.out S2.out LA.out LB.out)
  have EBACK := Lib.hid (runS_back T1.out.files.rise ERUN.out)
  have ESELF := Lib.hid (trees_self T1.out.files.rise)
  have ELEN := Lib.hid (trees_length LA.out LB.out hN1 hN2)
  have ELIN := Lib.hid (trees_lines T1.out.files.rise T2.out.files.rise LA.out LB.out hN1 hN2)
  have RISE2 := Lib.hid T2.out.files.rise
  have HC := Lib.hid (trees_any (.pointer (some ⟨p, 0, none⟩)) (.pointer (some ⟨q, 0, none⟩)) t1 t2 m6 (.inr ⟨p, B, rfl, T1.out⟩) (.inr ⟨q, D, rfl, T2.out⟩) hN1 hN2 M1.out M2.out LA.out LB.out)
  generalize hl0 : treesP t1 t2 = ll at HC ERUN EBACK ELEN ELIN
  go_wp2_with fail
  refine HC.out.mono ?_
  rintro e m7 ⟨v5, xs5, rfl, ho, hv⟩
  obtain ⟨A5, c5, hs, hc5, hp⟩ := ho.row
  have hxl : xs5.length ≤ 48480 := by have := congrArg List.length hv; rw [valsP_length] at this; rw [this]; exact ELEN.out
  subst hs
  replace L0 := Lib.hid (L0.out.trans ho.later); replace T1 := Lib.hid (T1.out.later ho.later); replace T2 := Lib.hid (T2.out.later ho.later); replace R1 := Lib.hid (R1.out.later ho.later); replace R2 := Lib.hid (R2.out.later ho.later)
  have P5 := Lib.hid hp; have V5 := Lib.hid hv
  clear ho hv hp HC
  have HC := Lib.hid (lawOld_any A5 _ c5 xs5 m7 P5.out (by omega))
  rw [V5.out] at HC
  go_wp2_with fail
  refine HC.out.mono ?_
  rintro e m8 ⟨v6, xs6, rfl, ho, hv⟩
  obtain ⟨A6, c6, hs, -, hp⟩ := ho.row
  have hxl6 : xs6.length ≤ 48480 := by have := congrArg List.length hv; rw [valsP_length] at this; rw [this]; exact ELEN.out
  subst hs
  replace L0 := Lib.hid (L0.out.trans ho.later); replace T1 := Lib.hid (T1.out.later ho.later); replace T2 := Lib.hid (T2.out.later ho.later); replace R1 := Lib.hid (R1.out.later ho.later); replace R2 := Lib.hid (R2.out.later ho.later); replace P5 := Lib.hid (P5.out.later ho.later)
  have P6 := Lib.hid hp; have V6 := Lib.hid hv
  clear ho hv hp HC
  have HC := Lib.hid (refTrees_any v1 v2 t1 t2 m8 R1.out R2.out hN1 hN2 RISE2.out M1.out M2.out LA.out LB.out)
  rw [hl0] at HC
  go_wp2_with fail
  refine HC.out.mono ?_
  rintro e m9 ⟨v7, xs7, rfl, ho, hv⟩
  obtain ⟨A7, c7, hs, -, hp⟩ := ho.row
  have hxl7 : xs7.length ≤ 48480 := by have := congrArg List.length hv; rw [valsP_length] at this; rw [this]; exact ELEN.out
  subst hs
  replace L0 := Lib.hid (L0.out.trans ho.later); replace T1 := Lib.hid (T1.out.later ho.later); replace T2 := Lib.hid (T2.out.later ho.later); replace R1 := Lib.hid (R1.out.later ho.later); replace P5 := Lib.hid (P5.out.later ho.later); replace P6 := Lib.hid (P6.out.later ho.later)
  have HC := Lib.hid (refAllP_any A6 A7 _ c6 _ c7 xs6 xs7 m9 P6.out hp (by omega) (by omega))
  rw [V6.out, hv, sameS_self] at HC
  clear ho hv hp R2 P6 V6
  go_wp2_with fail
  refine HC.out.mono ?_
  rintro e m10 ⟨rfl, hl⟩
  replace L0 := Lib.hid (L0.out.trans hl); replace T1 := Lib.hid (T1.out.later hl); replace T2 := Lib.hid (T2.out.later hl); replace R1 := Lib.hid (R1.out.later hl); replace P5 := Lib.hid (P5.out.later hl)
  clear hl HC
  have HC := Lib.hid (copy_any p B t1 m10 T1.out (by omega) F1.out)
  go_wp2_with fail
  refine HC.out.mono ?_
  rintro e m11 ⟨p3, B3, rfl, ht3, -, -, hl⟩
  replace L0 := Lib.hid (L0.out.trans hl); replace T1 := Lib.hid (T1.out.later hl); replace T2 := Lib.hid (T2.out.later hl); replace R1 := Lib.hid (R1.out.later hl); replace P5 := Lib.hid (P5.out.later hl)
  have T3 := Lib.hid ht3
  clear hl HC ht3
  have HC := Lib.hid (trees_any (.pointer (some ⟨p, 0, none⟩)) (.pointer (some ⟨p3, 0, none⟩)) t1 t1 m11 (.inr ⟨p, B, rfl, T1.out⟩) (.inr ⟨p3, B3, rfl, T3.out⟩) hN1 hN1 M1.out M1.out LA.out LA.out)
  rw [ESELF.out] at HC
  go_wp2_with fail
  refine HC.out.mono ?_
  rintro e m12 ⟨v8, xs8, rfl, ho, hv⟩
  obtain ⟨A8, c8, hs, -, -⟩ := ho.row
  have hx8 : xs8.length = 0 := by have := congrArg List.length hv; rw [valsP_length] at this; rw [this]; rfl
  rw [hx8] at hs
  subst hs
  replace L0 := Lib.hid (L0.out.trans ho.later); replace T1 := Lib.hid (T1.out.later ho.later); replace T2 := Lib.hid (T2.out.later ho.later); replace R1 := Lib.hid (R1.out.later ho.later); replace P5 := Lib.hid (P5.out.later ho.later)
  clear ho hv hx8 HC T3
  have HC := Lib.hid (seqApply_any p B 80 200 t1 A5 _ c5 xs5 m12 T1.out P5.out S1.out hc5 (by omega) (by rw [V5.out]; have := ELIN.out; omega))
  rw [V5.out, applyS_ok.2 ERUN.out] at HC
  go_wp2_with fail
  refine HC.out.mono ?_
  rintro e m13 ⟨rfl, ht, hg⟩
  obtain ⟨es, em, hm⟩ := T1.out.files.map
  replace T2 := Lib.hid (T2.out.other hg HBD.out hm); replace R1 := Lib.hid (R1.out.turned hg hm)
  replace P5 : Hid (PsOk m13 A5 xs5.length xs5) := ⟨P5.out.row.turned hg hm, fun x hx => (P5.out.each x hx).turnS hg hm⟩
  replace L0 := Lib.hid (L0.out.turn hg HB.out)
  replace T1 := Lib.hid ht
  clear ht hg hm HC
  have HC := Lib.hid (sameTree_any p B q D t2 t2 m13 T1.out T2.out F2.out F2.out)
  rw [sameT_self] at HC
  go_wp2_with fail
  refine HC.out.mono ?_
  rintro e m14 ⟨rfl, hl⟩
  replace L0 := Lib.hid (L0.out.trans hl); replace T1 := Lib.hid (T1.out.later hl); replace R1 := Lib.hid (R1.out.later hl); replace P5 := Lib.hid (P5.out.later hl)
  clear hl HC T2
  have HC := Lib.hid (seqInvert_any A5 _ c5 xs5 m14 P5.out (by omega))
  rw [V5.out] at HC
  go_wp2_with fail
  refine HC.out.mono ?_
  rintro e m15 ⟨v9, xs9, rfl, ho, hv, -⟩
  obtain ⟨A9, c9, hs, hc9, hp⟩ := ho.row
  have hxl9 : xs9.length ≤ 48480 := by have := congrArg List.length hv; rw [valsP_length, invertS_length] at this; rw [this]; exact ELEN.out
  subst hs
  replace L0 := Lib.hid (L0.out.trans ho.later); replace T1 := Lib.hid (T1.out.later ho.later); replace R1 := Lib.hid (R1.out.later ho.later)
  have HC := Lib.hid (seqApply_any p B 80 200 t2 A9 _ c9 xs9 m15 T1.out hp S2.out hc9 (by omega) (by rw [hv, linesS_invert]; have := ELIN.out; omega))
  rw [hv, applyS_ok.2 EBACK.out] at HC
  clear ho hv hp P5 V5
  go_wp2_with fail
  refine HC.out.mono ?_
  rintro e m16 ⟨rfl, ht, hg⟩
  obtain ⟨es, em, hm⟩ := T1.out.files.map
  replace R1 := Lib.hid (R1.out.turned hg hm)
  replace L0 := Lib.hid (L0.out.turn hg HB.out)
  replace T1 := Lib.hid ht
  clear ht hg hm HC
  have HC := Lib.hid (alive6_any m16)
  go_wp2_with fail
  refine HC.out.mono ?_
  rintro e m17 ⟨rfl, hl⟩
  replace L0 := Lib.hid (L0.out.trans hl); replace T1 := Lib.hid (T1.out.later hl); replace R1 := Lib.hid (R1.out.later hl)
  clear hl HC
  have HC := Lib.hid (oldM_any p B t1 m17 T1.out ⟨by omega, fun f hf => (M1.out f hf).1, F1.out⟩)
  go_wp2_with fail
  refine HC.out.mono ?_
  rintro e m18 ⟨v10, rfl, hr, hl⟩
  replace L0 := Lib.hid (L0.out.trans hl); replace R1 := Lib.hid (R1.out.later hl)
  have HC := Lib.hid (refSameAt_any v10 v1 t1 t1 m18 hr R1.out (by omega) (by omega) F1.out F1.out)
  rw [sameT_self] at HC
  clear hr hl
  go_wp2_with fail
  refine HC.out.mono ?_
  rintro e m19 ⟨rfl, hl⟩
  replace L0 := Lib.hid (L0.out.trans hl.later)
  clear hl HC
  go_wp2
  go_ret
  exact ⟨rfl, L0.out⟩

end Go.Proofs.YtbhnbkcokhfopaaGreat
