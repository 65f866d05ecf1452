import Derived.Test.YtbhnbkcokhfopaaGreatPk4
import Derived.Deep.RegionHeld3
import Derived.Test.YtbhnbkcokhfopaaGreatPk1

/-
  What tree's Move, Put and Get come to, as calls.
-/
namespace Go.Proofs.YtbhnbkcokhfopaaGreat
open Go.RowKit Go.Maps

set_option maxHeartbeats 400000 in
theorem move_any (p B : Nat) (nm to : ByteArray) (t : Tr) (w : World) (ht : TreeAt w p B t) (hs : nm.size ≤ maxLen) (hs2 : to.size ≤ maxLen) (hl : t.length ≤ 65536) :
    Calls Tryz.prog 50 #[.pointer (some ⟨p, 0, none⟩), .string nm, .string to] w (Does (moveT t nm to) p B w) := by
  have HT := Lib.hid ht
  have hn := named_any to w hs2
  have hh := has_any p B to t w ht hs2
  obtain ⟨hc, z, hz, rfl⟩ := ht
  cases hg : getT z nm with
  | none =>
    have E : Hid (moveT (mapT (·.2) z) nm to = (mapT (·.2) z, 20)) := by simp [Hid, moveT, getT_map, hg]
    rw [E.out]
    have hl := hz.look_no hs hg
    clear hz hg E hn hh
    go_enter Tryz.func50, Tryz.ntmps50
    go_wp2
    go_ret
    exact Does.same HT.out
  | some x =>
    have hlk := hz.look_yes hs hg
    obtain ⟨A, n, c, hv, hnc, hr⟩ := hz.get hg
    rw [hv] at hlk
    cases h1 : namedB to
    · rw [h1] at hn
      have E : Hid (moveT (mapT (·.2) z) nm to = (mapT (·.2) z, 20)) := by simp [Hid, moveT, getT_map, hg, h1]
      rw [E.out]
      have HN := Lib.hid hn
      clear hz hg E hn hh h1 hr hv
      go_enter Tryz.func50, Tryz.ntmps50
      go_wp2_with (go_at_call 43; refine HN.out.mono ?_; rintro e w' ⟨rfl, rfl⟩)
      go_ret
      exact Does.same HT.out
    · rw [h1] at hn
      cases h2 : hasT (mapT (·.2) z) to
      · rw [h2] at hh
        have E : Hid (moveT (mapT (·.2) z) nm to = (withT (withoutT (mapT (·.2) z) nm) to x.2, 0)) := by simp [Hid, moveT, getT_map, hg, h1, h2]
        rw [E.out]
        have HN := Lib.hid hn; have HH := Lib.hid hh; have HZ := Lib.hid hz
        have hrd : Reads w (.slice A n c) x.2 := ⟨A, n, c, rfl, hnc, hr⟩
        have HR := Lib.hid hrd
        have hzl : (withoutT z nm).length < maxLen := by
          have := without_length z nm
          rw [mapT_length] at hl; simp only [maxLen]; omega
        clear hz hg E hn hh h1 h2 hr hv hrd hl
        go_enter Tryz.func50, Tryz.ntmps50
        go_wp2_with (first
          | (go_at_call 43; refine HN.out.mono ?_; rintro e w' ⟨rfl, rfl⟩)
          | (go_at_call 44; refine HH.out.mono ?_; rintro e w' ⟨rfl, rfl⟩)
          | (at_delete; refine wpList_delete_own _ rfl _ _ 73 9 rfl 45 keyed9 Tryz.underlying73 raw B z.length _ rfl HZ.out.own _ _ rfl (key9 hs) ?_; intro w1 hown1 hturn1; have HO := Lib.hid (HZ.out.del hown1 hturn1); have HU := Lib.hid (Turned.of_map hturn1); have hc1 := HU.out.cell hc HT.out.ne; obtain ⟨mes, mcl, hmm⟩ := HZ.out.map; have HRR := Lib.hid (HR.out.turned HU.out hmm); clear hown1 hturn1 hmm)
          | (at_mapUpdate; refine wpList_mapUpdate_in _ rfl _ _ _ 73 rfl 9 45 keyed9 Tryz.underlying73 raw B (withoutT z nm).length _ rfl HO.out.own hzl _ _ _ rfl rfl (key9 hs2) _ [] (raw_mk A n c) ?_; intro w2 hown2 hturn2; have HO2 := Lib.hid hown2; have HU2 := Lib.hid hturn2; clear hown2 hturn2))
        go_ret
        have hg := Turned.of_map HU2.out
        refine ⟨rfl, (HT.out.to HU.out ⟨_, HO.out, (withoutT_map (fun x : Held => x.2) z nm).symm⟩).to hg ⟨_, HO.out.put HO2.out HU2.out HRR.out, ?_⟩, HU.out.trans hg⟩
        rw [withoutT_map, withT_map (fun x : Held => x.2) (withoutT z nm) to (.slice A n c, x.2)]
      · rw [h2] at hh
        have E : Hid (moveT (mapT (·.2) z) nm to = (mapT (·.2) z, 21)) := by simp [Hid, moveT, getT_map, hg, h1, h2]
        rw [E.out]
        have HN := Lib.hid hn; have HH := Lib.hid hh
        clear hz hg E hn hh h1 h2 hr hv
        go_enter Tryz.func50, Tryz.ntmps50
        go_wp2_with (first
          | (go_at_call 43; refine HN.out.mono ?_; rintro e w' ⟨rfl, rfl⟩)
          | (go_at_call 44; refine HH.out.mono ?_; rintro e w' ⟨rfl, rfl⟩))
        go_ret
        exact Does.same HT.out

set_option maxRecDepth 100000 in
set_option maxHeartbeats 800000 in
theorem put_any (p B : Nat) (nm : ByteArray) (A : Option Addr) (n c : Nat) (l : List ByteArray) (t : Tr) (w : World) (ht : TreeAt w p B t) (hx : Row w A n l) (hs : nm.size ≤ maxLen) (hl : t.length ≤ 65536) (hn : n ≤ 65536) (hb : ∀ s ∈ l, s.size ≤ maxLen) :
    Calls Tryz.prog 51 #[.pointer (some ⟨p, 0, none⟩), .string nm, .slice A n c] w (Does (putT t nm l) p B w) := by
  have HT := Lib.hid ht
  have hh := has_any p B nm t w ht hs
  have ha := all_any A n c l w hx hn hb
  cases h1 : hasT t nm
  · rw [h1] at hh
    have E : Hid (putT t nm l = (t, 20)) := by simp [Hid, putT, h1]
    rw [E.out]
    have HH := Lib.hid hh
    clear hh ha h1 E ht hx hb
    go_enter Tryz.func51, Tryz.ntmps51
    go_wp2_with (go_at_call 44; refine HH.out.mono ?_; rintro e w' ⟨rfl, rfl⟩)
    go_ret
    exact Does.same HT.out
  · rw [h1] at hh
    cases h2 : allB l
    · rw [h2] at ha
      have E : Hid (putT t nm l = (t, 1)) := by simp [Hid, putT, h1, h2]
      rw [E.out]
      have HH := Lib.hid hh; have HA := Lib.hid ha
      clear hh ha h1 h2 E ht hx hb
      go_enter Tryz.func51, Tryz.ntmps51
      go_wp2_with (first
        | (go_at_call 44; refine HH.out.mono ?_; rintro e w' ⟨rfl, rfl⟩)
        | (go_at_call 64; refine HA.out.mono ?_; rintro e w' ⟨rfl, rfl⟩))
      go_ret
      exact Does.same HT.out
    · rw [h2] at ha
      have E : Hid (putT t nm l = (withT t nm l, 0)) := by simp [Hid, putT, h1, h2]
      rw [E.out]
      have HH := Lib.hid hh; have HA := Lib.hid ha; have HX := Lib.hid hx
      obtain ⟨hc, z, hz, rfl⟩ := ht
      have HZ := Lib.hid hz
      have hzl : Hid (z.length < maxLen) := by rw [mapT_length] at hl; simp only [Hid, maxLen]; omega
      have HS := Lib.hid hs
      clear hs hh ha h1 h2 E hx hb hl hz
      go_enter Tryz.func51, Tryz.ntmps51
      go_wp2_with (first
        | (go_at_call 44; refine HH.out.mono ?_; rintro e w' ⟨rfl, rfl⟩)
        | (go_at_call 64; refine HA.out.mono ?_; rintro e w' ⟨rfl, rfl⟩))
      go_region_held3 (fun w' => w'.cell? ⟨p, 0, none⟩ = some (.map (some B))) (go_keep)
        (first
          | (go_at_call 33; refine (clone_any A n c l _ (HX.out.later (by first | exact Later.refl _ | exact (Later.refl _).drew | exact (Later.refl _).drewN _)) hn).mono ?_; rintro e w1 ⟨v1, rfl, hown⟩; have HL : Hid (Later w w1) := Later.trans (by first | exact Later.refl _ | exact (Later.refl _).drew | exact (Later.refl _).drewN _) hown.later; have hc1 := HL.out.cell hc; obtain ⟨A1, c1, rfl, hcc, hr1⟩ := hown.row; have HR := Lib.hid hr1; obtain ⟨w2, hrun2, hown2, hturn2⟩ := (HZ.out.later HL.out).own.store keyed9 Tryz.underlying73 hzl.out (key9 HS.out) (raw_mk A1 l.length c1); have HO2 := Lib.hid hown2; have HU2 := Lib.hid hturn2; have hc2 := (Turned.of_map hturn2).cell hc1 HT.out.ne; clear hown hr1 hown2 hturn2))
      go_wp2
      go_ret
      have hg := Turned.of_map HU2.out
      exact ⟨rfl, (HT.out.later HL.out).to hg ⟨_, (HZ.out.later HL.out).put HO2.out HU2.out ⟨A1, _, c1, rfl, hcc, HR.out⟩, (withT_map (fun x : Held => x.2) z nm (_, l)).symm⟩, (HL.out.turned B).trans hg⟩

/-- A row of the call's own, and a flag. -/
def Gets (o : Option (List ByteArray)) (w : World) (e : Ending) (w' : World) : Prop := ∃ v, e = .returned (.tuple #[v, .bool o.isSome]) ∧ Own 9 w w' v (o.getD [])

set_option maxHeartbeats 400000 in
theorem get_any (p B : Nat) (nm : ByteArray) (t : Tr) (w : World) (ht : TreeAt w p B t) (hs : nm.size ≤ maxLen) (hl : ∀ f ∈ t, f.2.length ≤ 65536) :
    Calls Tryz.prog 28 #[.pointer (some ⟨p, 0, none⟩), .string nm] w (Gets (getT t nm) w) := by
  obtain ⟨hc, z, hz, rfl⟩ := ht
  rw [getT_map]
  cases hg : getT z nm with
  | none =>
    have hlk := hz.look_no hs hg
    have HC := Lib.hid (clone_any none 0 0 [] w Row.none (by omega))
    clear hz hg
    go_enter Tryz.func28, Tryz.ntmps28
    go_wp2_with (go_at_call 33; refine HC.out.mono ?_; rintro e w1 ⟨v1, rfl, hown⟩; have HO := Lib.hid hown; clear hown)
    go_ret2
    exact ⟨v1, rfl, HO.out⟩
  | some x =>
    have hlk := hz.look_yes hs hg
    obtain ⟨A, n, c, hv, hnc, hr⟩ := hz.get hg
    have hlen : n ≤ 65536 := by
      have := hl (nm, x.2) (by simp only [mapT, List.mem_map]; exact ⟨_, getT_mem hg, rfl⟩)
      rw [← hr.len]; exact this
    rw [hv] at hlk
    have HC := Lib.hid (clone_any A n c x.2 w hr hlen)
    clear hz hg hr hl hv
    go_enter Tryz.func28, Tryz.ntmps28
    go_wp2_with (go_at_call 33; refine HC.out.mono ?_; rintro e w1 ⟨v1, rfl, hown⟩; have HO := Lib.hid hown; clear hown)
    go_ret2
    exact ⟨v1, rfl, HO.out⟩

end Go.Proofs.YtbhnbkcokhfopaaGreat

/-
  The calls that are handed in, in memory: a row of calls, each a kind, two names and a row of lines.
-/
namespace Go.Proofs.YtbhnbkcokhfopaaGreat
open Go.RowKit Go.Maps

/-- A call, and where its lines stand. -/
structure OpC where
  v : OpV
  A : Option Addr
  n : Nat
  c : Nat

def opCells (o : OpC) : List Value := [.int .i64 o.v.kind, .string o.v.name, .string o.v.to, .slice o.A o.n o.c]

/-- What a call weighs. -/
def weight (o : OpV) : Nat := o.name.size + o.to.size + o.l.length + (o.l.map ByteArray.size).sum
def weightL (os : List OpC) : Nat := (os.map fun o => weight o.v).sum

/-- The slice reads as these calls. -/
structure Script (w : World) (A : Option Addr) (n : Nat) (os : List OpC) : Prop where
  row : RowK 4 w A n (os.map opCells)
  lines : ∀ o ∈ os, Row w o.A o.n o.v.l ∧ o.n ≤ o.c

section
variable {w w' : World} {A : Option Addr} {n : Nat} {os : List OpC}
theorem Script.len (h : Script w A n os) : os.length = n := by have := h.row.len; simpa using this
theorem Script.later (h : Script w A n os) (hl : Later w w') : Script w' A n os := ⟨h.row.later hl, fun o ho => ⟨(h.lines o ho).1.later hl, (h.lines o ho).2⟩⟩
theorem Script.get (h : Script w A n os) {j : Nat} (hj : j < n) : ∃ b o x, A = some ⟨b, o, .none⟩ ∧ os[j]? = some x ∧ w.cell? ⟨b, o + j * 4, .none⟩ = some (.int .i64 x.v.kind) ∧ w.cell? ⟨b, o + j * 4 + 1, .none⟩ = some (.string x.v.name) ∧ w.cell? ⟨b, o + j * 4 + 2, .none⟩ = some (.string x.v.to) ∧ w.cell? ⟨b, o + j * 4 + 3, .none⟩ = some (.slice x.A x.n x.c) := by
  obtain ⟨b, o, e, cs, hcs, _, hc⟩ := h.row.get hj
  have hl : j < os.length := by rw [h.len]; exact hj
  have hz := List.getElem?_eq_getElem hl
  simp only [List.getElem?_map, hz, Option.map_some, Option.some.injEq] at hcs
  subst hcs
  exact ⟨b, o, os[j], e, hz, hc 0 _ rfl, hc 1 _ rfl, hc 2 _ rfl, hc 3 _ rfl⟩
end

theorem weight_take {os : List OpC} {k : Nat} {o : OpC} (h : os[k]? = some o) : weightL (os.take (k + 1)) = weightL (os.take k) + weight o.v := by
  obtain ⟨hk, rfl⟩ := List.getElem?_eq_some_iff.1 h
  unfold weightL
  rw [List.take_succ_eq_append_getElem hk, List.map_append, List.sum_append]
  simp
theorem weight_take_le (os : List OpC) (k : Nat) : weightL (os.take k) ≤ weightL os := by
  have : weightL os = weightL (os.take k) + weightL (os.drop k) := by
    unfold weightL
    rw [← List.sum_append, ← List.map_append, List.take_append_drop]
  omega
theorem weight_mem {os : List OpC} {o : OpC} (h : o ∈ os) : weight o.v ≤ weightL os := by
  induction os with
  | nil => cases h
  | cons x os ih =>
    simp only [weightL, List.map_cons, List.sum_cons] at ih ⊢
    rcases List.mem_cons.1 h with rfl | h
    · omega
    · have := ih h; omega
theorem sizes_mem {l : List ByteArray} {s : ByteArray} (h : s ∈ l) : s.size ≤ (l.map ByteArray.size).sum := by
  induction l with
  | nil => cases h
  | cons x l ih =>
    simp only [List.map_cons, List.sum_cons]
    rcases List.mem_cons.1 h with rfl | h
    · omega
    · have := ih h; omega
theorem sizes_take {l : List ByteArray} {k : Nat} (h : k < l.length) : ((l.take (k + 1)).map ByteArray.size).sum = ((l.take k).map ByteArray.size).sum + (l.getD k ByteArray.empty).size := by
  rw [List.take_succ_eq_append_getElem h, List.map_append, List.sum_append]
  simp [List.getD, List.getElem?_eq_getElem h]
theorem sizes_take_le (l : List ByteArray) (k : Nat) : ((l.take k).map ByteArray.size).sum ≤ (l.map ByteArray.size).sum := by
  have : (l.map ByteArray.size).sum = ((l.take k).map ByteArray.size).sum + ((l.drop k).map ByteArray.size).sum := by
    rw [← List.sum_append, ← List.map_append, List.take_append_drop]
  omega

/-- What Few tells. -/
def fewN (n W : Nat) : Nat := if n ≤ 80 ∧ W ≤ 8000 then 0 else W + n

set_option maxRecDepth 100000 in
set_option maxHeartbeats 800000 in
theorem few_any (A : Option Addr) (n c : Nat) (os : List OpC) (w : World) (hx : Script w A n os) (hn : n ≤ 1048576) (hW : weightL os ≤ 1048576) :
    Calls Tryz.prog 4 #[.slice A n c] w fun e w' => e = .returned (.int .i64 (fewN n (weightL os) : Nat)) ∧ Later w w' := by
  have HX := Lib.hid hx; clear hx
  go_enter Tryz.func4, Tryz.ntmps4
  go_wp2
  go_loopg [3, 10] (n + 1) (fun g s3 s10 wr => ∃ k : Nat, k ≤ n ∧ n - k ≤ g ∧ s10 = .int .i64 k ∧ s3 = .int .i64 (weightL (os.take k) : Nat) ∧ Later w wr)
  case atStart => exact ⟨0, Nat.zero_le _, by omega, rfl, rfl, Later.refl w⟩
  case round =>
    obtain ⟨k, hk, hg, rfl, rfl, hwr⟩ := hrel
    by_cases hlt : k < n
    · obtain ⟨b, o, x, rfl, hz, g0, g1, g2, g3⟩ := (HX.out.later hwr).get hlt
      have hstep := weight_take hz
      have hle := weight_take_le os (k + 1)
      rw [hstep] at hle
      have hrow := (HX.out.lines x (List.mem_of_getElem? hz)).1
      have hlen := hrow.len
      have HW := Lib.hid hwr; have HROW := Lib.hid (hrow.later hwr)
      have hwt : weight x.v = x.v.name.size + x.v.to.size + x.n + (x.v.l.map ByteArray.size).sum := by unfold weight; rw [hlen]
      rw [hwt] at hle hstep
      have hle2 : weightL (os.take k) + x.v.name.size + x.v.to.size + x.n + (x.v.l.map ByteArray.size).sum ≤ 1048576 := by omega
      have HST := Lib.hid hstep
      clear hle hstep hwt hrow hwr hz
      generalize weightL (os.take k) = W0 at HST hle2 ⊢
      generalize x.v.name = nm at *
      generalize x.v.to = to at *
      generalize x.v.l = l at *
      generalize x.v.kind = kd at *
      generalize x.n = nl at *
      generalize x.A = Al at *
      generalize x.c = cl at *
      have hlb : Later wr (wr.alloc (.cells #[.int .i64 kd, .string nm, .string to, .slice Al nl cl] 47)) := (Later.refl wr).alloc _
      have HLB := Lib.hid hlb; clear hlb
      have HLEN := Lib.hid hlen; clear hlen
      go_wp2
      go_loopg [3, 30] (nl + 1) (fun g s3 s30 wx => ∃ j : Nat, j ≤ nl ∧ nl - j ≤ g ∧ s30 = .int .i64 j ∧ s3 = .int .i64 (W0 + nm.size + to.size + nl + ((l.take j).map ByteArray.size).sum : Nat) ∧ wx = wr.alloc (.cells #[.int .i64 kd, .string nm, .string to, .slice Al nl cl] 47))
      case atStart => exact ⟨0, Nat.zero_le _, by omega, rfl, by simp; go_num, rfl⟩
      case round =>
        obtain ⟨j, hj, hgj, rfl, rfl, rfl⟩ := hrel
        by_cases hjl : j < nl
        · obtain ⟨b1, o1, rfl, g4⟩ := (HROW.out.later HLB.out).get hjl
          have h1 := sizes_take (l := l) (k := j) (by rw [HLEN.out]; exact hjl)
          have h2 := sizes_take_le l (j + 1)
          rw [h1] at h2
          have H1 := Lib.hid h1; clear h1
          generalize l.getD j ByteArray.empty = sx at *
          generalize ((l.take j).map ByteArray.size).sum = S at *
          go_wp2
          go_roundg (nl - (j + 1))
          case measure => omega
          case rel => exact ⟨j + 1, by omega, Nat.le_refl _, by go_num, by rw [H1.out]; go_num, rfl⟩
        · have e : l.take j = l := List.take_of_length_le (by rw [HLEN.out]; omega)
          rw [e]
          clear e
          go_wp2
          go_roundg (n - (k + 1))
          case measure => omega
          case rel => exact ⟨k + 1, by omega, Nat.le_refl _, by go_num, by rw [HST.out]; go_num, HW.out.trans HLB.out⟩
    · have e : os.take k = os := List.take_of_length_le (by rw [HX.out.len]; omega)
      rw [e]
      have HW := Lib.hid hwr
      clear e hwr
      by_cases h1 : n ≤ 80
      · have d1 : decide ((n : Int) ≤ 80) = true := by simp; omega
        by_cases h2 : weightL os ≤ 8000
        · have d2 : decide ((weightL os : Int) ≤ 8000) = true := by simp; omega
          have E : Hid (fewN n (weightL os) = 0) := by simp [Hid, fewN, h1, h2]
          go_wp2
          go_ret
          exact ⟨by rw [E.out]; rfl, HW.out⟩
        · have d2 : decide ((weightL os : Int) ≤ 8000) = false := by simp; omega
          have E : Hid (fewN n (weightL os) = weightL os + n) := by simp [Hid, fewN, h2]
          go_wp2
          go_ret
          exact ⟨by rw [E.out]; go_num, HW.out⟩
      · have d1 : decide ((n : Int) ≤ 80) = false := by simp; omega
        have E : Hid (fewN n (weightL os) = weightL os + n) := by simp [Hid, fewN, h1]
        go_wp2
        go_ret
        exact ⟨by rw [E.out]; go_num, HW.out⟩

theorem few_zero {n W : Nat} : fewN n W = 0 ↔ n ≤ 80 ∧ W ≤ 8000 := by
  unfold fewN
  split
  · simp [*]
  · constructor
    · intro h; omega
    · intro h; contradiction

/-- What is asked of calls that come in. -/
structure CameS (w : World) (A : Option Addr) (n : Nat) (os : List OpC) : Prop where
  script : Script w A n os
  many : n ≤ 1048576
  weigh : weightL os ≤ 1048576
theorem CameS.later {w w' : World} {A : Option Addr} {n : Nat} {os : List OpC} (h : CameS w A n os) (hl : Later w w') : CameS w' A n os := ⟨h.script.later hl, h.many, h.weigh⟩

end Go.Proofs.YtbhnbkcokhfopaaGreat

/-
  Calls that come in: from what is read as data to what the laws ask.
-/
namespace Go.Proofs.YtbhnbkcokhfopaaGreat
open Go.ChangeShapes Go.WideShapes Go.ChangeAt Go.RowKit Go.Deep

theorem bulk_range {H : Type} (D : Nat → DataW H) : ∀ (n : Nat) (os : List OpC), os.length = n → (∀ (i : Nat) x, os[i]? = some x → weight x.v + 1 ≤ Rows.uptoBulk (D i)) → weightL os + n ≤ Rows.uptoBulkAll ((List.range n).map D)
  | 0, os, h, _ => by
    have : os = [] := List.eq_nil_of_length_eq_zero h
    subst this; simp [weightL]
  | n + 1, os, h, hw => by
    have key : ∀ (l r : List (DataW H)), Rows.uptoBulkAll (l ++ r) = Rows.uptoBulkAll l + Rows.uptoBulkAll r := fun l r => by
      induction l with
      | nil => simp [Rows.uptoBulkAll]
      | cons x l ih => simp only [List.cons_append, Rows.uptoBulkAll, ih]; omega
    have ih := bulk_range D n (os.take n) (by rw [List.length_take]; omega) (fun i x hx => hw i x (by
      have hi : i < n := by have := (List.getElem?_eq_some_iff.1 hx).1; rw [List.length_take] at this; omega
      rwa [List.getElem?_take_of_lt hi] at hx))
    have hz : os[n]? = some (os[n]'(by omega)) := List.getElem?_eq_getElem (by omega)
    have h1 := hw n _ hz
    have h2 := weight_take hz
    rw [show os.take (n + 1) = os from List.take_of_length_le (by omega)] at h2
    rw [List.range_succ, List.map_append, key]
    simp only [List.map_cons, List.map_nil, Rows.uptoBulkAll]
    omega

def opFields : Array Field := #[{ name := "Kind", type := 3, offset := 0, embedded := false, tag := "", pkgPath := "", byteOffset := 0 }, { name := "Name", type := 9, offset := 1, embedded := false, tag := "", pkgPath := "", byteOffset := 8 }, { name := "To", type := 9, offset := 2, embedded := false, tag := "", pkgPath := "", byteOffset := 24 }, { name := "L", type := 45, offset := 3, embedded := false, tag := "", pkgPath := "", byteOffset := 40 }]
theorem Tryz.opOne : oneCellFields Tryz.prog opFields = true := by kernel_rfl
theorem Tryz.opCells4 : Tryz.prog.cellsOf 47 = opFields.size := by kernel_rfl

/-- Calls that came in, nil or not. -/
theorem came_script {H : Type} {enc : TypeId × Value → H} {W : World} {v : Value} {fuel : Nat} {x : DataW H × List MemPlace}
    (hf : DataW.trod enc Tryz.prog W 0 (fun _ => true) true fuel 22 [v] = some x) (hb : Rows.uptoBulk x.1 ≤ 1048576) : ∃ A n c os, v = .slice A n c ∧ CameS W A n os := by
  rcases open_slice_fields (fs := opFields) Tryz.underlying22 Tryz.underlying47 Tryz.opOne Tryz.opCells4 hf with ⟨hcs, hx⟩ | ⟨a, len, cap, m, D, Pl, hcs, hl, hm, hx, hi⟩
  · simp at hcs
    exact ⟨none, 0, 0, [], hcs, ⟨RowK.none, (fun o ho => by cases ho)⟩, Nat.zero_le _, by simp [weightL]⟩
  · simp only [if_true] at hm
    have hsz : opFields.size = 4 := rfl
    have hel : ∀ i, i < len → ∃ o : OpC, (∀ (j : Nat) u, (opCells o)[j]? = some u → W.cell? (a.add (i * 4 + j)) = some u) ∧ Row W o.A o.n o.v.l ∧ o.n ≤ o.c ∧ weight o.v + 1 ≤ Rows.uptoBulk (D i) := fun i hil => by
      obtain ⟨ys, n, hD, hyl, hfld⟩ := hi i (by omega)
      obtain ⟨v0, y0, c0, e0, t0⟩ := hfld 0 _ rfl
      obtain ⟨v1, y1, c1, e1, t1⟩ := hfld 1 _ rfl
      obtain ⟨v2, y2, c2, e2, t2⟩ := hfld 2 _ rfl
      obtain ⟨v3, y3, c3, e3, t3⟩ := hfld 3 _ rfl
      obtain ⟨kd, hk, _, _⟩ := DataW.trod_int Tryz.underlying3 t0
      obtain ⟨s1, hs1, hy1, _⟩ := DataW.trod_string Tryz.underlying9 t1
      obtain ⟨s2, hs2, hy2, _⟩ := DataW.trod_string Tryz.underlying9 t2
      obtain ⟨Al, nl, cl, l, hv3, hnc, hrow, hwl⟩ := came_lines t3
      simp only [List.cons.injEq, and_true] at hk hs1 hs2
      subst hk hs1 hs2 hv3
      rw [hsz] at c0 c1 c2 c3 hyl
      refine ⟨⟨⟨kd, s1, s2, l⟩, Al, nl, cl⟩, fun j u hj => ?_, hrow, hnc, ?_⟩
      · simp only [opCells] at hj
        match j, hj with
        | 0, hj => simp at hj; subst hj; exact c0
        | 1, hj => simp at hj; subst hj; exact c1
        | 2, hj => simp at hj; subst hj; exact c2
        | 3, hj => simp at hj; subst hj; exact c3
        | j + 4, hj => simp at hj
      · match ys, hyl, e0, e1, e2, e3 with
        | [z0, z1, z2, z3], _, e0, e1, e2, e3 =>
          simp only [List.getElem?_cons_zero, List.getElem?_cons_succ, Option.some.injEq] at e0 e1 e2 e3
          subst e0 e1 e2 e3
          rw [hD]
          simp only [List.map_cons, List.map_nil, Rows.uptoBulk, Rows.uptoBulkAll]
          rw [hy1, hy2]
          simp only [Rows.uptoBulk, weight]
          have l1 : s1.data.toList.length = s1.size := by rw [Array.length_toList]; rfl
          have l2 : s2.data.toList.length = s2.size := by rw [Array.length_toList]; rfl
          omega
    obtain ⟨os, hol, hoq⟩ := list_of len hel
    have hwt := bulk_range D len os hol fun i o ho => (hoq i o ho).2.2.2
    have hbk : Rows.uptoBulkAll ((List.range len).map D) ≤ 1048576 := by
      subst hx
      simp only [Rows.uptoBulk] at hb
      omega
    simp at hcs
    have hmem : ∀ o ∈ os, Row W o.A o.n o.v.l ∧ o.n ≤ o.c := fun o ho => by
      obtain ⟨i, hio⟩ := List.getElem?_of_mem ho
      have := hoq i o hio
      exact ⟨this.2.1, this.2.2.1⟩
    refine ⟨some a, len, cap, os, hcs, ⟨⟨by simp [hol], fun cs hcs => ?_, fun h0 => ?_⟩, fun o ho => hmem o ho⟩, by omega, by omega⟩
    · obtain ⟨o, _, rfl⟩ := List.mem_map.1 hcs
      rfl
    · obtain ⟨b, off, spot⟩ := a
      have h00 := (hoq 0 (os[0]'(by omega)) (List.getElem?_eq_getElem (by omega))).1 0 _ rfl
      have hspot : spot = none := by simpa [Addr.add] using World.cell?_spot h00
      subst hspot
      refine ⟨b, off, rfl, fun j i cs u hj hi => ?_⟩
      rw [List.getElem?_map] at hj
      obtain ⟨o, ho, rfl⟩ := Option.map_eq_some_iff.1 hj
      have := (hoq j o ho).1 i u hi
      rw [plain_add, ← Nat.add_assoc] at this
      exact this

end Go.Proofs.YtbhnbkcokhfopaaGreat
