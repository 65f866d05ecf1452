import Derived.Test.YtbhnbkcokhfopaaGreatPk16
import Derived.Test.YtbhnbkcokhfopaaGreatPk10
import Derived.Test.YtbhnbkcokhfopaaGreatPk4
import Derived.Test.YtbhnbkcokhfopaaGreatPk9
import Derived.Test.YtbhnbkcokhfopaaGreatChecked
import Derived.Test.YtbhnbkcokhfopaaGreatPk3
import Derived.Deep.LoopGhost
import Derived.Lib.Hide
import Derived.Deep.RegionHeld3

/-
  What the document's Do comes to, as a call: Put, and all kinds together.
-/
namespace Go.Proofs.YtbhnbkcokhfopaaGreat
open Go.RowKit Go.Maps

section
variable (A : Option Addr) (n c : Nat) (z : Fl Held) (nm to : ByteArray) (Al : Option Addr) (nl cl : Nat) (l : List ByteArray) (w : World)

set_option maxRecDepth 100000 in
set_option maxHeartbeats 800000 in
theorem refDo3 (hx : RefRow w A n z) (hc : n ≤ c) (hn : n ≤ 65536) (hl : Row w Al nl l) (hnl : nl ≤ 65536) (hb : ∀ s ∈ l, s.size ≤ maxLen) :
    Calls Tryz.prog 23 #[.slice A n c, .agg #[.int .i64 3, .string nm, .string to, .slice Al nl cl]] w (GivesDo (putT (mapT (·.2) z) nm l) w) := by
  have HX := Lib.hid hx
  have HG := Lib.hid (fun (w1 : World) (h : Later w w1) => refGet_any A n c z nm w1 (hx.later h) hn)
  have HA := Lib.hid (fun (w1 : World) (h : Later w w1) => refAll_any Al nl cl l w1 (hl.later h) hnl hb)
  have same : Hid (∀ (w1 : World) (k : Int), Later w w1 → GivesDo (mapT (·.2) z, k) w (.returned (.tuple #[.slice A n c, .int .i64 k])) w1) := fun w1 k h => ⟨_, rfl, ⟨A, n, c, z, rfl, hc, hx.later h, rfl⟩, h⟩
  have hlb : Later w (w.alloc (.cells #[.int .i64 3, .string nm, .string to, .slice Al nl cl] 47)) := (Later.refl w).alloc _
  have HLB := Lib.hid hlb
  have HLL := Lib.hid hl
  clear hlb hx hl hb
  cases h1 : hasT z nm
  · have E : Hid (putT (mapT (·.2) z) nm l = (mapT (·.2) z, 20)) := by simp [Hid, putT, hasT_map, h1]
    rw [E.out]
    rw [h1] at HG
    clear E h1
    go_enter Tryz.func23, Tryz.ntmps23
    go_wp2_with fail
    refine (HG.out _ HLB.out).mono ?_
    rintro e w1 ⟨rfl, rfl⟩
    generalize got (getT z nm) = gv
    go_wp2
    go_ret2
    exact same.out _ _ HLB.out
  · rw [h1] at HG
    cases h2 : allB l
    · have E : Hid (putT (mapT (·.2) z) nm l = (mapT (·.2) z, 1)) := by simp [Hid, putT, hasT_map, h1, h2]
      rw [E.out]
      rw [h2] at HA
      clear E h1 h2
      go_enter Tryz.func23, Tryz.ntmps23
      go_wp2_with fail
      refine (HG.out _ HLB.out).mono ?_
      rintro e w1 ⟨rfl, rfl⟩
      generalize got (getT z nm) = gv
      go_wp2_with fail
      refine (HA.out _ HLB.out).mono ?_
      rintro e w1 ⟨rfl, rfl⟩
      go_wp2
      go_ret2
      exact same.out _ _ HLB.out
    · have E : Hid (putT (mapT (·.2) z) nm l = (withT (mapT (·.2) z) nm l, 0)) := by simp [Hid, putT, hasT_map, h1, h2]
      rw [E.out]
      rw [h2] at HA
      obtain ⟨i0, hi, hz0, hz1, hz2⟩ := info_parts Tryz.textInfo
      have cb1 : (w.alloc (.cells #[.int .i64 3, .string nm, .string to, .slice Al nl cl] 47)).cell? ⟨w.heap.size, 1, none⟩ = some (.string nm) := by simp
      have cb2 : (w.alloc (.cells #[.int .i64 3, .string nm, .string to, .slice Al nl cl] 47)).cell? ⟨w.heap.size, 3, none⟩ = some (.slice Al nl cl) := by simp
      have CB := Lib.hid (And.intro cb1 cb2)
      clear E h1 h2 cb1 cb2
      go_enter Tryz.func23, Tryz.ntmps23
      go_wp2_with fail
      refine (HG.out _ HLB.out).mono ?_
      rintro e w1 ⟨rfl, rfl⟩
      generalize got (getT z nm) = gv
      go_wp2_with fail
      refine (HA.out _ HLB.out).mono ?_
      rintro e w1 ⟨rfl, rfl⟩
      generalize hbx : w.alloc (.cells #[.int .i64 3, .string nm, .string to, .slice Al nl cl] 47) = wb at HLB CB ⊢
      have HBX := Lib.hid hbx; clear hbx
      obtain ⟨cb1, cb2⟩ := CB.out
      have ne1 := World.new_ne wb _ cb1
      have ne2 := World.new_ne wb _ cb2
      go_wp2_with fail
      go_region_held3 (fun w' => w'.cell? ⟨w.heap.size, 1, none⟩ = some (.string nm) ∧ w'.cell? ⟨w.heap.size, 3, none⟩ = some (.slice Al nl cl)) (go_keep)
        (first
          | (go_at_call 46; refine (refWith_any A n c z nm A2 _ c2 l w2 (HX.out.later (HLB.out.trans HL2.out)) HR2.out hn).mono ?_; rintro e w3 ⟨A3, n3, c3, rfl, hc3, hr3, hl3⟩; have HL3 := Lib.hid hl3; have HR3 := Lib.hid hr3; have cd1 := HL3.out.cell cc1; have cd2 := HL3.out.cell cc2; clear hr3 hl3)
          | (refine step_append_row (w0 := wb) rfl _ _ 45 rfl i0 Tryz.underlying45 hi hz0 hz1 hz2 ((Own.empty (Later.refl wb)).drew) rfl Al nl cl l rfl (HLL.out.later (HLB.out.trans (((Later.refl wb).alloc _).drew))) (by simp; omega) ?_; intro v2 w2 hown2 hg2; have HL2 := Lib.hid hown2.later; obtain ⟨A2, c2, rfl, hcc2, hr2⟩ := hown2.row; have HR2 : Hid (Reads w2 (.slice A2 ([] ++ l).length c2) l) := ⟨A2, _, c2, rfl, hcc2, by simpa using hr2⟩; have cc1 := HL2.out.cell cb1; have cc2 := HL2.out.cell cb2; clear hown2 hg2 hr2))
      go_wp2
      go_ret2
      refine ⟨_, rfl, ⟨A3, n3, c3, _, rfl, hc3, HR3.out, ?_⟩, (HLB.out.trans HL2.out).trans HL3.out⟩
      rw [← withT_map (fun x : Held => x.2)]

end

/-- What is asked of a call that is handed in: its lines are there, and nothing is too long. -/
structure OpOk (w : World) (o : OpV) (Al : Option Addr) (nl : Nat) : Prop where
  row : Row w Al nl o.l
  most : nl ≤ 65536
  name : o.name.size ≤ maxLen
  to : o.to.size ≤ maxLen
  lines : ∀ s ∈ o.l, s.size ≤ maxLen
theorem OpOk.later {w w' : World} {o : OpV} {Al : Option Addr} {nl : Nat} (h : OpOk w o Al nl) (hl : Later w w') : OpOk w' o Al nl := ⟨h.row.later hl, h.most, h.name, h.to, h.lines⟩

/-- The value of a call. -/
def opVal (o : OpV) (Al : Option Addr) (nl cl : Nat) : Value := .agg #[.int .i64 o.kind, .string o.name, .string o.to, .slice Al nl cl]

theorem refDo_any (v : Value) (t : Tr) (o : OpV) (Al : Option Addr) (nl cl : Nat) (w : World) (ht : RefAt w v t) (ho : OpOk w o Al nl) (hl : t.length ≤ 65536) (hb : ∀ f ∈ t, f.2.length ≤ 65536) :
    Calls Tryz.prog 23 #[v, opVal o Al nl cl] w (GivesDo (doT t o) w) := by
  obtain ⟨A, n, c, z, rfl, hc, hr, rfl⟩ := ht
  have hn : n ≤ 65536 := by rw [mapT_length, hr.len] at hl; exact hl
  obtain ⟨kind, nm, to, l⟩ := o
  by_cases h0 : kind = 0
  · subst h0
    exact refDo0 A n c z nm to Al nl cl w hr hc hn ho.name
  by_cases h1 : kind = 1
  · subst h1
    exact refDo1 A n c z nm to Al nl cl w hr hc hn fun f hf => hb (f.1, f.2.2) (by simp only [mapT, List.mem_map]; exact ⟨_, hf, rfl⟩)
  by_cases h2 : kind = 2
  · subst h2
    exact refDo2 A n c z nm to Al nl cl w hr hc hn ho.to
  by_cases h3 : kind = 3
  · subst h3
    exact refDo3 A n c z nm to Al nl cl l w hr hc hn ho.row ho.most ho.lines
  have e : doT (mapT (·.2) z) ⟨kind, nm, to, l⟩ = (mapT (·.2) z, 0) := by simp [doT, h0, h1, h2, h3]
  rw [e]
  exact refDoElse A n c z nm to Al nl cl w kind h0 h1 h2 h3 hr hc hn

end Go.Proofs.YtbhnbkcokhfopaaGreat

/-
  The calls that are handed in, in memory: a row of calls, each a kind, two names and a row of lines.
-/
namespace Go.Proofs.YtbhnbkcokhfopaaGreat
open Go.RowKit Go.Maps

/-- A call, and where its lines stand. -/
structure OpC where
  v : OpV
  A : Option Addr
  n : Nat
  c : Nat

def opCells (o : OpC) : List Value := [.int .i64 o.v.kind, .string o.v.name, .string o.v.to, .slice o.A o.n o.c]

/-- What a call weighs. -/
def weight (o : OpV) : Nat := o.name.size + o.to.size + o.l.length + (o.l.map ByteArray.size).sum
def weightL (os : List OpC) : Nat := (os.map fun o => weight o.v).sum

/-- The slice reads as these calls. -/
structure Script (w : World) (A : Option Addr) (n : Nat) (os : List OpC) : Prop where
  row : RowK 4 w A n (os.map opCells)
  lines : ∀ o ∈ os, Row w o.A o.n o.v.l ∧ o.n ≤ o.c

section
variable {w w' : World} {A : Option Addr} {n : Nat} {os : List OpC}
theorem Script.len (h : Script w A n os) : os.length = n := by have := h.row.len; simpa using this
theorem Script.later (h : Script w A n os) (hl : Later w w') : Script w' A n os := ⟨h.row.later hl, fun o ho => ⟨(h.lines o ho).1.later hl, (h.lines o ho).2⟩⟩
theorem Script.get (h : Script w A n os) {j : Nat} (hj : j < n) : ∃ b o x, A = some ⟨b, o, .none⟩ ∧ os[j]? = some x ∧ w.cell? ⟨b, o + j * 4, .none⟩ = some (.int .i64 x.v.kind) ∧ w.cell? ⟨b, o + j * 4 + 1, .none⟩ = some (.string x.v.name) ∧ w.cell? ⟨b, o + j * 4 + 2, .none⟩ = some (.string x.v.to) ∧ w.cell? ⟨b, o + j * 4 + 3, .none⟩ = some (.slice x.A x.n x.c) := by
  obtain ⟨b, o, e, cs, hcs, _, hc⟩ := h.row.get hj
  have hl : j < os.length := by rw [h.len]; exact hj
  have hz := List.getElem?_eq_getElem hl
  simp only [List.getElem?_map, hz, Option.map_some, Option.some.injEq] at hcs
  subst hcs
  exact ⟨b, o, os[j], e, hz, hc 0 _ rfl, hc 1 _ rfl, hc 2 _ rfl, hc 3 _ rfl⟩
end

theorem weight_take {os : List OpC} {k : Nat} {o : OpC} (h : os[k]? = some o) : weightL (os.take (k + 1)) = weightL (os.take k) + weight o.v := by
  obtain ⟨hk, rfl⟩ := List.getElem?_eq_some_iff.1 h
  unfold weightL
  rw [List.take_succ_eq_append_getElem hk, List.map_append, List.sum_append]
  simp
theorem weight_take_le (os : List OpC) (k : Nat) : weightL (os.take k) ≤ weightL os := by
  have : weightL os = weightL (os.take k) + weightL (os.drop k) := by
    unfold weightL
    rw [← List.sum_append, ← List.map_append, List.take_append_drop]
  omega
theorem weight_mem {os : List OpC} {o : OpC} (h : o ∈ os) : weight o.v ≤ weightL os := by
  induction os with
  | nil => cases h
  | cons x os ih =>
    simp only [weightL, List.map_cons, List.sum_cons] at ih ⊢
    rcases List.mem_cons.1 h with rfl | h
    · omega
    · have := ih h; omega
theorem sizes_mem {l : List ByteArray} {s : ByteArray} (h : s ∈ l) : s.size ≤ (l.map ByteArray.size).sum := by
  induction l with
  | nil => cases h
  | cons x l ih =>
    simp only [List.map_cons, List.sum_cons]
    rcases List.mem_cons.1 h with rfl | h
    · omega
    · have := ih h; omega
theorem sizes_take {l : List ByteArray} {k : Nat} (h : k < l.length) : ((l.take (k + 1)).map ByteArray.size).sum = ((l.take k).map ByteArray.size).sum + (l.getD k ByteArray.empty).size := by
  rw [List.take_succ_eq_append_getElem h, List.map_append, List.sum_append]
  simp [List.getD, List.getElem?_eq_getElem h]
theorem sizes_take_le (l : List ByteArray) (k : Nat) : ((l.take k).map ByteArray.size).sum ≤ (l.map ByteArray.size).sum := by
  have : (l.map ByteArray.size).sum = ((l.take k).map ByteArray.size).sum + ((l.drop k).map ByteArray.size).sum := by
    rw [← List.sum_append, ← List.map_append, List.take_append_drop]
  omega

/-- What Few tells. -/
def fewN (n W : Nat) : Nat := if n ≤ 80 ∧ W ≤ 8000 then 0 else W + n

set_option maxRecDepth 100000 in
set_option maxHeartbeats 800000 in
theorem few_any (A : Option Addr) (n c : Nat) (os : List OpC) (w : World) (hx : Script w A n os) (hn : n ≤ 1048576) (hW : weightL os ≤ 1048576) :
    Calls Tryz.prog 4 #[.slice A n c] w fun e w' => e = .returned (.int .i64 (fewN n (weightL os) : Nat)) ∧ Later w w' := by
  have HX := Lib.hid hx; clear hx
  go_enter Tryz.func4, Tryz.ntmps4
  go_wp2
  go_loopg [3, 10] (n + 1) (fun g s3 s10 wr => ∃ k : Nat, k ≤ n ∧ n - k ≤ g ∧ s10 = .int .i64 k ∧ s3 = .int .i64 (weightL (os.take k) : Nat) ∧ Later w wr)
  case atStart => exact ⟨0, Nat.zero_le _, by omega, rfl, rfl, Later.refl w⟩
  case round =>
    obtain ⟨k, hk, hg, rfl, rfl, hwr⟩ := hrel
    by_cases hlt : k < n
    · obtain ⟨b, o, x, rfl, hz, g0, g1, g2, g3⟩ := (HX.out.later hwr).get hlt
      have hstep := weight_take hz
      have hle := weight_take_le os (k + 1)
      rw [hstep] at hle
      have hrow := (HX.out.lines x (List.mem_of_getElem? hz)).1
      have hlen := hrow.len
      have HW := Lib.hid hwr; have HROW := Lib.hid (hrow.later hwr)
      have hwt : weight x.v = x.v.name.size + x.v.to.size + x.n + (x.v.l.map ByteArray.size).sum := by unfold weight; rw [hlen]
      rw [hwt] at hle hstep
      have hle2 : weightL (os.take k) + x.v.name.size + x.v.to.size + x.n + (x.v.l.map ByteArray.size).sum ≤ 1048576 := by omega
      have HST := Lib.hid hstep
      clear hle hstep hwt hrow hwr hz
      generalize weightL (os.take k) = W0 at HST hle2 ⊢
      generalize x.v.name = nm at *
      generalize x.v.to = to at *
      generalize x.v.l = l at *
      generalize x.v.kind = kd at *
      generalize x.n = nl at *
      generalize x.A = Al at *
      generalize x.c = cl at *
      have hlb : Later wr (wr.alloc (.cells #[.int .i64 kd, .string nm, .string to, .slice Al nl cl] 47)) := (Later.refl wr).alloc _
      have HLB := Lib.hid hlb; clear hlb
      have HLEN := Lib.hid hlen; clear hlen
      go_wp2
      go_loopg [3, 30] (nl + 1) (fun g s3 s30 wx => ∃ j : Nat, j ≤ nl ∧ nl - j ≤ g ∧ s30 = .int .i64 j ∧ s3 = .int .i64 (W0 + nm.size + to.size + nl + ((l.take j).map ByteArray.size).sum : Nat) ∧ wx = wr.alloc (.cells #[.int .i64 kd, .string nm, .string to, .slice Al nl cl] 47))
      case atStart => exact ⟨0, Nat.zero_le _, by omega, rfl, by simp; go_num, rfl⟩
      case round =>
        obtain ⟨j, hj, hgj, rfl, rfl, rfl⟩ := hrel
        by_cases hjl : j < nl
        · obtain ⟨b1, o1, rfl, g4⟩ := (HROW.out.later HLB.out).get hjl
          have h1 := sizes_take (l := l) (k := j) (by rw [HLEN.out]; exact hjl)
          have h2 := sizes_take_le l (j + 1)
          rw [h1] at h2
          have H1 := Lib.hid h1; clear h1
          generalize l.getD j ByteArray.empty = sx at *
          generalize ((l.take j).map ByteArray.size).sum = S at *
          go_wp2
          go_roundg (nl - (j + 1))
          case measure => omega
          case rel => exact ⟨j + 1, by omega, Nat.le_refl _, by go_num, by rw [H1.out]; go_num, rfl⟩
        · have e : l.take j = l := List.take_of_length_le (by rw [HLEN.out]; omega)
          rw [e]
          clear e
          go_wp2
          go_roundg (n - (k + 1))
          case measure => omega
          case rel => exact ⟨k + 1, by omega, Nat.le_refl _, by go_num, by rw [HST.out]; go_num, HW.out.trans HLB.out⟩
    · have e : os.take k = os := List.take_of_length_le (by rw [HX.out.len]; omega)
      rw [e]
      have HW := Lib.hid hwr
      clear e hwr
      by_cases h1 : n ≤ 80
      · have d1 : decide ((n : Int) ≤ 80) = true := by simp; omega
        by_cases h2 : weightL os ≤ 8000
        · have d2 : decide ((weightL os : Int) ≤ 8000) = true := by simp; omega
          have E : Hid (fewN n (weightL os) = 0) := by simp [Hid, fewN, h1, h2]
          go_wp2
          go_ret
          exact ⟨by rw [E.out]; rfl, HW.out⟩
        · have d2 : decide ((weightL os : Int) ≤ 8000) = false := by simp; omega
          have E : Hid (fewN n (weightL os) = weightL os + n) := by simp [Hid, fewN, h2]
          go_wp2
          go_ret
          exact ⟨by rw [E.out]; go_num, HW.out⟩
      · have d1 : decide ((n : Int) ≤ 80) = false := by simp; omega
        have E : Hid (fewN n (weightL os) = weightL os + n) := by simp [Hid, fewN, h1]
        go_wp2
        go_ret
        exact ⟨by rw [E.out]; go_num, HW.out⟩

theorem few_zero {n W : Nat} : fewN n W = 0 ↔ n ≤ 80 ∧ W ≤ 8000 := by
  unfold fewN
  split
  · simp [*]
  · constructor
    · intro h; omega
    · intro h; contradiction

/-- What is asked of calls that come in. -/
structure CameS (w : World) (A : Option Addr) (n : Nat) (os : List OpC) : Prop where
  script : Script w A n os
  many : n ≤ 1048576
  weigh : weightL os ≤ 1048576
theorem CameS.later {w w' : World} {A : Option Addr} {n : Nat} {os : List OpC} (h : CameS w A n os) (hl : Later w w') : CameS w' A n os := ⟨h.script.later hl, h.many, h.weigh⟩

end Go.Proofs.YtbhnbkcokhfopaaGreat

/-
  Calls that come in: from what is read as data to what the laws ask.
-/
namespace Go.Proofs.YtbhnbkcokhfopaaGreat
open Go.ChangeShapes Go.WideShapes Go.ChangeAt Go.RowKit Go.Deep

theorem bulk_range {H : Type} (D : Nat → DataW H) : ∀ (n : Nat) (os : List OpC), os.length = n → (∀ (i : Nat) x, os[i]? = some x → weight x.v + 1 ≤ Rows.uptoBulk (D i)) → weightL os + n ≤ Rows.uptoBulkAll ((List.range n).map D)
  | 0, os, h, _ => by
    have : os = [] := List.eq_nil_of_length_eq_zero h
    subst this; simp [weightL]
  | n + 1, os, h, hw => by
    have key : ∀ (l r : List (DataW H)), Rows.uptoBulkAll (l ++ r) = Rows.uptoBulkAll l + Rows.uptoBulkAll r := fun l r => by
      induction l with
      | nil => simp [Rows.uptoBulkAll]
      | cons x l ih => simp only [List.cons_append, Rows.uptoBulkAll, ih]; omega
    have ih := bulk_range D n (os.take n) (by rw [List.length_take]; omega) (fun i x hx => hw i x (by
      have hi : i < n := by have := (List.getElem?_eq_some_iff.1 hx).1; rw [List.length_take] at this; omega
      rwa [List.getElem?_take_of_lt hi] at hx))
    have hz : os[n]? = some (os[n]'(by omega)) := List.getElem?_eq_getElem (by omega)
    have h1 := hw n _ hz
    have h2 := weight_take hz
    rw [show os.take (n + 1) = os from List.take_of_length_le (by omega)] at h2
    rw [List.range_succ, List.map_append, key]
    simp only [List.map_cons, List.map_nil, Rows.uptoBulkAll]
    omega

def opFields : Array Field := #[{ name := "Kind", type := 3, offset := 0, embedded := false, tag := "", pkgPath := "", byteOffset := 0 }, { name := "Name", type := 9, offset := 1, embedded := false, tag := "", pkgPath := "", byteOffset := 8 }, { name := "To", type := 9, offset := 2, embedded := false, tag := "", pkgPath := "", byteOffset := 24 }, { name := "L", type := 45, offset := 3, embedded := false, tag := "", pkgPath := "", byteOffset := 40 }]
theorem Tryz.opOne : oneCellFields Tryz.prog opFields = true := by kernel_rfl
theorem Tryz.opCells4 : Tryz.prog.cellsOf 47 = opFields.size := by kernel_rfl

/-- Calls that came in, nil or not. -/
theorem came_script {H : Type} {enc : TypeId × Value → H} {W : World} {v : Value} {fuel : Nat} {x : DataW H × List MemPlace}
    (hf : DataW.trod enc Tryz.prog W 0 (fun _ => true) true fuel 22 [v] = some x) (hb : Rows.uptoBulk x.1 ≤ 1048576) : ∃ A n c os, v = .slice A n c ∧ CameS W A n os := by
  rcases open_slice_fields (fs := opFields) Tryz.underlying22 Tryz.underlying47 Tryz.opOne Tryz.opCells4 hf with ⟨hcs, hx⟩ | ⟨a, len, cap, m, D, Pl, hcs, hl, hm, hx, hi⟩
  · simp at hcs
    exact ⟨none, 0, 0, [], hcs, ⟨RowK.none, (fun o ho => by cases ho)⟩, Nat.zero_le _, by simp [weightL]⟩
  · simp only [if_true] at hm
    have hsz : opFields.size = 4 := rfl
    have hel : ∀ i, i < len → ∃ o : OpC, (∀ (j : Nat) u, (opCells o)[j]? = some u → W.cell? (a.add (i * 4 + j)) = some u) ∧ Row W o.A o.n o.v.l ∧ o.n ≤ o.c ∧ weight o.v + 1 ≤ Rows.uptoBulk (D i) := fun i hil => by
      obtain ⟨ys, n, hD, hyl, hfld⟩ := hi i (by omega)
      obtain ⟨v0, y0, c0, e0, t0⟩ := hfld 0 _ rfl
      obtain ⟨v1, y1, c1, e1, t1⟩ := hfld 1 _ rfl
      obtain ⟨v2, y2, c2, e2, t2⟩ := hfld 2 _ rfl
      obtain ⟨v3, y3, c3, e3, t3⟩ := hfld 3 _ rfl
      obtain ⟨kd, hk, _, _⟩ := DataW.trod_int Tryz.underlying3 t0
      obtain ⟨s1, hs1, hy1, _⟩ := DataW.trod_string Tryz.underlying9 t1
      obtain ⟨s2, hs2, hy2, _⟩ := DataW.trod_string Tryz.underlying9 t2
      obtain ⟨Al, nl, cl, l, hv3, hnc, hrow, hwl⟩ := came_lines t3
      simp only [List.cons.injEq, and_true] at hk hs1 hs2
      subst hk hs1 hs2 hv3
      rw [hsz] at c0 c1 c2 c3 hyl
      refine ⟨⟨⟨kd, s1, s2, l⟩, Al, nl, cl⟩, fun j u hj => ?_, hrow, hnc, ?_⟩
      · simp only [opCells] at hj
        match j, hj with
        | 0, hj => simp at hj; subst hj; exact c0
        | 1, hj => simp at hj; subst hj; exact c1
        | 2, hj => simp at hj; subst hj; exact c2
        | 3, hj => simp at hj; subst hj; exact c3
        | j + 4, hj => simp at hj
      · match ys, hyl, e0, e1, e2, e3 with
        | [z0, z1, z2, z3], _, e0, e1, e2, e3 =>
          simp only [List.getElem?_cons_zero, List.getElem?_cons_succ, Option.some.injEq] at e0 e1 e2 e3
          subst e0 e1 e2 e3
          rw [hD]
          simp only [List.map_cons, List.map_nil, Rows.uptoBulk, Rows.uptoBulkAll]
          rw [hy1, hy2]
          simp only [Rows.uptoBulk, weight]
          have l1 : s1.data.toList.length = s1.size := by rw [Array.length_toList]; rfl
          have l2 : s2.data.toList.length = s2.size := by rw [Array.length_toList]; rfl
          omega
    obtain ⟨os, hol, hoq⟩ := list_of len hel
    have hwt := bulk_range D len os hol fun i o ho => (hoq i o ho).2.2.2
    have hbk : Rows.uptoBulkAll ((List.range len).map D) ≤ 1048576 := by
      subst hx
      simp only [Rows.uptoBulk] at hb
      omega
    simp at hcs
    have hmem : ∀ o ∈ os, Row W o.A o.n o.v.l ∧ o.n ≤ o.c := fun o ho => by
      obtain ⟨i, hio⟩ := List.getElem?_of_mem ho
      have := hoq i o hio
      exact ⟨this.2.1, this.2.2.1⟩
    refine ⟨some a, len, cap, os, hcs, ⟨⟨by simp [hol], fun cs hcs => ?_, fun h0 => ?_⟩, fun o ho => hmem o ho⟩, by omega, by omega⟩
    · obtain ⟨o, _, rfl⟩ := List.mem_map.1 hcs
      rfl
    · obtain ⟨b, off, spot⟩ := a
      have h00 := (hoq 0 (os[0]'(by omega)) (List.getElem?_eq_getElem (by omega))).1 0 _ rfl
      have hspot : spot = none := by simpa [Addr.add] using World.cell?_spot h00
      subst hspot
      refine ⟨b, off, rfl, fun j i cs u hj hi => ?_⟩
      rw [List.getElem?_map] at hj
      obtain ⟨o, ho, rfl⟩ := Option.map_eq_some_iff.1 hj
      have := (hoq j o ho).1 i u hi
      rw [plain_add, ← Nat.add_assoc] at this
      exact this

end Go.Proofs.YtbhnbkcokhfopaaGreat

/-
  Ranging over the map of a tree: which files have come; the step as a law for the walk.
-/
namespace Go.Proofs.YtbhnbkcokhfopaaGreat
open Go.RowKit Go.Maps

section
variable {α : Type}
/-- The files that have come. -/
def seen (left : Lit → Bool) (t : Fl α) : Fl α := t.filter fun f => !left (.string (bytes f.1))
/-- What is left behind the file nm. -/
def but (left : Lit → Bool) (nm : ByteArray) : Lit → Bool := fun k => left k && !k.sameKey (.string (bytes nm))

theorem mem_seen {left : Lit → Bool} {t : Fl α} {f : ByteArray × α} : f ∈ seen left t ↔ f ∈ t ∧ left (.string (bytes f.1)) = false := by simp [seen]
theorem but_eq (left : Lit → Bool) (nm n : ByteArray) : but left nm (.string (bytes n)) = (left (.string (bytes n)) && decide (n ≠ nm)) := by
  simp only [but, Lit.sameKey]
  by_cases h : n = nm
  · simp [h]
  · have : bytes n ≠ bytes nm := fun e => h (bytes_inj e)
    simp [h, this]
theorem seen_rise {left : Lit → Bool} {t : Fl α} (h : Rising t) : Rising (seen left t) := List.Pairwise.filter _ h
theorem seen_step {left : Lit → Bool} {t : Fl α} (h : Rising t) {nm : ByteArray} {x : α} (hm : (nm, x) ∈ t) : seen (but left nm) t = withT (seen left t) nm x := by
  refine rising_ext (seen_rise h) (rising_with (seen_rise h) _ _) fun f => ?_
  rw [mem_with, mem_seen, mem_seen, but_eq]
  constructor
  · rintro ⟨hf, hl⟩
    by_cases e : f.1 = nm
    · exact .inl (rising_one h hf hm e)
    · simp [e] at hl; exact .inr ⟨⟨hf, hl⟩, e⟩
  · rintro (rfl | ⟨⟨hf, hl⟩, e⟩)
    · exact ⟨hm, by simp⟩
    · exact ⟨hf, by simp [hl]⟩
theorem seen_end {left : Lit → Bool} {t : Fl α} (h : ∀ kl, left kl = false) : seen left t = t := List.filter_eq_self.2 fun f _ => by simp [h]
theorem seen_map {β : Type} (left : Lit → Bool) (g : α → β) (t : Fl α) : seen left (mapT g t) = mapT g (seen left t) := by
  simp [seen, mapT, List.filter_map, Function.comp_def]
theorem seen_length (left : Lit → Bool) (t : Fl α) : (seen left t).length ≤ t.length := List.length_filter_le _ _
theorem seen_has {left : Lit → Bool} {t : Fl α} {nm : ByteArray} (h : left (.string (bytes nm)) = true) : hasT (seen left t) nm = false := hasT_no.2 fun f hf e => by
  have := (mem_seen.1 hf).2
  rw [e, h] at this; cases this
end

theorem seen_start (z : Fl Held) : seen (Maps.has (datum (mapT (·.1) z))) z = [] := List.filter_eq_nil_iff.2 fun f hf => by
  rw [has_datum, hasT_map, hasT_iff.2 ⟨f, hf, rfl⟩]; simp

/-- How many lines all files have. -/
def linesTr (t : Tr) : Nat := (t.map fun f => f.2.length).sum
theorem lines_parts (n : ByteArray) : ∀ u : Tr, (∀ f ∈ u, f.1 ≠ n) → linesTr (u.filter fun f => ltN f.1 n) + linesTr (u.filter fun f => ltN n f.1) = linesTr u
  | [], _ => rfl
  | f :: u, h => by
    have ih := lines_parts n u fun g hg => h g (List.mem_cons_of_mem _ hg)
    simp only [linesTr] at ih ⊢
    rcases ltN_total (h f List.mem_cons_self) with k | k
    · simp [k, ltN_asymm k]; omega
    · simp [k, ltN_asymm k]; omega
theorem lines_with {t : Tr} {n : ByteArray} (h : hasT t n = false) (l : List ByteArray) : linesTr (withT t n l) = linesTr t + l.length := by
  have h1 := lines_parts n t (hasT_no.1 h)
  unfold withT
  rw [without_id h]
  simp only [linesTr, List.map_append, List.sum_append, List.map_cons, List.sum_cons] at h1 ⊢
  omega
theorem lines_seen (left : Lit → Bool) : ∀ t : Tr, linesTr (seen left t) ≤ linesTr t
  | [] => Nat.le_refl _
  | f :: t => by
    have ih := lines_seen left t
    simp only [linesTr, seen, List.filter_cons, List.map_cons, List.sum_cons] at ih ⊢
    split
    · simp only [List.map_cons, List.sum_cons]; omega
    · omega

/-- The range under way over the files z; its iterator is block r. -/
structure Ranging (w : World) (B r : Nat) (z : Fl Held) (left : Lit → Bool) (cnt : Nat) : Prop where
  at_ : w.ranges Tryz.prog 9 raw B r z.length (datum (mapT (·.1) z)) left cnt
  rise : Rising z
  reads : ∀ f ∈ z, Reads w f.2.1 f.2.2

theorem iter_cell {w : World} {B r n cnt : Nat} {D : DataW Value} {left : Lit → Bool} (h : w.ranges Tryz.prog 9 raw B r n D left cnt) {a : Addr} {u : Value} (hc : w.cell? a = some u) : a.block ≠ r := by
  obtain ⟨es, clock, since, sn, c0, _, _, _, _, hr, _⟩ := h
  rintro rfl
  simp [World.cell?, hr] at hc

theorem Ranging.files {w : World} {B r cnt : Nat} {z : Fl Held} {left : Lit → Bool} (h : Ranging w B r z left cnt) : FA w B z := ⟨h.at_.owns, h.rise, h.reads⟩
theorem Ranging.later {w w' : World} {B r cnt : Nat} {z : Fl Held} {left : Lit → Bool} (h : Ranging w B r z left cnt) (hl : Later w w') : Ranging w' B r z left cnt :=
  ⟨h.at_.kept (row := none) ⟨hl.os, hl.tape, hl.output, hl.size, fun i hi _ => hl.block i hi⟩ (by simp) (by simp), h.rise, fun f hf => (h.reads f hf).later hl⟩
theorem Ranging.other {w w' : World} {B B' r cnt : Nat} {z : Fl Held} {left : Lit → Bool} (h : Ranging w B r z left cnt) (hg : Turned B' w w') (hne : B ≠ B') {es : Array MapEntry} {c : Nat} (hm : w.heap[B']? = some (.map es c)) : Ranging w' B r z left cnt := by
  refine ⟨h.at_.kept hg (by simpa using hne) ?_, h.rise, fun f hf => (h.reads f hf).turned hg hm⟩
  obtain ⟨es', clock, since, sn, c0, _, _, _, _, hr, _⟩ := h.at_
  intro e
  cases e
  rw [hm] at hr; cases hr

section
variable {w : World} {ops : Array Oper} {rest : List Oper} {o : Oper} {a : Act} {Q : Exit → Act → World → Prop}

/-- 'range' over the files. -/
theorem wpList_range_files (hg : o.guard = none) (m : Operand) (hop : o.op = Op.range 73 m) (B : Nat) (z : Fl Held) (hm : a.eval m = .map (some B)) (h : FA w B z)
    (hK : ∀ w', Ranging w' B w.heap.size z (Maps.has (datum (mapT (·.1) z))) z.length → Later w w' → wpList Tryz.prog ops Q rest (a.put o.dst (.pointer (some ⟨w.heap.size, 0, none⟩))) w') :
    wpList Tryz.prog ops Q (o :: rest) a w := by
  refine wpList_range_own _ hg m _ hop 9 45 keyed9 Tryz.underlying73 raw B z.length _ hm h.own fun w' h1 h2 h3 => ?_
  have hl : Later w w' := ⟨h2.os, h2.tape, h2.output, h2.size, fun i hi => h2.block i hi (by simp)⟩
  rw [size_datum, mapT_length] at h1
  exact hK w' ⟨h1, h.rise, fun f hf => (h.reads f hf).later hl⟩ hl

/-- The step: nothing is left, or a file has come. -/
theorem wpList_next_files (hg : o.guard = none) (it : Operand) (hop : o.op = Op.next it false) (B r : Nat) (z : Fl Held) (left : Lit → Bool) (cnt : Nat) (hit : a.eval it = .pointer (some ⟨r, 0, none⟩)) (h : Ranging w B r z left cnt)
    (hDone : (∀ kl, left kl = false) → wpList Tryz.prog ops Q rest (a.put o.dst (.tuple #[.bool false])) w)
    (hMore : ∀ (nm : ByteArray) (A : Option Addr) (m c : Nat) (l : List ByteArray) (w' : World) (cnt' : Nat), (nm, (Value.slice A m c, l)) ∈ z → nm.size ≤ maxLen → m ≤ c → Row w' A m l → left (.string (bytes nm)) = true → Ranging w' B r z (but left nm) cnt' → cnt' < cnt → Turned r w w' →
      (Instr.entry (.pointer (some ⟨r, 0, none⟩))).run Tryz.prog w' = .ok (.tuple #[.string nm, .slice A m c]) w' → wpList Tryz.prog ops Q rest (a.put o.dst (.tuple #[.bool true, .string nm, .slice A m c])) w') :
    wpList Tryz.prog ops Q (o :: rest) a w := by
  refine wpList_plain hg fun K' hK' => ?_
  unfold Oper.wp
  rcases h.at_.next keyed9 o.type with ⟨h0, hl, hrun⟩ | ⟨key, v, kl, y, w', cnt', hkey, hlk, hv, hat, hrun, hrg, hlt, hgr, hsz, hen⟩
  · simp [execOp, hop, hit, hrun, Result.andThen]
    exact hK' _ _ (hDone hl)
  · obtain ⟨s, rfl, rfl, hs⟩ : ∃ s : ByteArray, key = .string s ∧ kl = .string (bytes s) ∧ s.size ≤ maxLen := by
      cases key <;> simp [keyOf, Tryz.underlying9, mapKey] at hkey
      rename_i s
      exact ⟨s, rfl, hkey.2.symm, hkey.1⟩
    obtain ⟨A, m, c, rfl, rfl⟩ := raw_inv hv
    have hz := hat .nil
    rw [atKey_datum, getT_map] at hz
    cases hg2 : getT z s with
    | none => rw [hg2] at hz; simp at hz
    | some x =>
      rw [hg2] at hz
      simp only [Option.map_some, DataW.held.injEq] at hz
      obtain ⟨v, l⟩ := x
      simp only at hz
      subst hz
      have hmem := getT_mem hg2
      obtain ⟨A', m', c', e, hmc, hrow⟩ := h.reads _ hmem
      simp only [Value.slice.injEq] at e
      obtain ⟨rfl, rfl, rfl⟩ := e
      have keep : ∀ {A : Option Addr} {n : Nat} {l : List ByteArray}, Row w A n l → Row w' A n l := fun {A n l} hr =>
        ⟨hr.1, fun hn => by
          obtain ⟨b, o, e, hc⟩ := hr.2 hn
          exact ⟨b, o, e, fun j s hs => Turned.cell (B := r) hgr (hc j s hs) (iter_cell h.at_ (hc j s hs))⟩⟩
      simp [execOp, hop, hit, hrun, Result.andThen]
      refine hK' _ _ (hMore s A m c l w' cnt' hmem hs hmc (keep hrow) hlk ⟨hrg, h.rise, fun f hf => ?_⟩ hlt hgr hen)
      obtain ⟨A1, m1, c1, e1, h1, h2⟩ := h.reads f hf
      exact ⟨A1, m1, c1, e1, h1, keep h2⟩
end

end Go.Proofs.YtbhnbkcokhfopaaGreat

/-
  What tree's Many comes to, as a call.
-/
namespace Go.Proofs.YtbhnbkcokhfopaaGreat
open Go.RowKit Go.Maps

/-- Two numbers. -/
def Gives2 (a b : Int) (w : World) (e : Ending) (w' : World) : Prop := e = .returned (.tuple #[.int .i64 a, .int .i64 b]) ∧ Later w w'

end Go.Proofs.YtbhnbkcokhfopaaGreat

/-
  What tree's Copy comes to, as a call.
-/
namespace Go.Proofs.YtbhnbkcokhfopaaGreat
open Go.RowKit Go.Maps

set_option maxRecDepth 100000 in
set_option maxHeartbeats 800000 in
theorem copy_any (p B : Nat) (t : Tr) (w : World) (ht : TreeAt w p B t) (hl : t.length ≤ 65536) (hb : ∀ f ∈ t, f.2.length ≤ 65536) :
    Calls Tryz.prog 12 #[.pointer (some ⟨p, 0, none⟩)] w (NewTree t w) := by
  obtain ⟨hc, z, hz, rfl⟩ := ht
  rw [mapT_length] at hl
  have HZ := Lib.hid hz
  have hBlt := hz.lt
  have HB := Lib.hid hb; clear hz hb
  go_enter Tryz.func12, Tryz.ntmps12
  go_wp2_with fail
  refine (new_any w).mono ?_
  rintro e w1 ⟨p1, B1, rfl, ht1, hp1, hB1, hl1⟩
  have hc1 := hl1.cell hc
  have hcell1 := ht1.cell
  have hne1 := ht1.ne
  have hp1lt := ht1.lt
  have HT1 := Lib.hid ht1; have HL1 := Lib.hid hl1; clear ht1
  have hle1 := hl1.le
  clear hl1
  go_wp2_with (at_range; refine wpList_range_files rfl _ rfl B z rfl (HZ.out.later HL1.out) ?_; intro w2 hrg2 hl2; have HR2 := Lib.hid hrg2; have HL2 := Lib.hid hl2; clear hrg2 hl2)
  go_frame
  go_loopg [] (z.length + 1) (fun g wr => ∃ (left : Lit → Bool) (cnt : Nat), cnt ≤ g ∧ Later w wr ∧ Hid (TreeAt wr p1 B1 (seen left (mapT (·.2) z))) ∧ Hid (Ranging wr B w1.heap.size z left cnt))
  case atStart =>
    refine ⟨_, _, Nat.le_succ _, HL1.out.trans HL2.out, ?_, HR2.out⟩
    have := HT1.out.later HL2.out
    rw [seen_map, seen_start]
    exact this
  case round =>
    obtain ⟨left, cnt, hcg, hwr, hct, hrg⟩ := hrel
    have hcellr := hct.out.cell
    have hle := hwr.le
    have HW := Lib.hid hwr; clear hwr
    go_wp2_with (at_next; refine wpList_next_files rfl _ rfl B w1.heap.size z left cnt rfl hrg.out ?_ ?_)
    · intro hdone
      have E : Hid (seen left (mapT (·.2) z) = mapT (·.2) z) := by rw [seen_end hdone]; rfl
      rw [E.out] at hct
      clear hdone E
      go_wp2
      go_ret
      exact ⟨p1, B1, rfl, hct.out, hp1, hB1, HW.out⟩
    · intro nm A m c l w' cnt' hmem hnm hmc hrow hlk hrg' hlt hturn hen
      have hmem2 : (nm, l) ∈ mapT (·.2) z := by simp only [mapT, List.mem_map]; exact ⟨_, hmem, rfl⟩
      have hm : m ≤ 65536 := by rw [← hrow.len]; exact HB.out _ hmem2
      have HS := Lib.hid (seen_step (left := left) (rising_map.2 hrg'.rise) hmem2)
      have hct' : TreeAt w' p1 B1 (seen left (mapT (·.2) z)) := by
        obtain ⟨h1, z1, h2, h3⟩ := hct.out
        have hit : B1 ≠ w1.heap.size := by have := HT1.out.files.lt; omega
        exact ⟨hturn.cell h1 (by show p1 ≠ w1.heap.size; omega), z1, ⟨h2.own.kept hturn (by simpa using hit), h2.rise, fun f hf => by
          obtain ⟨A2, m2, c2, e2, h4, h5⟩ := h2.reads f hf
          exact ⟨A2, m2, c2, e2, h4, h5.1, fun hn => by
            obtain ⟨b, o, e, hcc⟩ := h5.2 hn
            exact ⟨b, o, e, fun j s hs => hturn.cell (hcc j s hs) (iter_cell hrg.out.at_ (hcc j s hs))⟩⟩⟩, h3⟩
      have hcell' := hct'.cell
      have HCT := Lib.hid hct'
      have HRW := Lib.hid hrow
      have HRG := Lib.hid hrg'; have HT := Lib.hid hturn
      have hlw : Later w w' := HW.out.turn hturn hle1
      have HLW := Lib.hid hlw
      have HNM := Lib.hid hnm
      have hzl : Hid ((seen left z).length < maxLen) := by have := seen_length left z; simp only [Hid, maxLen]; omega
      clear hct' hrow hmem hlk hrg' hturn hmem2 hlw hct hrg hnm
      go_wp2_with fail
      go_region_held3 (fun w' => w'.cell? ⟨p1, 0, none⟩ = some (.map (some B1))) (go_keep)
        (first
          | (go_at_call 33; refine (clone_any A m c l _ (HRW.out.later (by first | exact Later.refl _ | exact (Later.refl _).drew | exact (Later.refl _).drewN _)) hm).mono ?_; rintro e w3 ⟨v3, rfl, hown⟩; have HL3 : Hid (Later w' w3) := Later.trans (by first | exact Later.refl _ | exact (Later.refl _).drew | exact (Later.refl _).drewN _) hown.later; have hc3 := HL3.out.cell hcell'; obtain ⟨A3, c3, rfl, hcc, hr3⟩ := hown.row; have HR := Lib.hid hr3; have H3 := HCT.out.later HL3.out; obtain ⟨-, z3, hz3, e3⟩ := H3; have hzl3 : z3.length < maxLen := (by have h9 := hzl.out; rw [← mapT_length (fun x : Held => x.2) z3, e3, seen_map, mapT_length]; exact h9); obtain ⟨w4, hrun4, hown4, hturn4⟩ := hz3.own.store keyed9 Tryz.underlying73 hzl3 (key9 HNM.out) (raw_mk A3 l.length c3); have HO4 := Lib.hid (hz3.put hown4 hturn4 ⟨A3, _, c3, rfl, hcc, hr3⟩); have HU4 := Lib.hid (Turned.of_map hturn4); have hc4 := HU4.out.cell hc3 hne1; have HM3 := Lib.hid hz3.map; have HE3 := Lib.hid e3; clear hown hr3 hown4 hturn4 hz3 hzl3 e3))
      go_wp2
      go_roundg cnt'
      case measure => omega
      case rel =>
        obtain ⟨mes, mcl, hmm⟩ := HM3.out
        refine ⟨but left nm, cnt', Nat.le_refl _, (HLW.out.trans HL3.out).turn HU4.out hB1, ?_, (HRG.out.later HL3.out).other HU4.out (by omega) hmm⟩
        refine (HCT.out.later HL3.out).to HU4.out ⟨_, HO4.out, ?_⟩
        rw [HS.out, ← HE3.out]
        exact (withT_map (fun x : Held => x.2) z3 nm (_, l)).symm

end Go.Proofs.YtbhnbkcokhfopaaGreat
