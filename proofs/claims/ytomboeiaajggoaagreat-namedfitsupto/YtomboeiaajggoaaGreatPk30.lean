import Derived.Test.YtomboeiaajggoaaGreatPk29
import Derived.Test.YtomboeiaajggoaaGreatPk7
import Derived.Test.YtomboeiaajggoaaGreatPk5
import Derived.Test.YtomboeiaajggoaaGreatPk18

/-
  What the document's Do comes to, as a call: Put, and all kinds together.
-/
namespace Go.Proofs.YtomboeiaajggoaaGreat
open Go.RowKit Go.Maps

section
variable (A : Option Addr) (n c : Nat) (z : Fl Held) (nm to : ByteArray) (Al : Option Addr) (nl cl : Nat) (l : List ByteArray) (w : World)

set_option maxRecDepth 100000 in
set_option maxHeartbeats 800000 in
theorem refDo3 (hx : RefRow w A n z) (hc : n ≤ c) (hn : n ≤ 65536) (hl : Row w Al nl l) (hnl : nl ≤ 65536) (hb : ∀ s ∈ l, s.size ≤ maxLen) :
    Calls Tryz.prog 43 #[.slice A n c, .agg #[.int .i64 3, .string nm, .string to, .slice Al nl cl]] w (GivesDo (putT (mapT (·.2) z) nm l) w) := by
  have HX := Lib.hid hx
  have HG := Lib.hid (fun (w1 : World) (h : Later w w1) => refGet_any A n c z nm w1 (hx.later h) hn)
  have HA := Lib.hid (fun (w1 : World) (h : Later w w1) => refAll_any Al nl cl l w1 (hl.later h) hnl hb)
  have same : Hid (∀ (w1 : World) (k : Int), Later w w1 → GivesDo (mapT (·.2) z, k) w (.returned (.tuple #[.slice A n c, .int .i64 k])) w1) := fun w1 k h => ⟨_, rfl, ⟨A, n, c, z, rfl, hc, hx.later h, rfl⟩, h⟩
  have hlb : Later w (w.alloc (.cells #[.int .i64 3, .string nm, .string to, .slice Al nl cl] 85)) := (Later.refl w).alloc _
  have HLB := Lib.hid hlb
  have HLL := Lib.hid hl
  clear hlb hx hl hb
  cases h1 : hasT z nm
  · have E : Hid (putT (mapT (·.2) z) nm l = (mapT (·.2) z, 20)) := by simp [Hid, putT, hasT_map, h1]
    rw [E.out]
    rw [h1] at HG
    clear E h1
    go_enter Tryz.func43, Tryz.ntmps43
    go_wp2_with fail
    refine (HG.out _ HLB.out).mono ?_
    rintro e w1 ⟨rfl, rfl⟩
    generalize got (getT z nm) = gv
    go_wp2
    go_ret2
    exact same.out _ _ HLB.out
  · rw [h1] at HG
    cases h2 : allB l
    · have E : Hid (putT (mapT (·.2) z) nm l = (mapT (·.2) z, 1)) := by simp [Hid, putT, hasT_map, h1, h2]
      rw [E.out]
      rw [h2] at HA
      clear E h1 h2
      go_enter Tryz.func43, Tryz.ntmps43
      go_wp2_with fail
      refine (HG.out _ HLB.out).mono ?_
      rintro e w1 ⟨rfl, rfl⟩
      generalize got (getT z nm) = gv
      go_wp2_with fail
      refine (HA.out _ HLB.out).mono ?_
      rintro e w1 ⟨rfl, rfl⟩
      go_wp2
      go_ret2
      exact same.out _ _ HLB.out
    · have E : Hid (putT (mapT (·.2) z) nm l = (withT (mapT (·.2) z) nm l, 0)) := by simp [Hid, putT, hasT_map, h1, h2]
      rw [E.out]
      rw [h2] at HA
      obtain ⟨i0, hi, hz0, hz1, hz2⟩ := info_parts Tryz.textInfo
      have cb1 : (w.alloc (.cells #[.int .i64 3, .string nm, .string to, .slice Al nl cl] 85)).cell? ⟨w.heap.size, 1, none⟩ = some (.string nm) := by simp
      have cb2 : (w.alloc (.cells #[.int .i64 3, .string nm, .string to, .slice Al nl cl] 85)).cell? ⟨w.heap.size, 3, none⟩ = some (.slice Al nl cl) := by simp
      have CB := Lib.hid (And.intro cb1 cb2)
      clear E h1 h2 cb1 cb2
      go_enter Tryz.func43, Tryz.ntmps43
      go_wp2_with fail
      refine (HG.out _ HLB.out).mono ?_
      rintro e w1 ⟨rfl, rfl⟩
      generalize got (getT z nm) = gv
      go_wp2_with fail
      refine (HA.out _ HLB.out).mono ?_
      rintro e w1 ⟨rfl, rfl⟩
      generalize hbx : w.alloc (.cells #[.int .i64 3, .string nm, .string to, .slice Al nl cl] 85) = wb at HLB CB ⊢
      have HBX := Lib.hid hbx; clear hbx
      obtain ⟨cb1, cb2⟩ := CB.out
      have ne1 := World.new_ne wb _ cb1
      have ne2 := World.new_ne wb _ cb2
      go_wp2_with fail
      go_region_held3 (fun w' => w'.cell? ⟨w.heap.size, 1, none⟩ = some (.string nm) ∧ w'.cell? ⟨w.heap.size, 3, none⟩ = some (.slice Al nl cl)) (go_keep)
        (first
          | (go_at_call 69; refine (refWith_any A n c z nm A2 _ c2 l w2 (HX.out.later (HLB.out.trans HL2.out)) HR2.out hn).mono ?_; rintro e w3 ⟨A3, n3, c3, rfl, hc3, hr3, hl3⟩; have HL3 := Lib.hid hl3; have HR3 := Lib.hid hr3; have cd1 := HL3.out.cell cc1; have cd2 := HL3.out.cell cc2; clear hr3 hl3)
          | (refine step_append_row (w0 := wb) rfl _ _ 67 rfl i0 Tryz.underlying67 hi hz0 hz1 hz2 ((Own.empty (Later.refl wb)).drew) rfl Al nl cl l rfl (HLL.out.later (HLB.out.trans (((Later.refl wb).alloc _).drew))) (by simp; omega) ?_; intro v2 w2 hown2 hg2; have HL2 := Lib.hid hown2.later; obtain ⟨A2, c2, rfl, hcc2, hr2⟩ := hown2.row; have HR2 : Hid (Reads w2 (.slice A2 ([] ++ l).length c2) l) := ⟨A2, _, c2, rfl, hcc2, by simpa using hr2⟩; have cc1 := HL2.out.cell cb1; have cc2 := HL2.out.cell cb2; clear hown2 hg2 hr2))
      go_wp2
      go_ret2
      refine ⟨_, rfl, ⟨A3, n3, c3, _, rfl, hc3, HR3.out, ?_⟩, (HLB.out.trans HL2.out).trans HL3.out⟩
      rw [← withT_map (fun x : Held => x.2)]

end

/-- What is asked of a call that is handed in: its lines are there, and nothing is too long. -/
structure OpOk (w : World) (o : OpV) (Al : Option Addr) (nl : Nat) : Prop where
  row : Row w Al nl o.l
  most : nl ≤ 65536
  name : o.name.size ≤ maxLen
  to : o.to.size ≤ maxLen
  lines : ∀ s ∈ o.l, s.size ≤ maxLen
theorem OpOk.later {w w' : World} {o : OpV} {Al : Option Addr} {nl : Nat} (h : OpOk w o Al nl) (hl : Later w w') : OpOk w' o Al nl := ⟨h.row.later hl, h.most, h.name, h.to, h.lines⟩

/-- The value of a call. -/
def opVal (o : OpV) (Al : Option Addr) (nl cl : Nat) : Value := .agg #[.int .i64 o.kind, .string o.name, .string o.to, .slice Al nl cl]

theorem refDo_any (v : Value) (t : Tr) (o : OpV) (Al : Option Addr) (nl cl : Nat) (w : World) (ht : RefAt w v t) (ho : OpOk w o Al nl) (hl : t.length ≤ 65536) (hb : ∀ f ∈ t, f.2.length ≤ 65536) :
    Calls Tryz.prog 43 #[v, opVal o Al nl cl] w (GivesDo (doT t o) w) := by
  obtain ⟨A, n, c, z, rfl, hc, hr, rfl⟩ := ht
  have hn : n ≤ 65536 := by rw [mapT_length, hr.len] at hl; exact hl
  obtain ⟨kind, nm, to, l⟩ := o
  by_cases h0 : kind = 0
  · subst h0
    exact refDo0 A n c z nm to Al nl cl w hr hc hn ho.name
  by_cases h1 : kind = 1
  · subst h1
    exact refDo1 A n c z nm to Al nl cl w hr hc hn fun f hf => hb (f.1, f.2.2) (by simp only [mapT, List.mem_map]; exact ⟨_, hf, rfl⟩)
  by_cases h2 : kind = 2
  · subst h2
    exact refDo2 A n c z nm to Al nl cl w hr hc hn ho.to
  by_cases h3 : kind = 3
  · subst h3
    exact refDo3 A n c z nm to Al nl cl l w hr hc hn ho.row ho.most ho.lines
  have e : doT (mapT (·.2) z) ⟨kind, nm, to, l⟩ = (mapT (·.2) z, 0) := by simp [doT, h0, h1, h2, h3]
  rw [e]
  exact refDoElse A n c z nm to Al nl cl w kind h0 h1 h2 h3 hr hc hn

end Go.Proofs.YtomboeiaajggoaaGreat

/-
  The calls that are handed in, in memory: a row of calls, each a kind, two names and a row of lines.
-/
namespace Go.Proofs.YtomboeiaajggoaaGreat
open Go.RowKit Go.Maps

/-- A call, and where its lines stand. -/
structure OpC where
  v : OpV
  A : Option Addr
  n : Nat
  c : Nat

def opCells (o : OpC) : List Value := [.int .i64 o.v.kind, .string o.v.name, .string o.v.to, .slice o.A o.n o.c]

/-- What a call weighs. -/
def weight (o : OpV) : Nat := o.name.size + o.to.size + o.l.length + (o.l.map ByteArray.size).sum
def weightL (os : List OpC) : Nat := (os.map fun o => weight o.v).sum

/-- The slice reads as these calls. -/
structure Script (w : World) (A : Option Addr) (n : Nat) (os : List OpC) : Prop where
  row : RowK 4 w A n (os.map opCells)
  lines : ∀ o ∈ os, Row w o.A o.n o.v.l ∧ o.n ≤ o.c

section
variable {w w' : World} {A : Option Addr} {n : Nat} {os : List OpC}
theorem Script.len (h : Script w A n os) : os.length = n := by have := h.row.len; simpa using this
theorem Script.later (h : Script w A n os) (hl : Later w w') : Script w' A n os := ⟨h.row.later hl, fun o ho => ⟨(h.lines o ho).1.later hl, (h.lines o ho).2⟩⟩
theorem Script.get (h : Script w A n os) {j : Nat} (hj : j < n) : ∃ b o x, A = some ⟨b, o, .none⟩ ∧ os[j]? = some x ∧ w.cell? ⟨b, o + j * 4, .none⟩ = some (.int .i64 x.v.kind) ∧ w.cell? ⟨b, o + j * 4 + 1, .none⟩ = some (.string x.v.name) ∧ w.cell? ⟨b, o + j * 4 + 2, .none⟩ = some (.string x.v.to) ∧ w.cell? ⟨b, o + j * 4 + 3, .none⟩ = some (.slice x.A x.n x.c) := by
  obtain ⟨b, o, e, cs, hcs, _, hc⟩ := h.row.get hj
  have hl : j < os.length := by rw [h.len]; exact hj
  have hz := List.getElem?_eq_getElem hl
  simp only [List.getElem?_map, hz, Option.map_some, Option.some.injEq] at hcs
  subst hcs
  exact ⟨b, o, os[j], e, hz, hc 0 _ rfl, hc 1 _ rfl, hc 2 _ rfl, hc 3 _ rfl⟩
end

theorem weight_take {os : List OpC} {k : Nat} {o : OpC} (h : os[k]? = some o) : weightL (os.take (k + 1)) = weightL (os.take k) + weight o.v := by
  obtain ⟨hk, rfl⟩ := List.getElem?_eq_some_iff.1 h
  unfold weightL
  rw [List.take_succ_eq_append_getElem hk, List.map_append, List.sum_append]
  simp
theorem weight_take_le (os : List OpC) (k : Nat) : weightL (os.take k) ≤ weightL os := by
  have : weightL os = weightL (os.take k) + weightL (os.drop k) := by
    unfold weightL
    rw [← List.sum_append, ← List.map_append, List.take_append_drop]
  omega
theorem weight_mem {os : List OpC} {o : OpC} (h : o ∈ os) : weight o.v ≤ weightL os := by
  induction os with
  | nil => cases h
  | cons x os ih =>
    simp only [weightL, List.map_cons, List.sum_cons] at ih ⊢
    rcases List.mem_cons.1 h with rfl | h
    · omega
    · have := ih h; omega
theorem sizes_mem {l : List ByteArray} {s : ByteArray} (h : s ∈ l) : s.size ≤ (l.map ByteArray.size).sum := by
  induction l with
  | nil => cases h
  | cons x l ih =>
    simp only [List.map_cons, List.sum_cons]
    rcases List.mem_cons.1 h with rfl | h
    · omega
    · have := ih h; omega
theorem sizes_take {l : List ByteArray} {k : Nat} (h : k < l.length) : ((l.take (k + 1)).map ByteArray.size).sum = ((l.take k).map ByteArray.size).sum + (l.getD k ByteArray.empty).size := by
  rw [List.take_succ_eq_append_getElem h, List.map_append, List.sum_append]
  simp [List.getD, List.getElem?_eq_getElem h]
theorem sizes_take_le (l : List ByteArray) (k : Nat) : ((l.take k).map ByteArray.size).sum ≤ (l.map ByteArray.size).sum := by
  have : (l.map ByteArray.size).sum = ((l.take k).map ByteArray.size).sum + ((l.drop k).map ByteArray.size).sum := by
    rw [← List.sum_append, ← List.map_append, List.take_append_drop]
  omega

/-- What Few tells. -/
def fewN (n W : Nat) : Nat := if n ≤ 80 ∧ W ≤ 8000 then 0 else W + n

set_option maxRecDepth 100000 in
set_option maxHeartbeats 800000 in
theorem few_any (A : Option Addr) (n c : Nat) (os : List OpC) (w : World) (hx : Script w A n os) (hn : n ≤ 1048576) (hW : weightL os ≤ 1048576) :
    Calls Tryz.prog 23 #[.slice A n c] w fun e w' => e = .returned (.int .i64 (fewN n (weightL os) : Nat)) ∧ Later w w' := by
  have HX := Lib.hid hx; clear hx
  go_enter Tryz.func23, Tryz.ntmps23
  go_wp2
  go_loopg [3, 10] (n + 1) (fun g s3 s10 wr => ∃ k : Nat, k ≤ n ∧ n - k ≤ g ∧ s10 = .int .i64 k ∧ s3 = .int .i64 (weightL (os.take k) : Nat) ∧ Later w wr)
  case atStart => exact ⟨0, Nat.zero_le _, by omega, rfl, rfl, Later.refl w⟩
  case round =>
    obtain ⟨k, hk, hg, rfl, rfl, hwr⟩ := hrel
    by_cases hlt : k < n
    · obtain ⟨b, o, x, rfl, hz, g0, g1, g2, g3⟩ := (HX.out.later hwr).get hlt
      have hstep := weight_take hz
      have hle := weight_take_le os (k + 1)
      rw [hstep] at hle
      have hrow := (HX.out.lines x (List.mem_of_getElem? hz)).1
      have hlen := hrow.len
      have HW := Lib.hid hwr; have HROW := Lib.hid (hrow.later hwr)
      have hwt : weight x.v = x.v.name.size + x.v.to.size + x.n + (x.v.l.map ByteArray.size).sum := by unfold weight; rw [hlen]
      rw [hwt] at hle hstep
      have hle2 : weightL (os.take k) + x.v.name.size + x.v.to.size + x.n + (x.v.l.map ByteArray.size).sum ≤ 1048576 := by omega
      have HST := Lib.hid hstep
      clear hle hstep hwt hrow hwr hz
      generalize weightL (os.take k) = W0 at HST hle2 ⊢
      generalize x.v.name = nm at *
      generalize x.v.to = to at *
      generalize x.v.l = l at *
      generalize x.v.kind = kd at *
      generalize x.n = nl at *
      generalize x.A = Al at *
      generalize x.c = cl at *
      have hlb : Later wr (wr.alloc (.cells #[.int .i64 kd, .string nm, .string to, .slice Al nl cl] 85)) := (Later.refl wr).alloc _
      have HLB := Lib.hid hlb; clear hlb
      have HLEN := Lib.hid hlen; clear hlen
      go_wp2
      go_loopg [3, 30] (nl + 1) (fun g s3 s30 wx => ∃ j : Nat, j ≤ nl ∧ nl - j ≤ g ∧ s30 = .int .i64 j ∧ s3 = .int .i64 (W0 + nm.size + to.size + nl + ((l.take j).map ByteArray.size).sum : Nat) ∧ wx = wr.alloc (.cells #[.int .i64 kd, .string nm, .string to, .slice Al nl cl] 85))
      case atStart => exact ⟨0, Nat.zero_le _, by omega, rfl, by simp; go_num, rfl⟩
      case round =>
        obtain ⟨j, hj, hgj, rfl, rfl, rfl⟩ := hrel
        by_cases hjl : j < nl
        · obtain ⟨b1, o1, rfl, g4⟩ := (HROW.out.later HLB.out).get hjl
          have h1 := sizes_take (l := l) (k := j) (by rw [HLEN.out]; exact hjl)
          have h2 := sizes_take_le l (j + 1)
          rw [h1] at h2
          have H1 := Lib.hid h1; clear h1
          generalize l.getD j ByteArray.empty = sx at *
          generalize ((l.take j).map ByteArray.size).sum = S at *
          go_wp2
          go_roundg (nl - (j + 1))
          case measure => omega
          case rel => exact ⟨j + 1, by omega, Nat.le_refl _, by go_num, by rw [H1.out]; go_num, rfl⟩
        · have e : l.take j = l := List.take_of_length_le (by rw [HLEN.out]; omega)
          rw [e]
          clear e
          go_wp2
          go_roundg (n - (k + 1))
          case measure => omega
          case rel => exact ⟨k + 1, by omega, Nat.le_refl _, by go_num, by rw [HST.out]; go_num, HW.out.trans HLB.out⟩
    · have e : os.take k = os := List.take_of_length_le (by rw [HX.out.len]; omega)
      rw [e]
      have HW := Lib.hid hwr
      clear e hwr
      by_cases h1 : n ≤ 80
      · have d1 : decide ((n : Int) ≤ 80) = true := by simp; omega
        by_cases h2 : weightL os ≤ 8000
        · have d2 : decide ((weightL os : Int) ≤ 8000) = true := by simp; omega
          have E : Hid (fewN n (weightL os) = 0) := by simp [Hid, fewN, h1, h2]
          go_wp2
          go_ret
          exact ⟨by rw [E.out]; rfl, HW.out⟩
        · have d2 : decide ((weightL os : Int) ≤ 8000) = false := by simp; omega
          have E : Hid (fewN n (weightL os) = weightL os + n) := by simp [Hid, fewN, h2]
          go_wp2
          go_ret
          exact ⟨by rw [E.out]; go_num, HW.out⟩
      · have d1 : decide ((n : Int) ≤ 80) = false := by simp; omega
        have E : Hid (fewN n (weightL os) = weightL os + n) := by simp [Hid, fewN, h1]
        go_wp2
        go_ret
        exact ⟨by rw [E.out]; go_num, HW.out⟩

theorem few_zero {n W : Nat} : fewN n W = 0 ↔ n ≤ 80 ∧ W ≤ 8000 := by
  unfold fewN
  split
  · simp [*]
  · constructor
    · intro h; omega
    · intro h; contradiction

/-- What is asked of calls that come in. -/
structure CameS (w : World) (A : Option Addr) (n : Nat) (os : List OpC) : Prop where
  script : Script w A n os
  many : n ≤ 1048576
  weigh : weightL os ≤ 1048576
theorem CameS.later {w w' : World} {A : Option Addr} {n : Nat} {os : List OpC} (h : CameS w A n os) (hl : Later w w') : CameS w' A n os := ⟨h.script.later hl, h.many, h.weigh⟩

end Go.Proofs.YtomboeiaajggoaaGreat

/-
  Calls that come in: from what is read as data to what the laws ask.
-/
namespace Go.Proofs.YtomboeiaajggoaaGreat
open Go.ChangeShapes Go.WideShapes Go.ChangeAt Go.RowKit Go.Deep

theorem bulk_range {H : Type} (D : Nat → DataW H) : ∀ (n : Nat) (os : List OpC), os.length = n → (∀ (i : Nat) x, os[i]? = some x → weight x.v + 1 ≤ Rows.uptoBulk (D i)) → weightL os + n ≤ Rows.uptoBulkAll ((List.range n).map D)
  | 0, os, h, _ => by
    have : os = [] := List.eq_nil_of_length_eq_zero h
    subst this; simp [weightL]
  | n + 1, os, h, hw => by
    have key : ∀ (l r : List (DataW H)), Rows.uptoBulkAll (l ++ r) = Rows.uptoBulkAll l + Rows.uptoBulkAll r := fun l r => by
      induction l with
      | nil => simp [Rows.uptoBulkAll]
      | cons x l ih => simp only [List.cons_append, Rows.uptoBulkAll, ih]; omega
    have ih := bulk_range D n (os.take n) (by rw [List.length_take]; omega) (fun i x hx => hw i x (by
      have hi : i < n := by have := (List.getElem?_eq_some_iff.1 hx).1; rw [List.length_take] at this; omega
      rwa [List.getElem?_take_of_lt hi] at hx))
    have hz : os[n]? = some (os[n]'(by omega)) := List.getElem?_eq_getElem (by omega)
    have h1 := hw n _ hz
    have h2 := weight_take hz
    rw [show os.take (n + 1) = os from List.take_of_length_le (by omega)] at h2
    rw [List.range_succ, List.map_append, key]
    simp only [List.map_cons, List.map_nil, Rows.uptoBulkAll]
    omega

def opFields : Array Field := #[{ name := "Kind", type := 3, offset := 0, embedded := false, tag := "", pkgPath := "", byteOffset := 0 }, { name := "Name", type := 9, offset := 1, embedded := false, tag := "", pkgPath := "", byteOffset := 8 }, { name := "To", type := 9, offset := 2, embedded := false, tag := "", pkgPath := "", byteOffset := 24 }, { name := "L", type := 67, offset := 3, embedded := false, tag := "", pkgPath := "", byteOffset := 40 }]
theorem Tryz.opOne : oneCellFields Tryz.prog opFields = true := by kernel_rfl
theorem Tryz.opCells4 : Tryz.prog.cellsOf 85 = opFields.size := by kernel_rfl

/-- Calls that came in, nil or not. -/
theorem came_script {H : Type} {enc : TypeId × Value → H} {W : World} {v : Value} {fuel : Nat} {x : DataW H × List MemPlace}
    (hf : DataW.trod enc Tryz.prog W 0 (fun _ => true) true fuel 54 [v] = some x) (hb : Rows.uptoBulk x.1 ≤ 1048576) : ∃ A n c os, v = .slice A n c ∧ CameS W A n os := by
  rcases open_slice_fields (fs := opFields) Tryz.underlying54 Tryz.underlying85 Tryz.opOne Tryz.opCells4 hf with ⟨hcs, hx⟩ | ⟨a, len, cap, m, D, Pl, hcs, hl, hm, hx, hi⟩
  · simp at hcs
    exact ⟨none, 0, 0, [], hcs, ⟨RowK.none, (fun o ho => by cases ho)⟩, Nat.zero_le _, by simp [weightL]⟩
  · simp only [if_true] at hm
    have hsz : opFields.size = 4 := rfl
    have hel : ∀ i, i < len → ∃ o : OpC, (∀ (j : Nat) u, (opCells o)[j]? = some u → W.cell? (a.add (i * 4 + j)) = some u) ∧ Row W o.A o.n o.v.l ∧ o.n ≤ o.c ∧ weight o.v + 1 ≤ Rows.uptoBulk (D i) := fun i hil => by
      obtain ⟨ys, n, hD, hyl, hfld⟩ := hi i (by omega)
      obtain ⟨v0, y0, c0, e0, t0⟩ := hfld 0 _ rfl
      obtain ⟨v1, y1, c1, e1, t1⟩ := hfld 1 _ rfl
      obtain ⟨v2, y2, c2, e2, t2⟩ := hfld 2 _ rfl
      obtain ⟨v3, y3, c3, e3, t3⟩ := hfld 3 _ rfl
      obtain ⟨kd, hk, _, _⟩ := DataW.trod_int Tryz.underlying3 t0
      obtain ⟨s1, hs1, hy1, _⟩ := DataW.trod_string Tryz.underlying9 t1
      obtain ⟨s2, hs2, hy2, _⟩ := DataW.trod_string Tryz.underlying9 t2
      obtain ⟨Al, nl, cl, l, hv3, hnc, hrow, hwl⟩ := came_lines t3
      simp only [List.cons.injEq, and_true] at hk hs1 hs2
      subst hk hs1 hs2 hv3
      rw [hsz] at c0 c1 c2 c3 hyl
      refine ⟨⟨⟨kd, s1, s2, l⟩, Al, nl, cl⟩, fun j u hj => ?_, hrow, hnc, ?_⟩
      · simp only [opCells] at hj
        match j, hj with
        | 0, hj => simp at hj; subst hj; exact c0
        | 1, hj => simp at hj; subst hj; exact c1
        | 2, hj => simp at hj; subst hj; exact c2
        | 3, hj => simp at hj; subst hj; exact c3
        | j + 4, hj => simp at hj
      · match ys, hyl, e0, e1, e2, e3 with
        | [z0, z1, z2, z3], _, e0, e1, e2, e3 =>
          simp only [List.getElem?_cons_zero, List.getElem?_cons_succ, Option.some.injEq] at e0 e1 e2 e3
          subst e0 e1 e2 e3
          rw [hD]
          simp only [List.map_cons, List.map_nil, Rows.uptoBulk, Rows.uptoBulkAll]
          rw [hy1, hy2]
          simp only [Rows.uptoBulk, weight]
          have l1 : s1.data.toList.length = s1.size := by rw [Array.length_toList]; rfl
          have l2 : s2.data.toList.length = s2.size := by rw [Array.length_toList]; rfl
          omega
    obtain ⟨os, hol, hoq⟩ := list_of len hel
    have hwt := bulk_range D len os hol fun i o ho => (hoq i o ho).2.2.2
    have hbk : Rows.uptoBulkAll ((List.range len).map D) ≤ 1048576 := by
      subst hx
      simp only [Rows.uptoBulk] at hb
      omega
    simp at hcs
    have hmem : ∀ o ∈ os, Row W o.A o.n o.v.l ∧ o.n ≤ o.c := fun o ho => by
      obtain ⟨i, hio⟩ := List.getElem?_of_mem ho
      have := hoq i o hio
      exact ⟨this.2.1, this.2.2.1⟩
    refine ⟨some a, len, cap, os, hcs, ⟨⟨by simp [hol], fun cs hcs => ?_, fun h0 => ?_⟩, fun o ho => hmem o ho⟩, by omega, by omega⟩
    · obtain ⟨o, _, rfl⟩ := List.mem_map.1 hcs
      rfl
    · obtain ⟨b, off, spot⟩ := a
      have h00 := (hoq 0 (os[0]'(by omega)) (List.getElem?_eq_getElem (by omega))).1 0 _ rfl
      have hspot : spot = none := by simpa [Addr.add] using World.cell?_spot h00
      subst hspot
      refine ⟨b, off, rfl, fun j i cs u hj hi => ?_⟩
      rw [List.getElem?_map] at hj
      obtain ⟨o, ho, rfl⟩ := Option.map_eq_some_iff.1 hj
      have := (hoq j o ho).1 i u hi
      rw [plain_add, ← Nat.add_assoc] at this
      exact this

end Go.Proofs.YtomboeiaajggoaaGreat

/-
  Prims that come in: from what is read as data to what the laws ask.
-/
namespace Go.Proofs.YtomboeiaajggoaaGreat
open Go.ChangeShapes Go.WideShapes Go.ChangeAt Go.RowKit Go.Deep

def primFields : Array Field := #[{ name := "Kind", type := 3, offset := 0, embedded := false, tag := "", pkgPath := "", byteOffset := 0 }, { name := "Name", type := 9, offset := 1, embedded := false, tag := "", pkgPath := "", byteOffset := 8 }, { name := "To", type := 9, offset := 2, embedded := false, tag := "", pkgPath := "", byteOffset := 24 }, { name := "At", type := 3, offset := 3, embedded := false, tag := "", pkgPath := "", byteOffset := 40 }, { name := "Old", type := 67, offset := 4, embedded := false, tag := "", pkgPath := "", byteOffset := 48 }, { name := "New", type := 67, offset := 5, embedded := false, tag := "", pkgPath := "", byteOffset := 72 }]
theorem Tryz.primOne : oneCellFields Tryz.prog primFields = true := by kernel_rfl
theorem Tryz.primCells6 : Tryz.prog.cellsOf 114 = primFields.size := by kernel_rfl

/-- Six fields make a prim. -/
theorem prim_of {H : Type} {enc : TypeId × Value → H} {W : World} {fuel : Nat} {ys : List (DataW H × List MemPlace)} {Q : Nat → Value → Prop} (hyl : ys.length = 6)
    (hfld : ∀ (j : Nat) (f : Field), primFields[j]? = some f → ∃ (v : Value) (y : DataW H × List MemPlace), Q j v ∧ ys[j]? = some y ∧ DataW.trod enc Tryz.prog W 0 (fun _ => true) true fuel f.type [v] = some y) :
    ∃ x : PrC, (∀ (j : Nat) u, (prL x)[j]? = some u → Q j u) ∧ Row W x.A x.n x.v.old ∧ Row W x.B x.m x.v.new ∧ x.n ≤ x.c ∧ x.m ≤ x.d ∧ -9223372036854775808 ≤ x.v.place ∧ x.v.place ≤ 9223372036854775807 ∧ weightP x.v + 1 ≤ Rows.uptoBulk (.agg (ys.map (·.1))) := by
  obtain ⟨v0, y0, c0, e0, t0⟩ := hfld 0 _ rfl
  obtain ⟨v1, y1, c1, e1, t1⟩ := hfld 1 _ rfl
  obtain ⟨v2, y2, c2, e2, t2⟩ := hfld 2 _ rfl
  obtain ⟨v3, y3, c3, e3, t3⟩ := hfld 3 _ rfl
  obtain ⟨v4, y4, c4, e4, t4⟩ := hfld 4 _ rfl
  obtain ⟨v5, y5, c5, e5, t5⟩ := hfld 5 _ rfl
  obtain ⟨kd, hk, _, _⟩ := DataW.trod_int Tryz.underlying3 t0
  obtain ⟨s1, hs1, hy1, _⟩ := DataW.trod_string Tryz.underlying9 t1
  obtain ⟨s2, hs2, hy2, _⟩ := DataW.trod_string Tryz.underlying9 t2
  obtain ⟨pl, hp, _, hwf⟩ := DataW.trod_int Tryz.underlying3 t3
  obtain ⟨Al, nl, cl, l, hv4, hnc, hrow, hwl⟩ := came_lines t4
  obtain ⟨Bl, ml, dl, r, hv5, hmd, hrow2, hwr⟩ := came_lines t5
  simp only [List.cons.injEq, and_true] at hk hs1 hs2 hp
  subst hk hs1 hs2 hp hv4 hv5
  have hwf' : -9223372036854775808 ≤ pl ∧ pl ≤ 9223372036854775807 := by
    simp only [Lit.wf, Bool.and_eq_true, decide_eq_true_eq] at hwf
    exact hwf
  refine ⟨⟨⟨kd, s1, s2, pl, l, r⟩, Al, nl, cl, Bl, ml, dl⟩, fun j u hj => ?_, hrow, hrow2, hnc, hmd, hwf'.1, hwf'.2, ?_⟩
  · simp only [prL] at hj
    match j, hj with
    | 0, hj => simp at hj; subst hj; exact c0
    | 1, hj => simp at hj; subst hj; exact c1
    | 2, hj => simp at hj; subst hj; exact c2
    | 3, hj => simp at hj; subst hj; exact c3
    | 4, hj => simp at hj; subst hj; exact c4
    | 5, hj => simp at hj; subst hj; exact c5
    | j + 6, hj => simp at hj
  · match ys, hyl, e0, e1, e2, e3, e4, e5 with
    | [z0, z1, z2, z3, z4, z5], _, e0, e1, e2, e3, e4, e5 =>
      simp only [List.getElem?_cons_zero, List.getElem?_cons_succ, Option.some.injEq] at e0 e1 e2 e3 e4 e5
      subst e0 e1 e2 e3 e4 e5
      simp only [List.map_cons, List.map_nil, Rows.uptoBulk, Rows.uptoBulkAll]
      rw [hy1, hy2]
      simp only [Rows.uptoBulk, weightP]
      have l1 : s1.data.toList.length = s1.size := by rw [Array.length_toList]; rfl
      have l2 : s2.data.toList.length = s2.size := by rw [Array.length_toList]; rfl
      omega

/-- A prim that came in. -/
theorem came_prim {H : Type} {enc : TypeId × Value → H} {W : World} {cs : Array Value} {fuel : Nat} {x : DataW H × List MemPlace}
    (hf : DataW.trod enc Tryz.prog W 0 (fun _ => true) true fuel 114 (Value.agg cs).cells.toList = some x) (hb : Rows.uptoBulk x.1 ≤ 1048576) : ∃ y, Value.agg cs = prV y ∧ CameP W y := by
  obtain ⟨ys, n', _, hy, hcl, hyl, hfl⟩ := DataW.trod_struct (fs := primFields) Tryz.underlying114 hf
  rw [Tryz.primCells6] at hcl
  have hsz : primFields.size = 6 := rfl
  rw [hsz] at hcl hyl
  have hcs : (Value.agg cs).cells.toList = cs.toList := rfl
  rw [hcs] at hcl hfl
  obtain ⟨y, h1, h2, h3, h4, h5, h6, h7, h8⟩ := prim_of (W := W) (enc := enc) (fuel := n') (Q := fun j v => cs.toList[j]? = some v) hyl fun j f hj => by
    obtain ⟨ho, hk⟩ := hone_of Tryz.primOne j f hj
    have hjl : j < 6 := (Array.getElem?_eq_some_iff.1 hj).1
    have hv : cs.toList[j]? = some (cs.toList[j]'(by omega)) := List.getElem?_eq_getElem (by omega)
    have h1 := hfl j f hj
    rw [ho, hk] at h1
    have hone' : (cs.toList.drop j).take 1 = [cs.toList[j]'(by omega)] := by
      rw [List.drop_eq_getElem_cons (by omega)]
      rfl
    rw [hone'] at h1
    have hys : ys[j]? = some (ys[j]'(by omega)) := List.getElem?_eq_getElem (by omega)
    exact ⟨_, _, hv, hys, h1.trans hys⟩
  subst hy
  dsimp only at hb
  refine ⟨y, ?_, h2, h3, h4, h5, h6, h7, by omega⟩
  have : cs.toList = prL y := by
    refine List.ext_getElem? fun j => ?_
    by_cases hj : j < 6
    · have hjl : (prL y)[j]? = some ((prL y)[j]'hj) := List.getElem?_eq_getElem hj
      rw [hjl, h1 j _ hjl]
    · rw [List.getElem?_eq_none (by omega), List.getElem?_eq_none (by show 6 ≤ j; omega)]
  unfold prV
  congr 1
  exact Array.ext' this

theorem bulkP_range {H : Type} (D : Nat → DataW H) : ∀ (n : Nat) (xs : List PrC), xs.length = n → (∀ (i : Nat) x, xs[i]? = some x → weightP x.v + 1 ≤ Rows.uptoBulk (D i)) → weightPs xs + n ≤ Rows.uptoBulkAll ((List.range n).map D)
  | 0, xs, h, _ => by
    have : xs = [] := List.eq_nil_of_length_eq_zero h
    subst this; simp [weightPs]
  | n + 1, xs, h, hw => by
    have key : ∀ (l r : List (DataW H)), Rows.uptoBulkAll (l ++ r) = Rows.uptoBulkAll l + Rows.uptoBulkAll r := fun l r => by
      induction l with
      | nil => simp [Rows.uptoBulkAll]
      | cons x l ih => simp only [List.cons_append, Rows.uptoBulkAll, ih]; omega
    have ih := bulkP_range D n (xs.take n) (by rw [List.length_take]; omega) (fun i x hx => hw i x (by
      have hi : i < n := by have := (List.getElem?_eq_some_iff.1 hx).1; rw [List.length_take] at this; omega
      rwa [List.getElem?_take_of_lt hi] at hx))
    have hz : xs[n]? = some (xs[n]'(by omega)) := List.getElem?_eq_getElem (by omega)
    have h1 := hw n _ hz
    have h2 := weightPs_take hz
    rw [show xs.take (n + 1) = xs from List.take_of_length_le (by omega)] at h2
    rw [List.range_succ, List.map_append, key]
    simp only [List.map_cons, List.map_nil, Rows.uptoBulkAll]
    omega

end Go.Proofs.YtomboeiaajggoaaGreat

/-
  Rows of prims that come in.
-/
namespace Go.Proofs.YtomboeiaajggoaaGreat
open Go.ChangeShapes Go.WideShapes Go.ChangeAt Go.RowKit Go.Deep

/-- What is asked of prims that come in. -/
structure CamePs (w : World) (A : Option Addr) (n : Nat) (xs : List PrC) : Prop where
  prims : Prims w A n xs
  many : n ≤ 1048576
  weigh : weightPs xs ≤ 1048576

/-- Prims that came in, nil or not. -/
theorem came_prims {H : Type} {enc : TypeId × Value → H} {W : World} {v : Value} {fuel : Nat} {x : DataW H × List MemPlace}
    (hf : DataW.trod enc Tryz.prog W 0 (fun _ => true) true fuel 23 [v] = some x) (hb : Rows.uptoBulk x.1 ≤ 1048576) : ∃ A n c xs, v = .slice A n c ∧ CamePs W A n xs := by
  rcases open_slice_fields (fs := primFields) Tryz.underlying23 Tryz.underlying114 Tryz.primOne Tryz.primCells6 hf with ⟨hcs, hx⟩ | ⟨a, len, cap, m, D, Pl, hcs, hl, hm, hx, hi⟩
  · simp at hcs
    exact ⟨none, 0, 0, [], hcs, ⟨RowK.none, (fun o ho => by cases ho)⟩, Nat.zero_le _, by simp [weightPs]⟩
  · simp only [if_true] at hm
    have hsz : primFields.size = 6 := rfl
    have hbk : Rows.uptoBulkAll ((List.range len).map D) ≤ 1048576 := by
      subst hx
      simp only [Rows.uptoBulk] at hb
      omega
    have hel : ∀ i, i < len → ∃ x : PrC, (∀ (j : Nat) u, (prL x)[j]? = some u → W.cell? (a.add (i * 6 + j)) = some u) ∧ Row W x.A x.n x.v.old ∧ Row W x.B x.m x.v.new ∧ x.n ≤ x.c ∧ x.m ≤ x.d ∧ -9223372036854775808 ≤ x.v.place ∧ x.v.place ≤ 9223372036854775807 ∧ weightP x.v + 1 ≤ Rows.uptoBulk (D i) := fun i hil => by
      obtain ⟨ys, n, hD, hyl, hfld⟩ := hi i (by omega)
      rw [hsz] at hyl hfld
      rw [hD]
      exact prim_of hyl hfld
    obtain ⟨xs, hol, hoq⟩ := list_of len hel
    have hwt := bulkP_range D len xs hol fun i o ho => (hoq i o ho).2.2.2.2.2.2.2
    simp at hcs
    have hmem : ∀ x ∈ xs, CameP W x := fun x hx => by
      obtain ⟨i, hio⟩ := List.getElem?_of_mem hx
      obtain ⟨_, h2, h3, h4, h5, h6, h7, _⟩ := hoq i x hio
      have := weightPs_mem hx
      exact ⟨h2, h3, h4, h5, h6, h7, by omega⟩
    refine ⟨some a, len, cap, xs, hcs, ⟨⟨by simp [hol], fun cs hcs => ?_, fun h0 => ?_⟩, hmem⟩, by omega, by omega⟩
    · obtain ⟨o, _, rfl⟩ := List.mem_map.1 hcs
      rfl
    · obtain ⟨b, off, spot⟩ := a
      have h00 := (hoq 0 (xs[0]'(by omega)) (List.getElem?_eq_getElem (by omega))).1 0 _ rfl
      have hspot : spot = none := by simpa [Addr.add] using World.cell?_spot h00
      subst hspot
      refine ⟨b, off, rfl, fun j i cs u hj hi => ?_⟩
      rw [List.getElem?_map] at hj
      obtain ⟨o, ho, rfl⟩ := Option.map_eq_some_iff.1 hj
      have := (hoq j o ho).1 i u hi
      rw [plain_add, ← Nat.add_assoc] at this
      exact this

end Go.Proofs.YtomboeiaajggoaaGreat

/-
  What is asked of patches that come in.
-/
namespace Go.Proofs.YtomboeiaajggoaaGreat
open Go.RowKit Go.Maps

/-- What a patch weighs. -/
def weightN (x : PaC) : Nat := x.v.note.size + x.nd + x.nl + weightPs x.xs
def weightNs (xs : List PaC) : Nat := (xs.map weightN).sum
theorem weightNs_take {xs : List PaC} {k : Nat} {x : PaC} (h : xs[k]? = some x) : weightNs (xs.take (k + 1)) = weightNs (xs.take k) + weightN x := by
  obtain ⟨hk, rfl⟩ := List.getElem?_eq_some_iff.1 h
  unfold weightNs
  rw [List.take_succ_eq_append_getElem hk, List.map_append, List.sum_append]
  simp
theorem weightNs_mem {xs : List PaC} {x : PaC} (h : x ∈ xs) : weightN x ≤ weightNs xs := by
  induction xs with
  | nil => cases h
  | cons y xs ih =>
    simp only [weightNs, List.map_cons, List.sum_cons] at ih ⊢
    rcases List.mem_cons.1 h with rfl | h
    · omega
    · have := ih h; omega
structure CameN (w : World) (x : PaC) : Prop where
  deps : RowK 1 w x.D x.nd (x.v.deps.map numL)
  droom : x.nd ≤ x.cd
  prims : Prims w x.L x.nl x.xs
  is : valsP x.xs = x.v.l
  lroom : x.nl ≤ x.cl
  lo : -9223372036854775808 ≤ x.v.id
  hi : x.v.id ≤ 9223372036854775807
  note : x.v.note.size ≤ maxLen
  dlo : ∀ d ∈ x.v.deps, -9223372036854775808 ≤ d
  dhi : ∀ d ∈ x.v.deps, d ≤ 9223372036854775807
  weigh : weightN x ≤ 1048576
theorem CameN.later {w w' : World} {x : PaC} (h : CameN w x) (hl : Later w w') : CameN w' x := ⟨h.deps.later hl, h.droom, h.prims.later hl, h.is, h.lroom, h.lo, h.hi, h.note, h.dlo, h.dhi, h.weigh⟩
theorem CameN.ok {w : World} {x : PaC} (h : CameN w x) (hw : weightN x ≤ 6000) : PaOk w x := by
  unfold weightN at hw
  exact ⟨h.deps, h.prims.ok (by omega), h.is, h.droom, h.lroom, by omega, by omega, h.note, h.lo, h.hi, h.dlo, h.dhi⟩
/-- A row of such. -/
structure CameNs (w : World) (A : Option Addr) (n c : Nat) (xs : List PaC) : Prop where
  row : RowK 4 w A n (xs.map paL)
  room : n ≤ c
  each : ∀ x ∈ xs, CameN w x
  weigh : weightNs xs + n ≤ 1048576
theorem CameNs.later {w w' : World} {A : Option Addr} {n c : Nat} {xs : List PaC} (h : CameNs w A n c xs) (hl : Later w w') : CameNs w' A n c xs := ⟨h.row.later hl, h.room, fun x hx => (h.each x hx).later hl, h.weigh⟩
theorem CameNs.len {w : World} {A : Option Addr} {n c : Nat} {xs : List PaC} (h : CameNs w A n c xs) : xs.length = n := by have := h.row.len; simpa using this
theorem CameNs.ok {w : World} {A : Option Addr} {n c : Nat} {xs : List PaC} (h : CameNs w A n c xs) (hw : weightNs xs ≤ 6000) : NsOk w A n xs :=
  ⟨h.row, fun x hx => (h.each x hx).ok (by have := weightNs_mem hx; omega)⟩

end Go.Proofs.YtomboeiaajggoaaGreat
