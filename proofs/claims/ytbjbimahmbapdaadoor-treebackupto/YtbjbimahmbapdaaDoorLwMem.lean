/-
  The calls that are handed in, in memory: a row of calls, each a kind, two names and a row of lines.
-/
import Derived.Test.YtbjbimahmbapdaaDoorRfDo3
import Derived.Test.YtbjbimahmbapdaaDoorTrPut
namespace Go.Proofs.YtbjbimahmbapdaaDoor
open Go.RowKit Go.Maps

/-- A call, and where its lines stand. -/
structure OpC where
  v : OpV
  A : Option Addr
  n : Nat
  c : Nat

def opCells (o : OpC) : List Value := [.int .i64 o.v.kind, .string o.v.name, .string o.v.to, .slice o.A o.n o.c]

/-- What a call weighs. -/
def weight (o : OpV) : Nat := o.name.size + o.to.size + o.l.length + (o.l.map ByteArray.size).sum
def weightL (os : List OpC) : Nat := (os.map fun o => weight o.v).sum

/-- The slice reads as these calls. -/
structure Script (w : World) (A : Option Addr) (n : Nat) (os : List OpC) : Prop where
  row : RowK 4 w A n (os.map opCells)
  lines : ∀ o ∈ os, Row w o.A o.n o.v.l ∧ o.n ≤ o.c

section
variable {w w' : World} {A : Option Addr} {n : Nat} {os : List OpC}
theorem Script.len (h : Script w A n os) : os.length = n := by have := h.row.len; simpa using this
theorem Script.later (h : Script w A n os) (hl : Later w w') : Script w' A n os := ⟨h.row.later hl, fun o ho => ⟨(h.lines o ho).1.later hl, (h.lines o ho).2⟩⟩
theorem Script.get (h : Script w A n os) {j : Nat} (hj : j < n) : ∃ b o x, A = some ⟨b, o, .none⟩ ∧ os[j]? = some x ∧ w.cell? ⟨b, o + j * 4, .none⟩ = some (.int .i64 x.v.kind) ∧ w.cell? ⟨b, o + j * 4 + 1, .none⟩ = some (.string x.v.name) ∧ w.cell? ⟨b, o + j * 4 + 2, .none⟩ = some (.string x.v.to) ∧ w.cell? ⟨b, o + j * 4 + 3, .none⟩ = some (.slice x.A x.n x.c) := by
  obtain ⟨b, o, e, cs, hcs, _, hc⟩ := h.row.get hj
  have hl : j < os.length := by rw [h.len]; exact hj
  have hz := List.getElem?_eq_getElem hl
  simp only [List.getElem?_map, hz, Option.map_some, Option.some.injEq] at hcs
  subst hcs
  exact ⟨b, o, os[j], e, hz, hc 0 _ rfl, hc 1 _ rfl, hc 2 _ rfl, hc 3 _ rfl⟩
end

theorem weight_take {os : List OpC} {k : Nat} {o : OpC} (h : os[k]? = some o) : weightL (os.take (k + 1)) = weightL (os.take k) + weight o.v := by
  obtain ⟨hk, rfl⟩ := List.getElem?_eq_some_iff.1 h
  unfold weightL
  rw [List.take_succ_eq_append_getElem hk, List.map_append, List.sum_append]
  simp
theorem weight_take_le (os : List OpC) (k : Nat) : weightL (os.take k) ≤ weightL os := by
  have : weightL os = weightL (os.take k) + weightL (os.drop k) := by
    unfold weightL
    rw [← List.sum_append, ← List.map_append, List.take_append_drop]
  omega
theorem weight_mem {os : List OpC} {o : OpC} (h : o ∈ os) : weight o.v ≤ weightL os := by
  induction os with
  | nil => cases h
  | cons x os ih =>
    simp only [weightL, List.map_cons, List.sum_cons] at ih ⊢
    rcases List.mem_cons.1 h with rfl | h
    · omega
    · have := ih h; omega
theorem sizes_mem {l : List ByteArray} {s : ByteArray} (h : s ∈ l) : s.size ≤ (l.map ByteArray.size).sum := by
  induction l with
  | nil => cases h
  | cons x l ih =>
    simp only [List.map_cons, List.sum_cons]
    rcases List.mem_cons.1 h with rfl | h
    · omega
    · have := ih h; omega
theorem sizes_take {l : List ByteArray} {k : Nat} (h : k < l.length) : ((l.take (k + 1)).map ByteArray.size).sum = ((l.take k).map ByteArray.size).sum + (l.getD k ByteArray.empty).size := by
  rw [List.take_succ_eq_append_getElem h, List.map_append, List.sum_append]
  simp [List.getD, List.getElem?_eq_getElem h]
theorem sizes_take_le (l : List ByteArray) (k : Nat) : ((l.take k).map ByteArray.size).sum ≤ (l.map ByteArray.size).sum := by
  have : (l.map ByteArray.size).sum = ((l.take k).map ByteArray.size).sum + ((l.drop k).map ByteArray.size).sum := by
    rw [← List.sum_append, ← List.map_append, List.take_append_drop]
  omega

/-- What Few tells. -/
def fewN (n W : Nat) : Nat := if n ≤ 80 ∧ W ≤ 8000 then 0 else W + n

set_option maxRecDepth 100000 in
set_option maxHeartbeats 800000 in
theorem few_any (A : Option Addr) (n c : Nat) (os : List OpC) (w : World) (hx : Script w A n os) (hn : n ≤ 1048576) (hW : weightL os ≤ 1048576) :
    Calls Tryd.prog 9 #[.slice A n c] w fun e w' => e = .returned (.int .i64 (fewN n (weightL os) : Nat)) ∧ Later w w' := by
  have HX := Lib.hid hx; clear hx
  go_enter Tryd.func9, Tryd.ntmps9
  go_wp2
  go_loopg [3, 10] (n + 1) (fun g s3 s10 wr => ∃ k : Nat, k ≤ n ∧ n - k ≤ g ∧ s10 = .int .i64 k ∧ s3 = .int .i64 (weightL (os.take k) : Nat) ∧ Later w wr)
  case atStart => exact ⟨0, Nat.zero_le _, by omega, rfl, rfl, Later.refl w⟩
  case round =>
    obtain ⟨k, hk, hg, rfl, rfl, hwr⟩ := hrel
    by_cases hlt : k < n
    · obtain ⟨b, o, x, rfl, hz, g0, g1, g2, g3⟩ := (HX.out.later hwr).get hlt
      have hstep := weight_take hz
      have hle := weight_take_le os (k + 1)
      rw [hstep] at hle
      have hrow := (HX.out.lines x (List.mem_of_getElem? hz)).1
      have hlen := hrow.len
      have HW := Lib.hid hwr; have HROW := Lib.hid (hrow.later hwr)
      have hwt : weight x.v = x.v.name.size + x.v.to.size + x.n + (x.v.l.map ByteArray.size).sum := by unfold weight; rw [hlen]
      rw [hwt] at hle hstep
      have hle2 : weightL (os.take k) + x.v.name.size + x.v.to.size + x.n + (x.v.l.map ByteArray.size).sum ≤ 1048576 := by omega
      have HST := Lib.hid hstep
      clear hle hstep hwt hrow hwr hz
      generalize weightL (os.take k) = W0 at HST hle2 ⊢
      generalize x.v.name = nm at *
      generalize x.v.to = to at *
      generalize x.v.l = l at *
      generalize x.v.kind = kd at *
      generalize x.n = nl at *
      generalize x.A = Al at *
      generalize x.c = cl at *
      have hlb : Later wr (wr.alloc (.cells #[.int .i64 kd, .string nm, .string to, .slice Al nl cl] 31)) := (Later.refl wr).alloc _
      have HLB := Lib.hid hlb; clear hlb
      have HLEN := Lib.hid hlen; clear hlen
      go_wp2
      go_loopg [3, 30] (nl + 1) (fun g s3 s30 wx => ∃ j : Nat, j ≤ nl ∧ nl - j ≤ g ∧ s30 = .int .i64 j ∧ s3 = .int .i64 (W0 + nm.size + to.size + nl + ((l.take j).map ByteArray.size).sum : Nat) ∧ wx = wr.alloc (.cells #[.int .i64 kd, .string nm, .string to, .slice Al nl cl] 31))
      case atStart => exact ⟨0, Nat.zero_le _, by omega, rfl, by simp; go_num, rfl⟩
      case round =>
        obtain ⟨j, hj, hgj, rfl, rfl, rfl⟩ := hrel
        by_cases hjl : j < nl
        · obtain ⟨b1, o1, rfl, g4⟩ := (HROW.out.later HLB.out).get hjl
          have h1 := sizes_take (l := l) (k := j) (by rw [HLEN.out]; exact hjl)
          have h2 := sizes_take_le l (j + 1)
          rw [h1] at h2
          have H1 := Lib.hid h1; clear h1
          generalize l.getD j ByteArray.empty = sx at *
          generalize ((l.take j).map ByteArray.size).sum = S at *
          go_wp2
          go_roundg (nl - (j + 1))
          case measure => omega
          case rel => exact ⟨j + 1, by omega, Nat.le_refl _, by go_num, by rw [H1.out]; go_num, rfl⟩
        · have e : l.take j = l := List.take_of_length_le (by rw [HLEN.out]; omega)
          rw [e]
          clear e
          go_wp2
          go_roundg (n - (k + 1))
          case measure => omega
          case rel => exact ⟨k + 1, by omega, Nat.le_refl _, by go_num, by rw [HST.out]; go_num, HW.out.trans HLB.out⟩
    · have e : os.take k = os := List.take_of_length_le (by rw [HX.out.len]; omega)
      rw [e]
      have HW := Lib.hid hwr
      clear e hwr
      by_cases h1 : n ≤ 80
      · have d1 : decide ((n : Int) ≤ 80) = true := by simp; omega
        by_cases h2 : weightL os ≤ 8000
        · have d2 : decide ((weightL os : Int) ≤ 8000) = true := by simp; omega
          have E : Hid (fewN n (weightL os) = 0) := by simp [Hid, fewN, h1, h2]
          go_wp2
          go_ret
          exact ⟨by rw [E.out]; rfl, HW.out⟩
        · have d2 : decide ((weightL os : Int) ≤ 8000) = false := by simp; omega
          have E : Hid (fewN n (weightL os) = weightL os + n) := by simp [Hid, fewN, h2]
          go_wp2
          go_ret
          exact ⟨by rw [E.out]; go_num, HW.out⟩
      · have d1 : decide ((n : Int) ≤ 80) = false := by simp; omega
        have E : Hid (fewN n (weightL os) = weightL os + n) := by simp [Hid, fewN, h1]
        go_wp2
        go_ret
        exact ⟨by rw [E.out]; go_num, HW.out⟩

theorem few_zero {n W : Nat} : fewN n W = 0 ↔ n ≤ 80 ∧ W ≤ 8000 := by
  unfold fewN
  split
  · simp [*]
  · constructor
    · intro h; omega
    · intro h; contradiction

/-- What is asked of calls that come in. -/
structure CameS (w : World) (A : Option Addr) (n : Nat) (os : List OpC) : Prop where
  script : Script w A n os
  many : n ≤ 1048576
  weigh : weightL os ≤ 1048576
theorem CameS.later {w w' : World} {A : Option Addr} {n : Nat} {os : List OpC} (h : CameS w A n os) (hl : Later w w') : CameS w' A n os := ⟨h.script.later hl, h.many, h.weigh⟩

end Go.Proofs.YtbjbimahmbapdaaDoor
