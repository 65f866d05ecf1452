/-
  What the statements' own Made comes to, as a call: the tree behind calls, and the document's.
-/
import Derived.Test.YtbjbimahmbapdaaDoorLwDoes
namespace Go.Proofs.YtbjbimahmbapdaaDoor
open Go.RowKit Go.Maps

/-- The tree behind calls. -/
def madeT (os : List OpC) : Tr := os.foldl (fun t o => (doT t o.v).1) []
theorem made_next {os : List OpC} {k : Nat} {o : OpC} (h : os[k]? = some o) : madeT (os.take (k + 1)) = (doT (madeT (os.take k)) o.v).1 := by
  obtain ⟨hk, rfl⟩ := List.getElem?_eq_some_iff.1 h
  unfold madeT
  rw [List.take_succ_eq_append_getElem hk, List.foldl_append]
  rfl

/-- How many lines and bytes a file has. -/
def heavy (l : List ByteArray) : Nat := l.length + (l.map ByteArray.size).sum

/-- At most k files, each with a name, lines that may be, and not too many. -/
structure Fits (k : Nat) (t : Tr) : Prop where
  many : t.length ≤ k
  each : ∀ f ∈ t, namedB f.1 = true ∧ allB f.2 = true ∧ heavy f.2 ≤ 8000

theorem named_size {s : ByteArray} (h : namedB s = true) : 1 ≤ s.size ∧ s.size ≤ 24 := by
  simp only [namedB, Bool.and_eq_true, decide_eq_true_eq] at h
  exact h.1

theorem Fits.small {k : Nat} {t : Tr} (h : Fits k t) (hk : k ≤ 1000) : Small t :=
  ⟨Nat.le_trans h.many hk, fun f hf => by have := named_size (h.each f hf).1; simp only [maxLen]; omega, fun f hf => by have := (h.each f hf).2.2; unfold heavy at this; omega⟩
theorem Fits.nil : Fits 0 [] := ⟨Nat.le_refl _, fun f hf => by cases hf⟩
theorem Fits.mono {j k : Nat} {t : Tr} (h : Fits j t) (hk : j ≤ k) : Fits k t := ⟨Nat.le_trans h.many hk, h.each⟩
theorem Fits.with_ {k : Nat} {t : Tr} (h : Fits k t) {n : ByteArray} {l : List ByteArray} (h1 : namedB n = true) (h2 : allB l = true) (h3 : heavy l ≤ 8000) : Fits (k + 1) (withT t n l) :=
  ⟨Nat.le_trans (with_length n l) (Nat.succ_le_succ h.many), fun f hf => by
    rcases mem_with.1 hf with rfl | hf
    · exact ⟨h1, h2, h3⟩
    · exact h.each f hf.1⟩
theorem Fits.without {k : Nat} {t : Tr} (h : Fits k t) (n : ByteArray) : Fits k (withoutT t n) := ⟨Nat.le_trans (without_length t n) h.many, fun f hf => h.each f (mem_without.1 hf).1⟩
theorem allB_nil : allB [] = true := by simp [allB]
theorem Fits.add {k : Nat} {t : Tr} (h : Fits k t) (n : ByteArray) : Fits (k + 1) (addT t n).1 := by
  unfold addT
  split
  · exact h.mono (Nat.le_succ _)
  · rename_i h1
    split
    · exact h.mono (Nat.le_succ _)
    · exact h.with_ (by simpa using h1) allB_nil (by simp [heavy])
theorem Fits.remove {k : Nat} {t : Tr} (h : Fits k t) (n : ByteArray) : Fits (k + 1) (removeT t n).1 := by
  unfold removeT
  split
  · exact h.mono (Nat.le_succ _)
  · split
    · exact h.mono (Nat.le_succ _)
    · exact (h.without n).mono (Nat.le_succ _)
theorem Fits.move {k : Nat} {t : Tr} (h : Fits k t) (a b : ByteArray) : Fits (k + 1) (moveT t a b).1 := by
  unfold moveT
  split
  · exact h.mono (Nat.le_succ _)
  · rename_i l hl
    split
    · exact h.mono (Nat.le_succ _)
    · rename_i h1
      split
      · exact h.mono (Nat.le_succ _)
      · have := h.each _ (getT_mem hl)
        exact (h.without a).with_ (by simpa using h1) this.2.1 this.2.2
theorem hasT_named {k : Nat} {t : Tr} (h : Fits k t) {n : ByteArray} (hn : hasT t n = true) : namedB n = true := by
  obtain ⟨f, hf, rfl⟩ := hasT_iff.1 hn
  exact (h.each f hf).1
theorem Fits.put {k : Nat} {t : Tr} (h : Fits k t) (n : ByteArray) {l : List ByteArray} (hl : heavy l ≤ 8000) : Fits (k + 1) (putT t n l).1 := by
  unfold putT
  split
  · exact h.mono (Nat.le_succ _)
  · rename_i h1
    split
    · exact h.mono (Nat.le_succ _)
    · rename_i h2
      exact h.with_ (hasT_named h (by simpa using h1)) (by simpa using h2) hl
theorem Fits.step {k : Nat} {t : Tr} (h : Fits k t) {o : OpV} (ho : weight o ≤ 8000) : Fits (k + 1) (doT t o).1 := by
  have hl : heavy o.l ≤ 8000 := by unfold weight at ho; unfold heavy; omega
  unfold doT
  split
  · exact h.add _
  · split
    · exact h.remove _
    · split
      · exact h.move _ _
      · split
        · exact h.put _ hl
        · exact h.mono (Nat.le_succ _)

/-- A tree, and the document's. -/
def GivesMade (t : Tr) (w : World) (e : Ending) (w' : World) : Prop :=
  ∃ p B v, e = .returned (.tuple #[.pointer (some ⟨p, 0, none⟩), v]) ∧ TreeAt w' p B t ∧ RefAt w' v t ∧ w.heap.size ≤ p ∧ w.heap.size ≤ B ∧ Later w w'

theorem Script.op {w : World} {A : Option Addr} {n : Nat} {os : List OpC} (h : Script w A n os) (hW : weightL os ≤ 8000) {o : OpC} (ho : o ∈ os) : OpOk w o.v o.A o.n := by
  have h1 := weight_mem ho
  have h2 := (h.lines o ho).1
  have h3 := h2.len
  unfold weight at h1
  refine ⟨h2, by omega, by simp only [maxLen]; omega, by simp only [maxLen]; omega, fun s hs => ?_⟩
  have := sizes_mem hs
  simp only [maxLen]; omega

set_option maxRecDepth 100000 in
set_option maxHeartbeats 800000 in
theorem made_any (A : Option Addr) (n c : Nat) (os : List OpC) (w : World) (hx : Script w A n os) (hn : n ≤ 80) (hW : weightL os ≤ 8000) :
    Calls Tryd.prog 19 #[.slice A n c] w (GivesMade (madeT os) w) := by
  have HX := Lib.hid hx; clear hx
  go_enter Tryd.func19, Tryd.ntmps19
  go_wp2_with fail
  refine (new_any w).mono ?_
  rintro e w1 ⟨p1, B1, rfl, ht1, hp1, hB1, hl1⟩
  have HT1 := Lib.hid ht1; have HL1 := Lib.hid hl1; clear ht1 hl1
  go_wp2
  go_loopg [4, 5, 15] (n + 1) (fun g s4 s5 s15 wr => ∃ (k p B : Nat) (v : Value) (t : Tr), k ≤ n ∧ n - k ≤ g ∧ s15 = .int .i64 k ∧ s4 = .pointer (some ⟨p, 0, none⟩) ∧ s5 = v ∧ w.heap.size ≤ p ∧ w.heap.size ≤ B ∧ Hid (t = madeT (os.take k)) ∧ Hid (Fits k t) ∧ Hid (TreeAt wr p B t) ∧ Hid (RefAt wr v t) ∧ Hid (Later w wr))
  case atStart => exact ⟨0, p1, B1, _, [], Nat.zero_le _, by omega, rfl, rfl, rfl, hp1, hB1, rfl, Fits.nil, HT1.out, RefAt.nil _, HL1.out⟩
  case round =>
    obtain ⟨k, p, B, v, t, hk, hg, rfl, rfl, hv, hp, hB, hte, hfit, htr, href, hwr⟩ := hrel
    obtain rfl := hv.symm
    clear hv
    by_cases hlt : k < n
    · obtain ⟨b, o, x, rfl, hz, g0, g1, g2, g3⟩ := (HX.out.later hwr.out).get hlt
      have hmem := List.mem_of_getElem? hz
      have hok := (HX.out.later hwr.out).op hW hmem
      have hwx := weight_mem hmem
      have hnext := made_next hz
      rw [← hte.out] at hnext
      have HNX := Lib.hid hnext
      have hstep := hfit.out.step (o := x.v) (by omega)
      have HST := Lib.hid hstep
      have hsm := hfit.out.small (by omega)
      have HSM := Lib.hid hsm
      have hlb : Later wr (wr.alloc (.cells #[.int .i64 x.v.kind, .string x.v.name, .string x.v.to, .slice x.A x.n x.c] 31)) := (Later.refl wr).alloc _
      have HD := Lib.hid (refDo_any v t x.v x.A x.n x.c _ (href.out.later hlb) (hok.later hlb) (by have := hsm.many; omega) hsm.lines)
      have HE := Lib.hid (fun (w2 : World) (h2 : Later (wr.alloc (.cells #[.int .i64 x.v.kind, .string x.v.name, .string x.v.to, .slice x.A x.n x.c] 31)) w2) => does_any p B t x.v x.A x.n x.c w2 (htr.out.later (hlb.trans h2)) (hok.later (hlb.trans h2)) hsm)
      have HLB := Lib.hid hlb
      have HBC : Hid ((wr.alloc (.cells #[.int .i64 x.v.kind, .string x.v.name, .string x.v.to, .slice x.A x.n x.c] 31)).cell? ⟨wr.heap.size, 0, none⟩ = some (.int .i64 x.v.kind) ∧ (wr.alloc (.cells #[.int .i64 x.v.kind, .string x.v.name, .string x.v.to, .slice x.A x.n x.c] 31)).cell? ⟨wr.heap.size, 1, none⟩ = some (.string x.v.name) ∧ (wr.alloc (.cells #[.int .i64 x.v.kind, .string x.v.name, .string x.v.to, .slice x.A x.n x.c] 31)).cell? ⟨wr.heap.size, 2, none⟩ = some (.string x.v.to) ∧ (wr.alloc (.cells #[.int .i64 x.v.kind, .string x.v.name, .string x.v.to, .slice x.A x.n x.c] 31)).cell? ⟨wr.heap.size, 3, none⟩ = some (.slice x.A x.n x.c)) := ⟨by simp, by simp, by simp, by simp⟩
      unfold opVal at HD HE
      generalize hr : doT t x.v = r at HD HE HNX HST
      obtain ⟨t2, en⟩ := r
      have hne : (en != en) = false := by simp
      clear hok hmem hwx hnext hz hlb hr hsm hstep
      go_wp2_with fail
      refine HD.out.mono ?_
      rintro e w2 ⟨v2, rfl, hr2, hl2⟩
      have HR2 := Lib.hid hr2; have HL2 := Lib.hid hl2
      have c0 := hl2.cell HBC.out.1
      have c1 := hl2.cell HBC.out.2.1
      have c2 := hl2.cell HBC.out.2.2.1
      have c3 := hl2.cell HBC.out.2.2.2
      clear hr2 hl2
      go_wp2_with fail
      refine (HE.out w2 HL2.out).mono ?_
      rintro e w3 ⟨p3, B3, rfl, ht3, hg3, hpb⟩
      have HT3 := Lib.hid ht3; have HG3 := Lib.hid hg3
      have hle2 : w.heap.size ≤ w2.heap.size := (hwr.out.trans (HLB.out.trans HL2.out)).le
      have hp3 : w.heap.size ≤ p3 := by rcases hpb with ⟨rfl, rfl⟩ | ⟨h, _⟩ <;> omega
      have hB3 : w.heap.size ≤ B3 := by rcases hpb with ⟨rfl, rfl⟩ | ⟨_, h⟩ <;> omega
      clear ht3 hg3 hpb
      go_wp2
      go_roundg (n - (k + 1))
      case measure => omega
      case rel =>
        obtain ⟨es, mc, hm⟩ := (htr.out.later (HLB.out.trans HL2.out)).files.map
        exact ⟨k + 1, p3, B3, v2, t2, by omega, Nat.le_refl _, by go_num, rfl, rfl, hp3, hB3, HNX.out.symm, HST.out, HT3.out, HR2.out.turned HG3.out hm, (hwr.out.trans (HLB.out.trans HL2.out)).turn HG3.out hB⟩
    · have e : os.take k = os := List.take_of_length_le (by rw [HX.out.len]; omega)
      rw [e] at hte
      clear e
      go_wp2
      go_ret2
      refine ⟨p, B, v, rfl, ?_, ?_, hp, hB, hwr.out⟩
      · rw [← hte.out]; exact htr.out
      · rw [← hte.out]; exact href.out

end Go.Proofs.YtbjbimahmbapdaaDoor
