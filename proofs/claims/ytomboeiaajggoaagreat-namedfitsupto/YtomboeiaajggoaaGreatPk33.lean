import Derived.Test.YtomboeiaajggoaaGreatPk32
import Derived.Test.YtomboeiaajggoaaGreatChecked
import Derived.Test.YtomboeiaajggoaaGreatPk7
import Derived.Test.YtomboeiaajggoaaGreatPk5
import Derived.Deep.LoopGhost
import Derived.Deep.RegionHeld3
import Derived.Lib.Hide
import Derived.Test.YtomboeiaajggoaaGreatPk31
import Derived.Test.YtomboeiaajggoaaGreatPk4
import Derived.Test.YtomboeiaajggoaaGreatPk13
import Derived.Test.YtomboeiaajggoaaGreatPk30
import Derived.Deep.QuietTactic
import Derived.BigQuiet
import Derived.Test.YtomboeiaajggoaaGreatPk23

/-
  What the statements' own Made comes to, as a call: the tree behind calls, and the document's.
-/
namespace Go.Proofs.YtomboeiaajggoaaGreat
open Go.RowKit Go.Maps

/-- The tree behind calls. -/
def madeT (os : List OpC) : Tr := os.foldl (fun t o => (doT t o.v).1) []
theorem made_next {os : List OpC} {k : Nat} {o : OpC} (h : os[k]? = some o) : madeT (os.take (k + 1)) = (doT (madeT (os.take k)) o.v).1 := by
  obtain ⟨hk, rfl⟩ := List.getElem?_eq_some_iff.1 h
  unfold madeT
  rw [List.take_succ_eq_append_getElem hk, List.foldl_append]
  rfl

/-- How many lines and bytes a file has. -/
def heavy (l : List ByteArray) : Nat := l.length + (l.map ByteArray.size).sum

/-- At most k files, each with a name, lines that may be, and not too many. -/
structure Fits (k : Nat) (t : Tr) : Prop where
  many : t.length ≤ k
  each : ∀ f ∈ t, namedB f.1 = true ∧ allB f.2 = true ∧ heavy f.2 ≤ 8000

theorem named_size {s : ByteArray} (h : namedB s = true) : 1 ≤ s.size ∧ s.size ≤ 24 := by
  simp only [namedB, Bool.and_eq_true, decide_eq_true_eq] at h
  exact h.1

theorem Fits.small {k : Nat} {t : Tr} (h : Fits k t) (hk : k ≤ 1000) : Small t :=
  ⟨Nat.le_trans h.many hk, fun f hf => by have := named_size (h.each f hf).1; simp only [maxLen]; omega, fun f hf => by have := (h.each f hf).2.2; unfold heavy at this; omega⟩
theorem Fits.nil : Fits 0 [] := ⟨Nat.le_refl _, fun f hf => by cases hf⟩
theorem Fits.mono {j k : Nat} {t : Tr} (h : Fits j t) (hk : j ≤ k) : Fits k t := ⟨Nat.le_trans h.many hk, h.each⟩
theorem Fits.with_ {k : Nat} {t : Tr} (h : Fits k t) {n : ByteArray} {l : List ByteArray} (h1 : namedB n = true) (h2 : allB l = true) (h3 : heavy l ≤ 8000) : Fits (k + 1) (withT t n l) :=
  ⟨Nat.le_trans (with_length n l) (Nat.succ_le_succ h.many), fun f hf => by
    rcases mem_with.1 hf with rfl | hf
    · exact ⟨h1, h2, h3⟩
    · exact h.each f hf.1⟩
theorem Fits.without {k : Nat} {t : Tr} (h : Fits k t) (n : ByteArray) : Fits k (withoutT t n) := ⟨Nat.le_trans (without_length t n) h.many, fun f hf => h.each f (mem_without.1 hf).1⟩
theorem allB_nil : allB [] = true := by simp [allB]
theorem Fits.add {k : Nat} {t : Tr} (h : Fits k t) (n : ByteArray) : Fits (k + 1) (addT t n).1 := by
  unfold addT
  split
  · exact h.mono (Nat.le_succ _)
  · rename_i h1
    split
    · exact h.mono (Nat.le_succ _)
    · exact h.with_ (by simpa using h1) allB_nil (by simp [heavy])
theorem Fits.remove {k : Nat} {t : Tr} (h : Fits k t) (n : ByteArray) : Fits (k + 1) (removeT t n).1 := by
  unfold removeT
  split
  · exact h.mono (Nat.le_succ _)
  · split
    · exact h.mono (Nat.le_succ _)
    · exact (h.without n).mono (Nat.le_succ _)
theorem Fits.move {k : Nat} {t : Tr} (h : Fits k t) (a b : ByteArray) : Fits (k + 1) (moveT t a b).1 := by
  unfold moveT
  split
  · exact h.mono (Nat.le_succ _)
  · rename_i l hl
    split
    · exact h.mono (Nat.le_succ _)
    · rename_i h1
      split
      · exact h.mono (Nat.le_succ _)
      · have := h.each _ (getT_mem hl)
        exact (h.without a).with_ (by simpa using h1) this.2.1 this.2.2
theorem hasT_named {k : Nat} {t : Tr} (h : Fits k t) {n : ByteArray} (hn : hasT t n = true) : namedB n = true := by
  obtain ⟨f, hf, rfl⟩ := hasT_iff.1 hn
  exact (h.each f hf).1
theorem Fits.put {k : Nat} {t : Tr} (h : Fits k t) (n : ByteArray) {l : List ByteArray} (hl : heavy l ≤ 8000) : Fits (k + 1) (putT t n l).1 := by
  unfold putT
  split
  · exact h.mono (Nat.le_succ _)
  · rename_i h1
    split
    · exact h.mono (Nat.le_succ _)
    · rename_i h2
      exact h.with_ (hasT_named h (by simpa using h1)) (by simpa using h2) hl
theorem Fits.step {k : Nat} {t : Tr} (h : Fits k t) {o : OpV} (ho : weight o ≤ 8000) : Fits (k + 1) (doT t o).1 := by
  have hl : heavy o.l ≤ 8000 := by unfold weight at ho; unfold heavy; omega
  unfold doT
  split
  · exact h.add _
  · split
    · exact h.remove _
    · split
      · exact h.move _ _
      · split
        · exact h.put _ hl
        · exact h.mono (Nat.le_succ _)

theorem made_fits {w : World} {A : Option Addr} {n : Nat} {os : List OpC} (h : Script w A n os) (hW : weightL os ≤ 8000) : Fits n (madeT os) := by
  have key : ∀ k, k ≤ os.length → Fits k (madeT (os.take k)) := fun k => by
    induction k with
    | zero => intro _; simpa [madeT] using Fits.nil
    | succ k ih =>
      intro hk
      have hz : os[k]? = some os[k] := List.getElem?_eq_getElem (by omega)
      rw [made_next hz]
      exact (ih (by omega)).step (Nat.le_trans (weight_mem (List.mem_of_getElem? hz)) hW)
  have := key os.length (Nat.le_refl _)
  rwa [List.take_length, h.len] at this

/-- A tree, and the document's. -/
def GivesMade (t : Tr) (w : World) (e : Ending) (w' : World) : Prop :=
  ∃ p B v, e = .returned (.tuple #[.pointer (some ⟨p, 0, none⟩), v]) ∧ TreeAt w' p B t ∧ RefAt w' v t ∧ w.heap.size ≤ p ∧ w.heap.size ≤ B ∧ Later w w'

theorem Script.op {w : World} {A : Option Addr} {n : Nat} {os : List OpC} (h : Script w A n os) (hW : weightL os ≤ 8000) {o : OpC} (ho : o ∈ os) : OpOk w o.v o.A o.n := by
  have h1 := weight_mem ho
  have h2 := (h.lines o ho).1
  have h3 := h2.len
  unfold weight at h1
  refine ⟨h2, by omega, by simp only [maxLen]; omega, by simp only [maxLen]; omega, fun s hs => ?_⟩
  have := sizes_mem hs
  simp only [maxLen]; omega

set_option maxRecDepth 100000 in
set_option maxHeartbeats 800000 in
theorem made_any (A : Option Addr) (n c : Nat) (os : List OpC) (w : World) (hx : Script w A n os) (hn : n ≤ 80) (hW : weightL os ≤ 8000) :
    Calls Tryz.prog 24 #[.slice A n c] w (GivesMade (madeT os) w) := by
  have HX := Lib.hid hx; clear hx
  go_enter Tryz.func24, Tryz.ntmps24
  go_wp2_with fail
  refine (new_any w).mono ?_
  rintro e w1 ⟨p1, B1, rfl, ht1, hp1, hB1, hl1⟩
  have HT1 := Lib.hid ht1; have HL1 := Lib.hid hl1; clear ht1 hl1
  go_wp2
  go_loopg [4, 5, 15] (n + 1) (fun g s4 s5 s15 wr => ∃ (k p B : Nat) (v : Value) (t : Tr), k ≤ n ∧ n - k ≤ g ∧ s15 = .int .i64 k ∧ s4 = .pointer (some ⟨p, 0, none⟩) ∧ s5 = v ∧ w.heap.size ≤ p ∧ w.heap.size ≤ B ∧ Hid (t = madeT (os.take k)) ∧ Hid (Fits k t) ∧ Hid (TreeAt wr p B t) ∧ Hid (RefAt wr v t) ∧ Hid (Later w wr))
  case atStart => exact ⟨0, p1, B1, _, [], Nat.zero_le _, by omega, rfl, rfl, rfl, hp1, hB1, rfl, Fits.nil, HT1.out, RefAt.nil _, HL1.out⟩
  case round =>
    obtain ⟨k, p, B, v, t, hk, hg, rfl, rfl, hv, hp, hB, hte, hfit, htr, href, hwr⟩ := hrel
    obtain rfl := hv.symm
    clear hv
    by_cases hlt : k < n
    · obtain ⟨b, o, x, rfl, hz, g0, g1, g2, g3⟩ := (HX.out.later hwr.out).get hlt
      have hmem := List.mem_of_getElem? hz
      have hok := (HX.out.later hwr.out).op hW hmem
      have hwx := weight_mem hmem
      have hnext := made_next hz
      rw [← hte.out] at hnext
      have HNX := Lib.hid hnext
      have hstep := hfit.out.step (o := x.v) (by omega)
      have HST := Lib.hid hstep
      have hsm := hfit.out.small (by omega)
      have HSM := Lib.hid hsm
      have hlb : Later wr (wr.alloc (.cells #[.int .i64 x.v.kind, .string x.v.name, .string x.v.to, .slice x.A x.n x.c] 85)) := (Later.refl wr).alloc _
      have HD := Lib.hid (refDo_any v t x.v x.A x.n x.c _ (href.out.later hlb) (hok.later hlb) (by have := hsm.many; omega) hsm.lines)
      have HE := Lib.hid (fun (w2 : World) (h2 : Later (wr.alloc (.cells #[.int .i64 x.v.kind, .string x.v.name, .string x.v.to, .slice x.A x.n x.c] 85)) w2) => does_any p B t x.v x.A x.n x.c w2 (htr.out.later (hlb.trans h2)) (hok.later (hlb.trans h2)) hsm)
      have HLB := Lib.hid hlb
      have HBC : Hid ((wr.alloc (.cells #[.int .i64 x.v.kind, .string x.v.name, .string x.v.to, .slice x.A x.n x.c] 85)).cell? ⟨wr.heap.size, 0, none⟩ = some (.int .i64 x.v.kind) ∧ (wr.alloc (.cells #[.int .i64 x.v.kind, .string x.v.name, .string x.v.to, .slice x.A x.n x.c] 85)).cell? ⟨wr.heap.size, 1, none⟩ = some (.string x.v.name) ∧ (wr.alloc (.cells #[.int .i64 x.v.kind, .string x.v.name, .string x.v.to, .slice x.A x.n x.c] 85)).cell? ⟨wr.heap.size, 2, none⟩ = some (.string x.v.to) ∧ (wr.alloc (.cells #[.int .i64 x.v.kind, .string x.v.name, .string x.v.to, .slice x.A x.n x.c] 85)).cell? ⟨wr.heap.size, 3, none⟩ = some (.slice x.A x.n x.c)) := ⟨by simp, by simp, by simp, by simp⟩
      unfold opVal at HD HE
      generalize hr : doT t x.v = r at HD HE HNX HST
      obtain ⟨t2, en⟩ := r
      have hne : (en != en) = false := by simp
      clear hok hmem hwx hnext hz hlb hr hsm hstep
      go_wp2_with fail
      refine HD.out.mono ?_
      rintro e w2 ⟨v2, rfl, hr2, hl2⟩
      have HR2 := Lib.hid hr2; have HL2 := Lib.hid hl2
      have c0 := hl2.cell HBC.out.1
      have c1 := hl2.cell HBC.out.2.1
      have c2 := hl2.cell HBC.out.2.2.1
      have c3 := hl2.cell HBC.out.2.2.2
      clear hr2 hl2
      go_wp2_with fail
      refine (HE.out w2 HL2.out).mono ?_
      rintro e w3 ⟨p3, B3, rfl, ht3, hg3, hpb⟩
      have HT3 := Lib.hid ht3; have HG3 := Lib.hid hg3
      have hle2 : w.heap.size ≤ w2.heap.size := (hwr.out.trans (HLB.out.trans HL2.out)).le
      have hp3 : w.heap.size ≤ p3 := by rcases hpb with ⟨rfl, rfl⟩ | ⟨h, _⟩ <;> omega
      have hB3 : w.heap.size ≤ B3 := by rcases hpb with ⟨rfl, rfl⟩ | ⟨_, h⟩ <;> omega
      clear ht3 hg3 hpb
      go_wp2
      go_roundg (n - (k + 1))
      case measure => omega
      case rel =>
        obtain ⟨es, mc, hm⟩ := (htr.out.later (HLB.out.trans HL2.out)).files.map
        exact ⟨k + 1, p3, B3, v2, t2, by omega, Nat.le_refl _, by go_num, rfl, rfl, hp3, hB3, HNX.out.symm, HST.out, HT3.out, HR2.out.turned HG3.out hm, (hwr.out.trans (HLB.out.trans HL2.out)).turn HG3.out hB⟩
    · have e : os.take k = os := List.take_of_length_le (by rw [HX.out.len]; omega)
      rw [e] at hte
      clear e
      go_wp2
      go_ret2
      refine ⟨p, B, v, rfl, ?_, ?_, hp, hB, hwr.out⟩
      · rw [← hte.out]; exact htr.out
      · rw [← hte.out]; exact href.out

end Go.Proofs.YtomboeiaajggoaaGreat

/-
  What maps.EqualFunc at files with line.Same, and tree.Same, come to, as calls.
-/
namespace Go.Proofs.YtomboeiaajggoaaGreat
open Go.RowKit Go.Maps

section
variable {α : Type}
theorem rising_le : ∀ {a b : Fl α}, Rising a → Rising b → (∀ f ∈ a, f ∈ b) → a.length ≤ b.length
  | [], _, _, _, _ => Nat.zero_le _
  | x :: a, [], _, _, h => absurd (h x List.mem_cons_self) (by simp)
  | x :: a, y :: b, ha, hb, h => by
    by_cases e : x = y
    · subst e
      have := rising_le (rising_tail ha) (rising_tail hb) fun f hf => by
        rcases List.mem_cons.1 (h f (List.mem_cons_of_mem _ hf)) with rfl | h1
        · exact absurd rfl (ltN_ne (rising_head ha hf))
        · exact h1
      simpa using this
    · have hx : x ∈ b := (List.mem_cons.1 (h x List.mem_cons_self)).resolve_left e
      have hlt := rising_head hb hx
      have := rising_le (a := x :: a) ha (rising_tail hb) fun f hf => by
        rcases List.mem_cons.1 (h f hf) with rfl | h1
        · rcases List.mem_cons.1 hf with rfl | hf
          · exact absurd rfl e
          · have := ltN_asymm (rising_head ha hf); rw [hlt] at this; cases this
        · exact h1
      simp at this ⊢; omega
/-- As many files, all of them there: the same. -/
theorem rising_sub : ∀ {a b : Fl α}, Rising a → Rising b → (∀ f ∈ a, f ∈ b) → b.length ≤ a.length → a = b
  | [], [], _, _, _, _ => rfl
  | [], y :: b, _, _, _, h => absurd h (by simp)
  | x :: a, [], _, _, h, _ => absurd (h x List.mem_cons_self) (by simp)
  | x :: a, y :: b, ha, hb, h, hl => by
    have e : x = y := by
      rcases Classical.em (x = y) with e | e
      · exact e
      · have hx : x ∈ b := (List.mem_cons.1 (h x List.mem_cons_self)).resolve_left e
        have hlt := rising_head hb hx
        have := rising_le (a := x :: a) ha (rising_tail hb) fun f hf => by
          rcases List.mem_cons.1 (h f hf) with rfl | h1
          · rcases List.mem_cons.1 hf with rfl | hf
            · exact absurd rfl e
            · have := ltN_asymm (rising_head ha hf); rw [hlt] at this; cases this
          · exact h1
        simp at this hl; omega
    subst e
    refine congrArg _ (rising_sub (rising_tail ha) (rising_tail hb) (fun f hf => ?_) (by simpa using hl))
    rcases List.mem_cons.1 (h f (List.mem_cons_of_mem _ hf)) with rfl | h1
    · exact absurd rfl (ltN_ne (rising_head ha hf))
    · exact h1
end

theorem FA.step {w w' : World} {B r n cnt : Nat} {z : Fl Held} {D : DataW Value} {left : Lit → Bool} {B0 : Nat} (h : FA w B z) (hr : w.ranges Tryz.prog 9 raw B0 r n D left cnt) (hg : Turned r w w') (hne : B ≠ r) : FA w' B z :=
  ⟨h.own.kept hg (by simpa using hne), h.rise, fun f hf => by
    obtain ⟨A, m, c, e, h1, h2⟩ := h.reads f hf
    exact ⟨A, m, c, e, h1, h2.1, fun hn => by
      obtain ⟨b, o, e, hc⟩ := h2.2 hn
      exact ⟨b, o, e, fun j s hs => hg.cell (hc j s hs) (iter_cell hr (hc j s hs))⟩⟩⟩

set_option maxHeartbeats 800000 in
theorem equalFunc_any (B1 B2 : Nat) (z1 z2 : Fl Held) (w : World) (h1 : FA w B1 z1) (h2 : FA w B2 z2) (hb1 : ∀ f ∈ z1, f.2.2.length ≤ 65536) (hb2 : ∀ f ∈ z2, f.2.2.length ≤ 65536) :
    Calls Tryz.prog 49 #[.map (some B1), .map (some B2), .func (.func 50) #[] #[]] w (Says (sameT (mapT (·.2) z1) (mapT (·.2) z2)) w) := by
  have H1 := Lib.hid h1; have H2 := Lib.hid h2
  have hlt1 := h1.lt; have hlt2 := h2.lt
  have HB1 := Lib.hid hb1; have HB2 := Lib.hid hb2
  have R1 : Hid (Rising (mapT (·.2) z1)) := rising_map.2 h1.rise
  have R2 : Hid (Rising (mapT (·.2) z2)) := rising_map.2 h2.rise
  clear h1 h2 hb1 hb2
  by_cases hlen : z1.length = z2.length
  · have HLEN := Lib.hid hlen
    have hd : ((z1.length : Int) != (z2.length : Int)) = false := by rw [bne_eq_false_iff_eq]; omega
    go_enter Tryz.func49, Tryz.ntmps49
    go_wp2_with (first
      | (at_len; refine wpList_len_own _ rfl _ 91 rfl 9 67 Tryz.underlying91 raw B1 z1.length _ rfl H1.out.own ?_; rw [size_datum, mapT_length])
      | (at_len; refine wpList_len_own _ rfl _ 91 rfl 9 67 Tryz.underlying91 raw B2 z2.length _ rfl H2.out.own ?_; rw [size_datum, mapT_length])
      | (at_range; refine wpList_range_files rfl _ rfl B1 z1 rfl H1.out ?_; intro w0 hrg0 hl0; have HR0 := Lib.hid hrg0; have HL0 := Lib.hid hl0; clear hrg0 hl0))
    go_frame
    clear hd hlen
    go_loopg [] (z1.length + 1) (fun g wr => ∃ (left : Lit → Bool) (cnt : Nat), cnt ≤ g ∧ Later w wr ∧ Hid (FA wr B2 z2) ∧ Hid (Ranging wr B1 w.heap.size z1 left cnt) ∧ Hid (∀ f ∈ seen left (mapT (·.2) z1), f ∈ mapT (·.2) z2))
    case atStart => exact ⟨_, _, Nat.le_succ _, HL0.out, H2.out.later HL0.out, HR0.out, by rw [seen_map, seen_start]; exact fun f hf => by cases hf⟩
    case round =>
      obtain ⟨left, cnt, hcg, hwr, hf2, hrg, hall⟩ := hrel
      have HW := Lib.hid hwr; clear hwr
      go_wp2_with (at_next; refine wpList_next_files rfl _ rfl B1 w.heap.size z1 left cnt rfl hrg.out ?_ ?_)
      · intro hdone
        have E : Hid (sameT (mapT (·.2) z1) (mapT (·.2) z2) = true) := by
          have hall' := hall.out
          rw [seen_end hdone] at hall'
          have e := rising_sub R1.out R2.out hall' (by rw [mapT_length, mapT_length]; exact Nat.le_of_eq HLEN.out.symm)
          rw [e]; exact sameT_self _
        clear hdone hall
        go_wp2
        go_ret
        exact ⟨ret_bool E.out.symm, HW.out⟩
      · intro nm A m c l w' cnt' hmem hnm hmc hrow hlk hrg' hlt hturn hen
        have hmem1 : (nm, l) ∈ mapT (·.2) z1 := by simp only [mapT, List.mem_map]; exact ⟨_, hmem, rfl⟩
        have hm : m ≤ 65536 := by rw [← hrow.len]; exact HB1.out _ hmem
        have hf2' : FA w' B2 z2 := hf2.out.step hrg.out.at_ hturn (by omega)
        have hlw : Later w w' := HW.out.turn hturn (Nat.le_refl _)
        have HLW := Lib.hid hlw; have HF2 := Lib.hid hf2'
        have HRG := Lib.hid hrg'
        cases hg : getT z2 nm with
        | none =>
          have hlook := hf2'.look_no hnm hg
          have E : Hid (sameT (mapT (·.2) z1) (mapT (·.2) z2) = false) := sameT_no fun e => by
            have h9 : getT (mapT (·.2) z2) nm = none := by rw [getT_map, hg]; rfl
            exact getT_none.1 h9 _ (e ▸ hmem1) rfl
          clear hrow hmem hlk hrg' hturn hmem1 hf2' hlw hg hall hf2 hrg
          go_wp2
          go_ret
          exact ⟨ret_bool E.out.symm, HLW.out⟩
        | some x =>
          have hlook := hf2'.look_yes hnm hg
          obtain ⟨A2, m2, c2, hv, hmc2, hr2⟩ := hf2'.get hg
          have hm2 : m2 ≤ 65536 := by rw [← hr2.len]; exact HB2.out _ (getT_mem hg)
          rw [hv] at hlook
          have hg2 : getT (mapT (·.2) z2) nm = some x.2 := by rw [getT_map, hg]; rfl
          have hsame := same_any A A2 m c m2 c2 l x.2 w' hrow hr2 hm hm2
          by_cases hx : l = x.2
          · have hall' : ∀ f ∈ seen (but left nm) (mapT (·.2) z1), f ∈ mapT (·.2) z2 := fun f hf => by
              rw [seen_step R1.out hmem1] at hf
              rcases mem_with.1 hf with rfl | hf
              · rw [hx]; exact getT_mem hg2
              · exact hall.out f hf.1
            have HALL := Lib.hid hall'
            rw [sameB_yes hx] at hsame
            have HS := Lib.hid hsame
            clear hrow hmem hlk hrg' hturn hmem1 hf2' hlw hg hall hf2 hrg hr2 hv hg2 hx hall' hsame
            go_wp2_with (go_at_call 50; refine HS.out.mono ?_; rintro e w4 ⟨rfl, q, rfl⟩)
            go_roundg cnt'
            case measure => omega
            case rel =>
              have hd : Later w' (w'.drewN q) := (Later.refl _).drewN q
              exact ⟨but left nm, cnt', Nat.le_refl _, HLW.out.trans hd, HF2.out.later hd, HRG.out.later hd, HALL.out⟩
          · have E : Hid (sameT (mapT (·.2) z1) (mapT (·.2) z2) = false) := sameT_no fun e => by
              have h9 := (getT_iff R2.out).2 (e ▸ hmem1)
              rw [hg2] at h9; exact hx (Option.some.inj h9).symm
            rw [sameB_no hx] at hsame
            have HS := Lib.hid hsame
            clear hrow hmem hlk hrg' hturn hmem1 hf2' hlw hg hall hf2 hrg hr2 hv hg2 hx hsame
            go_wp2_with (go_at_call 50; refine HS.out.mono ?_; rintro e w4 ⟨rfl, q, rfl⟩)
            go_ret
            exact ⟨ret_bool E.out.symm, HLW.out.drewN q⟩
  · have E : Hid (sameT (mapT (·.2) z1) (mapT (·.2) z2) = false) := sameT_no fun e => hlen (by have := congrArg List.length e; rwa [mapT_length, mapT_length] at this)
    rw [E.out]
    have hd : ((z1.length : Int) != (z2.length : Int)) = true := by rw [bne_iff_ne]; omega
    clear hlen E
    go_enter Tryz.func49, Tryz.ntmps49
    go_wp2_with (first
      | (at_len; refine wpList_len_own _ rfl _ 91 rfl 9 67 Tryz.underlying91 raw B1 z1.length _ rfl H1.out.own ?_; rw [size_datum, mapT_length])
      | (at_len; refine wpList_len_own _ rfl _ 91 rfl 9 67 Tryz.underlying91 raw B2 z2.length _ rfl H2.out.own ?_; rw [size_datum, mapT_length]))
    go_ret
    exact ⟨rfl, Later.refl w⟩

set_option maxRecDepth 100000 in
set_option maxHeartbeats 400000 in
theorem sameTree_any (p1 B1 p2 B2 : Nat) (t1 t2 : Tr) (w : World) (h1 : TreeAt w p1 B1 t1) (h2 : TreeAt w p2 B2 t2) (hb1 : ∀ f ∈ t1, f.2.length ≤ 65536) (hb2 : ∀ f ∈ t2, f.2.length ≤ 65536) :
    Calls Tryz.prog 28 #[.pointer (some ⟨p1, 0, none⟩), .pointer (some ⟨p2, 0, none⟩)] w (Says (sameT t1 t2) w) := by
  obtain ⟨hc1, z1, hz1, rfl⟩ := h1
  obtain ⟨hc2, z2, hz2, rfl⟩ := h2
  have B1' : ∀ f ∈ z1, f.2.2.length ≤ 65536 := fun f hf => hb1 (f.1, f.2.2) (by simp only [mapT, List.mem_map]; exact ⟨_, hf, rfl⟩)
  have B2' : ∀ f ∈ z2, f.2.2.length ≤ 65536 := fun f hf => hb2 (f.1, f.2.2) (by simp only [mapT, List.mem_map]; exact ⟨_, hf, rfl⟩)
  have HE := Lib.hid (fun (w1 : World) (h : Later w w1) => equalFunc_any B1 B2 z1 z2 w1 (hz1.later h) (hz2.later h) B1' B2')
  clear hz1 hz2 hb1 hb2 B1' B2'
  go_enter Tryz.func28, Tryz.ntmps28
  go_wp2_with fail
  go_region_held3 (fun w' => w'.cell? ⟨p1, 0, none⟩ = some (.map (some B1)) ∧ w'.cell? ⟨p2, 0, none⟩ = some (.map (some B2))) (go_keep)
    (first
      | (go_at_call 49; refine (HE.out _ (by first | exact Later.refl _ | exact (Later.refl _).drew | exact (Later.refl _).drewN _)).mono ?_; rintro e w1 ⟨rfl, hl1⟩; have HL : Hid (Later w w1) := Later.trans (by first | exact Later.refl _ | exact (Later.refl _).drew | exact (Later.refl _).drewN _) hl1; have hd1 := HL.out.cell hc1; have hd2 := HL.out.cell hc2; clear hl1))
  go_wp2
  go_ret
  exact ⟨rfl, HL.out⟩

end Go.Proofs.YtomboeiaajggoaaGreat

/-
  What stands while a tree turns: blocks, prims, other trees; how great trees become.
-/
namespace Go.Proofs.YtomboeiaajggoaaGreat
open Go.RowKit Go.Maps

theorem PrOk.turnS {w w' : World} {x : PrC} {B : Nat} (h : PrOk w x) (hg : Turned B w w') {es : Array MapEntry} {c : Nat} (hm : w.heap[B]? = some (.map es c)) : PrOk w' x :=
  ⟨h.old.turned hg hm, h.new.turned hg hm, h.oroom, h.nroom, h.omost, h.nmost, h.name, h.to, h.lo, h.hi, h.olds, h.news⟩
theorem BoxAt.turnS {w w' : World} {g B : Nat} {cs : Array Value} {t : TypeId} (h : BoxAt w g cs t) (hg : Turned B w w') {es : Array MapEntry} {c : Nat} (hm : w.heap[B]? = some (.map es c)) : BoxAt w' g cs t :=
  h.other hg (by rintro rfl; unfold BoxAt at h; rw [h] at hm; cases hm)
theorem Fits.sizedS {k : Nat} {t : Tr} (h : Fits k t) : Sized k 8000 t := ⟨h.many, fun f hf => ⟨(h.each f hf).1, (h.each f hf).2.1, by have := (h.each f hf).2.2; unfold heavy at this; omega⟩⟩
theorem Sized.lines {k h : Nat} {t : Tr} (hs : Sized k h t) (hh : h ≤ 65536) : ∀ f ∈ t, f.2.length ≤ 65536 := fun f hf => Nat.le_trans (hs.each f hf).2.2 hh

end Go.Proofs.YtomboeiaajggoaaGreat

/-
  What seq's Apply comes to, as a call.
-/
namespace Go.Proofs.YtomboeiaajggoaaGreat
open Go.RowKit Go.Maps

attribute [local go_sem] Oper.semAt_some

theorem FilesAt.shut {V : World} {B l : Nat} {t : Tr} {o o' : Obj} (h : FilesAt V B t) (hB : B < l) (hl : V.heap[l]? = some o) (ho : o.isCells = false) : FilesAt (V.putObj l o') B t := by
  obtain ⟨z, hz, rfl⟩ := h
  exact ⟨z, hz.off (shut_turned V l o') (by omega) (fun f hf hne => by
    obtain ⟨A, n, c, hv, _, hr⟩ := hz.reads f hf
    rw [hv]
    exact hr.away_shut hl ho hne), rfl⟩
theorem TreeAt.shut {V : World} {p B l : Nat} {t : Tr} {o o' : Obj} (h : TreeAt V p B t) (hB : B < l) (hl : V.heap[l]? = some o) (ho : o.isCells = false) : TreeAt (V.putObj l o') p B t :=
  ⟨(shut_turned V l o').cell h.cell (cell_off hl ho h.cell), h.files.shut hB hl ho⟩
/-- Between two rounds of the undoing: j are over. -/
structure ApI (w : World) (p B : Nat) (t : Tr) (A : Option Addr) (kk c g2 gB : Nat) (xs : List PrC) (j : Nat) (V : World) (u : Tr) : Prop where
  ran : runS t ((valsP xs).take (kk - j)) = (u, 0)
  tree : TreeAt V p B u
  turned : Turned B w V
  b2 : BoxAt V g2 #[.pointer (some ⟨p, 0, none⟩)] 56
  bB : BoxAt V gB #[.slice A kk c] 28
theorem Turned.shut {w V : World} {B l : Nat} {o' : Obj} (h : Turned B w V) (hw : w.heap.size ≤ l) : Turned B w (V.putObj l o') :=
  ⟨h.os, h.tape, h.output, by simpa using h.size, fun i hi hne => (World.putObj_heap_other (by omega)).trans (h.block i hi hne)⟩
theorem take_back {l : List Pr} {i : Nat} {x : Pr} {t u : Tr} (ht : Rising t) (h : runS t (l.take (i + 1)) = (u, 0)) (hx : l[i]? = some x) : ∃ s, runS t (l.take i) = (s, 0) ∧ applyP u (invertP x) = (s, 0) := by
  obtain ⟨hi, rfl⟩ := List.getElem?_eq_some_iff.1 hx
  rw [List.take_succ_eq_append_getElem hi] at h
  obtain ⟨s, h1, h2⟩ := runS_append.1 h
  obtain ⟨s', h3, h4⟩ := runS_cons.1 h2
  simp only [runS, Prod.mk.injEq, and_true] at h4
  subst h4
  exact ⟨s, h1, apply_back (runS_rising ht h1) h3⟩
theorem linesS_take (l : List Pr) (i : Nat) : linesS (l.take i) ≤ linesS l := by
  have : linesS l = linesS (l.take i) + linesS (l.drop i) := by rw [← linesS_append, List.take_append_drop]
  omega
theorem linesS_at {l : List Pr} {i : Nat} {x : Pr} (h : l[i]? = some x) : linesS (l.take i) + (x.old.length + x.new.length) ≤ linesS l := by
  obtain ⟨hi, rfl⟩ := List.getElem?_eq_some_iff.1 h
  have h1 := linesS_take l (i + 1)
  rw [List.take_succ_eq_append_getElem hi, linesS_append, linesS_cons, linesS_nil] at h1
  omega

set_option maxRecDepth 100000 in
set_option maxHeartbeats 3200000 in
theorem seqApply_any (p B k h : Nat) (t : Tr) (A : Option Addr) (n c : Nat) (xs : List PrC) (w : World) (ht : TreeAt w p B t) (hx : PsOk w A n xs) (hs : Sized k h t) (hnc : n ≤ c) (hn : k + n ≤ 60000) (hh : h + 2 * linesS (valsP xs) ≤ 65536) :
    Calls Tryz.prog 48 #[.pointer (some ⟨p, 0, none⟩), .slice A n c] w (Does (applyS t (valsP xs)) p B w) := by
  have hlen := hx.len
  have hB := ht.files.lt
  have hp := ht.lt
  obtain ⟨es, em, hmap⟩ := ht.files.map
  have HX := Lib.hid hx; have HT := Lib.hid ht; have HS := Lib.hid hs; have HM := Lib.hid hmap
  have HB2 : Hid (BoxAt (w.alloc (.cells #[.pointer (some ⟨p, 0, none⟩)] 56)) w.heap.size #[.pointer (some ⟨p, 0, none⟩)] 56) := BoxAt.made w _ _
  clear hx ht hs hmap
  refine (callsIn_wide (n := 3)).1 (callsIn_of_wp_marks Tryz.func48 rfl trivial (wpIn_wide.2 ?_) rfl)
  simp only [Tryz.ntmps48, List.size_toArray, List.length_cons, List.length_nil, Nat.reduceAdd, Nat.reduceSub, Array.replicate_succ, Array.replicate_zero, List.push_toArray, List.append_toArray, List.nil_append, List.cons_append]
  go_wp2
  go_loopg [12] (n + 1) (fun g s12 wr => ∃ (kk : Nat) (u : Tr), kk ≤ n ∧ n - kk ≤ g ∧ s12 = .int .i64 kk ∧ Hid (runS t ((valsP xs).take kk) = (u, 0)) ∧ Hid (TreeAt wr p B u) ∧ Hid (Turned B w wr) ∧ Hid (BoxAt wr w.heap.size #[.pointer (some ⟨p, 0, none⟩)] 56))
  case atStart => exact ⟨0, t, Nat.zero_le _, by omega, rfl, by simp [Hid, runS], HT.out.later ((Later.refl w).alloc _), ((Later.refl w).alloc _).turned B, HB2.out⟩
  case round =>
    obtain ⟨kk, u, hk, hg, rfl, hran, htr, htu, hb2⟩ := hrel
    have hb2lt := hb2.out.lt
    by_cases hlt : kk < n
    · have hcl := htu.out.cells HM.out
      obtain ⟨b, o, x, rfl, hz, hok, g0, g1, g2, g3, g4, g5⟩ := (HX.out.cells hcl).get hlt
      have hatv := valsP_at hz
      have hsz := runS_sized (l := (valsP xs).take kk) HS.out
      rw [hran.out] at hsz
      have hln := linesS_at hatv
      have htl : ((valsP xs).take kk).length = kk := by rw [List.length_take, valsP_length, hlen]; omega
      rw [htl] at hsz
      have hnl := hok.new.len
      have HLB : Hid (Later wr (wr.alloc (.cells #[.int .i64 x.v.kind, .string x.v.name, .string x.v.to, .int .i64 x.v.place, .slice x.A x.n x.c, .slice x.B x.m x.d] 69))) := (Later.refl wr).alloc _
      have HC := Lib.hid (apply_any x p B _ _ u _ (htr.out.later HLB.out) (hok.later HLB.out) hsz (by omega) (by omega))
      have c2 := (hb2.out.later HLB.out).cell (i := 0) rfl
      have HATV := Lib.hid hatv; have HSZ := Lib.hid hsz; have HCL := Lib.hid hcl
      clear hok hz hatv hsz hcl htl
      unfold prV at HC
      cases hr : decide ((applyP u x.v).2 = 0)
      · have he : (applyP u x.v).2 ≠ 0 := of_decide_eq_false hr
        have herr : (applyP u x.v).1 = u := apply_errS he
        have HAS : Hid (applyS t (valsP xs) = (t, (applyP u x.v).2)) := by
          show _ = _
          have e1 : valsP xs = (valsP xs).take kk ++ x.v :: (valsP xs).drop (kk + 1) := by
            obtain ⟨hi, hxi⟩ := List.getElem?_eq_some_iff.1 HATV.out
            rw [← hxi, ← List.drop_eq_getElem_cons hi, List.take_append_drop]
          rw [e1]
          exact applyS_err hran.out he
        have hne : ((applyP u x.v).2 == 0) = false := by rw [beq_eq_false_iff_ne]; exact he
        have HHR := Lib.hid herr
        clear he hr herr
        go_wp2_with fail
        refine HC.out.mono ?_
        rintro e w2 ⟨rfl, htw, htu2⟩
        rw [HHR.out] at htw
        generalize (applyP u x.v).2 = er at *
        obtain ⟨es1, em1, hm1⟩ := (htr.out.later HLB.out).files.map
        have HBX := Lib.hid ((hb2.out.later HLB.out).turnS htu2 hm1)
        have HTU := Lib.hid ((htu.out.trans (HLB.out.turned B)).trans htu2); have HTW := Lib.hid htw
        have HBK := Lib.hid (fun (A1 : Option Addr) (n1 c1 : Nat) (w1 : World) => back_any A1 n1 c1 w1)
        clear HC c2 g0 g1 g2 g3 g4 g5 htw htu2 hm1
        go_wp2_with fail
        refine (HBK.out _ _ _ _).mono ?_
        rintro e w3 ⟨rfl, rfl⟩
        clear HBK
        go_wp2_with fail
        have hl3 : Later w2 (w2.alloc (.cells #[.slice (some ⟨b, o, none⟩) kk c] 28)) := (Later.refl w2).alloc _
        have hbB : BoxAt (w2.alloc (.cells #[.slice (some ⟨b, o, none⟩) kk c] 28)) w2.heap.size #[.slice (some ⟨b, o, none⟩) kk c] 28 := BoxAt.made w2 _ _
        have hrow : RowK 6 w (some ⟨b, o, none⟩) kk ((xs.take kk).map prL) := by
          refine ⟨by simp [hlen]; omega, (fun cs hcs => by obtain ⟨y, _, rfl⟩ := List.mem_map.1 hcs; rfl), fun hkk => ?_⟩
          obtain ⟨b', o', e', hc'⟩ := HX.out.row.2.2 (by omega)
          refine ⟨b', o', e', fun j i cs v h1 h2 => hc' j i cs v ?_ h2⟩
          rw [List.getElem?_map, List.getElem?_take] at h1
          split at h1
          · rw [List.getElem?_map]; exact h1
          · simp at h1
        have hi0 : ∃ u', ApI w p B t (some ⟨b, o, none⟩) kk c w.heap.size w2.heap.size xs 0 (w2.alloc (.cells #[.slice (some ⟨b, o, none⟩) kk c] 28)) u' := ⟨u, hran.out, HTW.out.later hl3, HTU.out.trans (hl3.turned B), HBX.out.later hl3, hbB⟩
        have hcw : Cells w (w2.alloc (.cells #[.slice (some ⟨b, o, none⟩) kk c] 28)) := (HTU.out.cells HM.out).later hl3
        have hszL : w.heap.size ≤ (w2.alloc (.cells #[.slice (some ⟨b, o, none⟩) kk c] 28)).heap.size := Nat.le_trans HTU.out.size hl3.le
        generalize w2.heap.size = gB at hbB hi0 ⊢
        generalize w2.alloc (.cells #[.slice (some ⟨b, o, none⟩) kk c] 28) = wL at hl3 hbB hi0 hcw hszL ⊢
        refine range_rows (zs := rounds (xs.take kk)) (w0 := wL) rfl (enters_of Tryz.func88 (by kernel_rfl) rfl) (back_handsC 2 gB (by decide) (some ⟨b, o, none⟩) kk c (xs.take kk) (by omega) w wL hrow hcw (hbB.cell rfl)) (Later.refl _) (fun _ => rfl) (fun h k => h.trans k) (fun V l o o' _ hh ho => KpC.book V l o o' hh ho)
          (fun j V => ∃ u', ApI w p B t (some ⟨b, o, none⟩) kk c w.heap.size gB xs j V u') (fun _ _ => False)
          (fun j z a' V => (∃ u', ApI w p B t (some ⟨b, o, none⟩) kk c w.heap.size gB xs j V u') ∧ ∃ gx, BoxAt V gx (prL z.2).toArray 69 ∧ a' = { tmps := #[.pointer (some ⟨p, 0, none⟩), .slice (some ⟨b, o, none⟩) n c, .pointer (some ⟨w.heap.size, 0, none⟩), undef, u4, .int .i64 kk, .pointer (some ⟨wr.heap.size, 0, none⟩), .int .i64 er, undef, .pointer (some ⟨gx, 0, none⟩), .slice (some ⟨b, o, none⟩) n c, .int .i64 n, .int .i64 kk, .bool true, .int .i64 kk, .pointer (some ⟨b, o + kk * 6, none⟩), .agg #[.int .i64 x.v.kind, .string x.v.name, .string x.v.to, .int .i64 x.v.place, .slice x.A x.n x.c, .slice x.B x.m x.d], .pointer (some ⟨p, 0, none⟩), .agg #[.int .i64 x.v.kind, .string x.v.name, .string x.v.to, .int .i64 x.v.place, .slice x.A x.n x.c, .slice x.B x.m x.d], .int .i64 er, .int .i64 er, .bool false, .slice (some ⟨b, o, none⟩) n c, .int .i64 kk, .slice (some ⟨b, o, none⟩) kk c, .func (.func 88) #[] #[.pointer (some ⟨gB, 0, none⟩)], .int .i64 z.1, prV z.2, u28, u29, u30, u31, u32, u33], defers := [] })
          (fun j V l o' o'' ⟨u', q⟩ hl hh ho => ⟨u', q.ran, q.tree.shut (by omega) hh ho, q.turned.shut (by omega), q.b2.shut hh ho, q.bB.shut hh ho⟩) (fun j V l o o' h => h.elim) (fun j z a' V l o' o'' ⟨⟨u', q⟩, gx, h2, h3⟩ hl hh ho => ⟨⟨u', q.ran, q.tree.shut (by omega) hh ho, q.turned.shut (by omega), q.b2.shut hh ho, q.bB.shut hh ho⟩, gx, h2.shut hh ho, h3⟩)
          (fun o' o'' ⟨u', q⟩ => ⟨u', q.ran, q.tree.later (((Later.refl wL).alloc o').alloc o''), q.turned.trans ((((Later.refl wL).alloc o').alloc o'').turned B), q.b2.later (((Later.refl wL).alloc o').alloc o''), q.bB.later (((Later.refl wL).alloc o').alloc o'')⟩) hi0 ?assign ?body ?done ?stop
        case assign =>
          rintro l j ⟨i, y⟩ V K hz ⟨u', q⟩ hK
          simp only [backV, prV]
          gi_wp2
          have hlv : Later V (V.alloc (.cells (prL y).toArray 69)) := (Later.refl V).alloc _
          exact hK _ _ (KeepsFrom.later hlv _) (KpC.of hlv.cells) ⟨⟨u', q.ran, q.tree.later hlv, q.turned.trans (hlv.turned B), q.b2.later hlv, q.bB.later hlv⟩, V.heap.size, BoxAt.made V (prL y).toArray 69, rfl⟩
        case body =>
          rintro l j ⟨i, y⟩ a' V hz ⟨⟨u', q⟩, gx, hbx, rfl⟩
          obtain ⟨hj, hat⟩ := rounds_at hz
          dsimp only at hj hat hbx ⊢
          have hkl : (xs.take kk).length = kk := by rw [List.length_take, hlen]; omega
          have hik : i < kk := by omega
          rw [List.getElem?_take, if_pos hik] at hat
          have hatv := valsP_at hat
          have hok := (HX.out.each y (List.mem_of_getElem? hat)).cells (q.turned.cells HM.out)
          have hran' := q.ran
          rw [show kk - j = i + 1 by omega] at hran'
          obtain ⟨s', hs1, hs2⟩ := take_back HT.out.files.rise hran' hatv
          have hsz := runS_sized (l := (valsP xs).take (i + 1)) HS.out
          rw [hran'] at hsz
          have hln := linesS_take (valsP xs) (i + 1)
          have hln2 := linesS_at hatv
          have hinv := invert_lines y.v
          have hlen1 : ((valsP xs).take (i + 1)).length ≤ n := by rw [List.length_take, valsP_length, hlen]; omega
          obtain ⟨es2, em2, hm2⟩ := q.tree.files.map
          refine wpIn_block (ap_region rfl (by kernel_rfl) (by kernel_rfl) ⟨_, rfl, rfl, rfl, rfl, by kernel_rfl⟩ ⟨_, rfl, rfl, rfl, rfl, by kernel_rfl⟩ ⟨_, rfl, rfl, rfl, rfl, by kernel_rfl⟩ ⟨_, rfl, rfl, rfl, rfl, by kernel_rfl⟩ (of_decide_eq_true rfl) rfl rfl q.b2 hbx hok q.tree hsz (by omega) (by omega) (fun ⟨_, _, h⟩ => h) (fun D a V' so st => ?_))
          rw [hs2] at st
          obtain ⟨s1, s2⟩ := st
          exact ⟨KeepsFrom.of_grownBy s2 (fun j e => by cases e; omega), KpC.of (s2.cells hm2), s', by rw [show kk - (j + 1) = i by omega]; exact hs1, s1, q.turned.trans s2, q.b2.turnS s2 hm2, q.bB.turnS s2 hm2⟩
        case done =>
          rintro Dd V hD ⟨u', q⟩ hd
          have hq := q.ran
          rw [rounds_length, List.length_take, hlen, Nat.min_eq_left (by omega), Nat.sub_self, List.take_zero] at hq
          simp only [runS, Prod.mk.injEq, and_true] at hq
          subst hq
          have HQ := Lib.hid q; have HD := Lib.hid hd
          clear q hd
          go_wp2
          refine ⟨by simp, .inl ⟨_, _, rfl, run_takeDeferred HD.out, ?_⟩⟩
          refine ⟨_, results_tmp rfl _ _ _, ?_⟩
          rw [HAS.out]
          exact ⟨rfl, HQ.out.tree.shut (by omega) HD.out rfl, HQ.out.turned.shut (by omega)⟩
        case stop =>
          rintro Dd j V _ _ h _
          exact h.elim
      · have he : (applyP u x.v).2 = 0 := of_decide_eq_true hr
        have HEQ := Lib.hid he
        have HNX : Hid (runS t ((valsP xs).take (kk + 1)) = ((applyP u x.v).1, 0)) := by
          show _ = _
          obtain ⟨hi, hxi⟩ := List.getElem?_eq_some_iff.1 HATV.out
          rw [List.take_succ_eq_append_getElem hi, hxi, runS_snoc hran.out, Prod.ext_iff]
          exact ⟨rfl, he⟩
        clear hr he
        go_wp2_with fail
        refine HC.out.mono ?_
        rintro e w2 ⟨rfl, htw, htu2⟩
        obtain ⟨es1, em1, hm1⟩ := (htr.out.later HLB.out).files.map
        have HBX := Lib.hid ((hb2.out.later HLB.out).turnS htu2 hm1)
        have HTU := Lib.hid ((htu.out.trans (HLB.out.turned B)).trans htu2); have HTW := Lib.hid htw
        clear HC c2 g0 g1 g2 g3 g4 g5 htw htu2 hm1
        rw [HEQ.out]
        generalize (applyP u x.v).1 = u' at HTW HNX
        clear HEQ
        go_wp2
        go_roundg (n - (kk + 1))
        case measure => omega
        case rel => exact ⟨kk + 1, _, by omega, Nat.le_refl _, by go_num, HNX, HTW, HTU, HBX⟩
    · obtain rfl : kk = n := by omega
      have HE : Hid (applyS t (valsP xs) = (u, 0)) := by
        have := hran.out
        rw [List.take_of_length_le (by rw [valsP_length, hlen]; omega)] at this
        exact applyS_ok.2 this
      go_wp2
      refine ⟨_, results_tmp rfl _ _ _, ?_⟩
      rw [HE.out]
      exact ⟨rfl, htr.out, htu.out⟩

end Go.Proofs.YtomboeiaajggoaaGreat

/-
  What the statements' own applied comes to, as a call: patches applied to a tree, one behind the other.
-/
namespace Go.Proofs.YtomboeiaajggoaaGreat
open Go.RowKit Go.Maps

theorem PaOk.cells {w w' : World} {x : PaC} (h : PaOk w x) (hl : Cells w w') : PaOk w' x := ⟨h.deps.cells hl, h.row.cells hl, h.is, h.droom, h.lroom, h.dmost, h.lmost, h.note, h.lo, h.hi, h.dlo, h.dhi⟩
theorem NsOk.cells {w w' : World} {A : Option Addr} {n : Nat} {xs : List PaC} (h : NsOk w A n xs) (hl : Cells w w') : NsOk w' A n xs := ⟨h.row.cells hl, fun x hx => (h.each x hx).cells hl⟩
/-- The prims of patches. -/
def primsN (l : List Pa) : List Pr := l.flatMap (·.l)
theorem linesS_app (a b : List Pr) : linesS (a ++ b) = linesS a + linesS b := by
  induction a with
  | nil => simp [linesS]
  | cons p a ih => rw [List.cons_append, linesS_cons, linesS_cons, ih]; omega
section
variable {l : List Pa} {p : Pa} {k : Nat} {t u : Tr}
theorem primsN_take (h : l[k]? = some p) : primsN (l.take (k + 1)) = primsN (l.take k) ++ p.l := by
  obtain ⟨hk, rfl⟩ := List.getElem?_eq_some_iff.1 h
  unfold primsN
  rw [List.take_succ_eq_append_getElem hk, List.flatMap_append]
  simp
theorem primsN_split (l : List Pa) (k : Nat) : primsN l = primsN (l.take k) ++ primsN (l.drop k) := by
  unfold primsN
  rw [← List.flatMap_append, List.take_append_drop]
theorem primsN_le (l : List Pa) (k : Nat) : (primsN (l.take k)).length ≤ (primsN l).length ∧ linesS (primsN (l.take k)) ≤ linesS (primsN l) := by
  rw [primsN_split l k, List.length_append, linesS_app]
  omega
theorem runN_step (h : runN t (l.take k) = (u, 0)) (hp : l[k]? = some p) {v : Tr} (ha : applyS u p.l = (v, 0)) : runN t (l.take (k + 1)) = (v, 0) := by
  obtain ⟨hk, rfl⟩ := List.getElem?_eq_some_iff.1 hp
  rw [List.take_succ_eq_append_getElem hk]
  exact runN_append.2 ⟨u, h, by rw [runN_one]; exact applyS_ok.1 ha⟩
theorem runN_stop (h : runN t (l.take k) = (u, 0)) (hp : l[k]? = some p) {v : Tr} {e : Int} (ha : applyS u p.l = (v, e)) (he : e ≠ 0) (x : Tr) : runN t l ≠ (x, 0) := by
  intro hx
  obtain ⟨hk, rfl⟩ := List.getElem?_eq_some_iff.1 hp
  rw [← List.take_append_drop k l, List.drop_eq_getElem_cons hk] at hx
  obtain ⟨s, h1, h2⟩ := runN_append.1 hx
  rw [h] at h1
  cases h1
  obtain ⟨r, h3, _⟩ := runN_cons.1 h2
  rw [applyS_ok.2 h3] at ha
  cases ha
  exact he rfl
end

set_option maxRecDepth 100000 in
set_option maxHeartbeats 1600000 in
theorem applied_any (pt Bt ka hb : Nat) (tr : Tr) (A : Option Addr) (n c : Nat) (xs : List PaC) (w : World) (ht : TreeAt w pt Bt tr) (hx : NsOk w A n xs) (hs : Sized ka hb tr) (hn : n ≤ 65536) (h1 : ka + (primsN (valsN xs)).length ≤ 60000) (h2 : hb + 2 * linesS (primsN (valsN xs)) ≤ 65536) :
    Calls Tryz.prog 27 #[.pointer (some ⟨pt, 0, none⟩), .slice A n c] w fun e w' => ∃ b u, e = .returned (.bool b) ∧ TreeAt w' pt Bt u ∧ Turned Bt w w' ∧ (b = true → runN tr (valsN xs) = (u, 0)) ∧ (b = false → ∀ v, runN tr (valsN xs) ≠ (v, 0)) := by
  have hlen := hx.len
  obtain ⟨es, cc, hm⟩ := ht.files.map
  have HX := Lib.hid hx; have HT := Lib.hid ht; have HS := Lib.hid hs; have HM := Lib.hid hm
  clear hx ht hs hm
  go_enter Tryz.func27, Tryz.ntmps27
  go_wp2
  go_loopg [9] (n + 1) (fun g s9 wr => ∃ (k : Nat) (u : Tr), k ≤ n ∧ n - k ≤ g ∧ s9 = .int .i64 k ∧ Hid (TreeAt wr pt Bt u) ∧ Hid (Turned Bt w wr) ∧ Hid (runN tr ((valsN xs).take k) = (u, 0)))
  case atStart => exact ⟨0, tr, Nat.zero_le _, by omega, rfl, HT, Turned.refl _ _, rfl⟩
  case round =>
    obtain ⟨k, u, hk, hg, rfl, htu, htw, hrun⟩ := hrel
    by_cases hlt : k < n
    · have hcl := htw.out.cells HM.out
      obtain ⟨b, o, x, rfl, hz, hok, g0, g1, g2, g3⟩ := (HX.out.cells hcl).get hlt
      have hatv := valsN_at hz
      have hlb : Later wr (wr.alloc (.cells #[.int .i64 x.v.id, .string x.v.note, .slice x.D x.nd x.cd, .slice x.L x.nl x.cl] 30)) := (Later.refl wr).alloc _
      have hsz : Sized (ka + (primsN ((valsN xs).take k)).length) (hb + linesS (primsN ((valsN xs).take k))) u := by
        have := runS_sized (l := primsN ((valsN xs).take k)) HS.out
        rw [show runS tr (primsN ((valsN xs).take k)) = (u, 0) from hrun.out] at this
        exact this
      have hle := primsN_le (valsN xs) (k + 1)
      rw [primsN_take hatv, List.length_append, linesS_app] at hle
      obtain ⟨v, e, ha⟩ : ∃ v e, applyS u x.v.l = (v, e) := ⟨_, _, rfl⟩
      have HC := Lib.hid (seqApply_any pt Bt _ _ u x.L x.nl x.cl x.xs _ (htu.out.later hlb) (hok.later hlb).row hsz hok.lroom (by rw [← hok.row.len, ← valsP_length, hok.is]; omega) (by rw [hok.is]; omega))
      rw [hok.is] at HC
      rw [ha] at HC
      have HTW : Hid (∀ w2, Turned Bt (wr.alloc (.cells #[.int .i64 x.v.id, .string x.v.note, .slice x.D x.nd x.cd, .slice x.L x.nl x.cl] 30)) w2 → Turned Bt w w2) := fun w2 h => (htw.out.trans ⟨hlb.os, hlb.tape, hlb.output, hlb.size, fun i hi _ => hlb.block i hi⟩).trans h
      have HAT := Lib.hid hatv; have HAP := Lib.hid ha
      clear hcl hz hok hatv hsz hle ha hlb
      by_cases he : e = 0
      · subst he
        have HN := Lib.hid (runN_step hrun.out HAT.out HAP.out)
        go_wp2_with fail
        refine HC.out.mono ?_
        rintro e w2 ⟨rfl, ht2, hg2⟩
        dsimp only at ht2 ⊢
        have HT2 := Lib.hid ht2; have HW2 := Lib.hid (HTW.out w2 hg2)
        clear ht2 hg2 HC HTW
        go_wp2
        go_roundg (n - (k + 1))
        case measure => omega
        case rel => exact ⟨k + 1, v, by omega, Nat.le_refl _, by go_num, HT2, HW2, HN⟩
      · have hd : (e != 0) = true := by rw [bne_iff_ne]; exact he
        have HN := Lib.hid (fun x => runN_stop hrun.out HAT.out HAP.out he x)
        go_wp2_with fail
        refine HC.out.mono ?_
        rintro e w2 ⟨rfl, ht2, hg2⟩
        dsimp only at ht2 ⊢
        have HT2 := Lib.hid ht2; have HW2 := Lib.hid (HTW.out w2 hg2)
        clear ht2 hg2 HC HTW
        go_wp2
        go_ret
        exact ⟨false, v, rfl, HT2.out, HW2.out, (fun h => by cases h), fun _ => HN.out⟩
    · have HE : Hid (runN tr (valsN xs) = (u, 0)) := by
        have := hrun.out
        rw [List.take_of_length_le (by rw [valsN_length, hlen]; omega)] at this
        exact this
      go_wp2
      go_ret
      exact ⟨true, u, rfl, htu.out, htw.out, (fun _ => HE.out), fun h => by cases h⟩

end Go.Proofs.YtomboeiaajggoaaGreat
