import Derived.Test.YtbhnbkcokhfopaaPk20
import Derived.Test.YtbhnbkcokhfopaaPk16
import Derived.Deep.Cut
import Derived.Deep.LoopGhost
import Derived.Deep.QuietTactic
import Derived.BigQuiet
import Derived.Lib.Hide
import Derived.Test.YtbhnbkcokhfopaaPk6
import Derived.Test.YtbhnbkcokhfopaaPk17
import Derived.Test.YtbhnbkcokhfopaaPk12
import Derived.Test.YtbhnbkcokhfopaaPk13
import Derived.Test.YtbhnbkcokhfopaaPk9
import Derived.Deep.MidRow

/-
  What the document's own Lines comes to, as a call.
-/
namespace Go.Proofs.Ytbhnbkcokhfopaa
open Go.RowKit Go.Maps

/-- What tells a row of the document's prims of its own. -/
def GivesRP (l : List Pr) (w : World) (e : Ending) (w' : World) : Prop := ∃ v xs, e = .returned v ∧ OwnPs 75 w w' v xs ∧ valsP xs = l

set_option maxRecDepth 100000 in
set_option maxHeartbeats 3200000 in
theorem refLines_any (nm : ByteArray) (A B : Option Addr) (n c m d : Nat) (la lb : List ByteArray) (w : World) (ha : Row w A n la) (hb : Row w B m lb) (hc : n ≤ c) (hd : m ≤ d) (hn : n ≤ 200) (hm : m ≤ 200)
    (hnm : nm.size ≤ maxLen) (hsa : ∀ s ∈ la, s.size ≤ maxLen) (hsb : ∀ s ∈ lb, s.size ≤ maxLen) :
    Calls Try.prog 17 #[.string nm, .slice A n c, .slice B m d] w (GivesRP (linesP nm la lb) w) := by
  have hna := ha.len; have hnb := hb.len
  have HTO := Lib.hid (lines_to (name := nm) (a := la) (b := lb) (by omega) (by omega))
  have HRI := Lib.hid (common_rises (a := la) (b := lb) (by omega) (by omega))
  have hLn := common_length la lb
  rw [hna, hnb] at HTO HRI
  have HCM := Lib.hid (refCommon6_any A B n c m d la lb w ha hb hn hm)
  have HA := Lib.hid ha; have HB := Lib.hid hb; have HSA := Lib.hid hsa; have HSB := Lib.hid hsb
  clear ha hb hna hnb hsa hsb
  obtain ⟨i0, hi, hz0, hz1, hz2⟩ := info_parts Try.rpairInfo
  go_enter Try.func17, Try.ntmps17
  go_wp2_with fail
  refine HCM.out.mono ?_
  rintro e w2 ⟨v0, rfl, ho0⟩
  clear HCM
  have hlb : Later w2 (w2.alloc (.cells #[.int .i64 (n : Nat), .int .i64 (m : Nat)] 32)) := (Later.refl w2).alloc _
  have HR : Hid (RowK 2 (w2.alloc (.cells #[.int .i64 (n : Nat), .int .i64 (m : Nat)] 32)) (some ⟨w2.heap.size, 0, none⟩) 1 [[.int .i64 (n : Nat), .int .i64 (m : Nat)]]) := RowK.one w2 [.int .i64 (n : Nat), .int .i64 (m : Nat)] 32
  have HO0 := Lib.hid (ho0.on hlb)
  clear ho0 hlb
  go_wp2_with (at_builtin; refine Hid.out ?_)
  refine Lib.hid (wpList_append_rowK5 rfl _ _ 27 rfl i0 _ 16 Try.underlying27 hi hz0 hz1 hz2 rfl (by decide) HO0.out rfl _ _ 1 1 _ rfl HR.out (by decide) (by simp [Value.oneCell']) (by rw [pairsV_length]; omega) (by decide) ?_)
  intro v3 w3 ho3 hg3 h5
  rw [← pairsV_append] at ho3
  generalize hL : commonL la lb ++ [(n, m)] = L at ho3 HTO HRI
  have hLl : L.length ≤ 201 := by rw [← hL]; simp; omega
  have hL1 : 0 < L.length := by rw [← hL]; simp
  clear hL hLn
  obtain ⟨A3, c3, hv3, hc3, hr3⟩ := ho3.row
  rw [pairsV_length] at hv3 hc3 hr3
  obtain ⟨g3, o3, hA3, _⟩ := hr3.2.2 hL1
  subst hA3
  subst hv3
  have HL3 := Lib.hid ho3.later
  have HR3 := Lib.hid hr3
  clear ho3 hg3 h5 hr3 HR HO0
  go_wp2
  go_loopg [7, 9, 10, 11] (L.length + 1) (fun g s7 s9 s10 s11 wr => ∃ (j i k : Nat) (v : Value) (ys : List PrC), j ≤ L.length ∧ L.length - j ≤ g ∧ s11 = .int .i64 (j : Nat) ∧ s7 = v ∧ s9 = .int .i64 (i : Nat) ∧ s10 = .int .i64 (k : Nat) ∧ ys.length ≤ j ∧ Hid (OwnPs 75 w3 wr v ys) ∧ Hid (valsP ys ++ hunksTo nm la lb (L.drop j) i k = linesP nm la lb) ∧ Hid (Rises n m (L.drop j) i k))
  case atStart => exact ⟨0, 0, 0, _, [], Nat.zero_le _, by omega, rfl, rfl, rfl, rfl, Nat.le_refl _, OwnPs.nil (Later.refl _), by show _ = _; rw [HTO.out]; rfl, HRI⟩
  case round =>
    obtain ⟨j, i, k, v, ys, hj, hg, rfl, hv, rfl, rfl, hyl, hO, hEq, hRi⟩ := hrel
    obtain rfl := hv.symm
    clear hv HTO HRI
    by_cases hlt : j < L.length
    · obtain ⟨s, hs, p0, p1⟩ := HR3.out.pair hlt
      obtain ⟨x, y⟩ := s
      obtain ⟨hix, hky, hxn, hym, hri2⟩ := rises_at hs hRi.out
      have HST := Lib.hid (hunksTo_at (name := nm) (a := la) (b := lb) (i := i) (k := k) hs)
      dsimp only at p0 p1 hix hky hxn hym hri2 HST
      have HRI2 := Lib.hid hri2
      have P0 : Hid (w3.cell? ⟨g3, o3 + j * 2 + 0, none⟩ = some (.int .i64 (x : Nat))) := p0
      have P1 := Lib.hid p1
      replace p0 := hO.out.later.cell p0; replace p1 := hO.out.later.cell p1
      clear hs hri2
      by_cases h1 : i < x
      · have hxy : i < x ∨ k < y := .inl h1
        have hd1 : decide ((i : Int) < (x : Int)) = true := by simp; omega
        have okx : PrOk w3 ⟨hunkP nm k (gapL la i x) (gapL lb k y), cutA A c i, x - i, c - i, cutA B d k, y - k, d - k⟩ :=
          ⟨(HA.out.later HL3.out).cutA hix hxn hc, (HB.out.later HL3.out).cutA hky hym hd, by dsimp only; omega, by dsimp only; omega, by dsimp only; omega, by dsimp only; omega, hnm, Nat.zero_le _, by dsimp only [hunkP]; omega, by dsimp only [hunkP]; omega, fun s hs => HSA.out s (List.mem_of_mem_drop (List.mem_of_mem_take hs)), fun s hs => HSB.out s (List.mem_of_mem_drop (List.mem_of_mem_take hs))⟩
        have HHK : Hid (valsP (ys ++ [⟨hunkP nm k (gapL la i x) (gapL lb k y), cutA A c i, x - i, c - i, cutA B d k, y - k, d - k⟩]) ++ hunksTo nm la lb (L.drop (j + 1)) (x + 1) (y + 1) = linesP nm la lb) := by
          show _ = _
          rw [← hEq.out, HST.out, if_pos hxy]
          simp [valsP]
        have HOK := Lib.hid okx
        clear okx
        go_upto_region 12 with fail
        refine rlines_region rfl (by kernel_rfl) ⟨_, rfl, rfl, rfl, rfl, by kernel_rfl⟩ ⟨_, rfl, rfl, rfl, rfl, by kernel_rfl⟩ ⟨_, rfl, rfl, rfl, rfl, by kernel_rfl⟩ ⟨_, rfl, rfl, rfl, rfl, by kernel_rfl⟩ ⟨_, rfl, rfl, rfl, rfl, by kernel_rfl⟩ ⟨_, rfl, rfl, rfl, rfl, by kernel_rfl⟩ ⟨_, rfl, rfl, rfl, rfl, by kernel_rfl⟩ ⟨_, rfl, rfl, rfl, rfl, by kernel_rfl⟩ ⟨_, rfl, rfl, rfl, rfl, by kernel_rfl⟩ ⟨_, rfl, rfl, rfl, rfl, by kernel_rfl⟩ ⟨_, rfl, rfl, rfl, rfl, by kernel_rfl⟩ ⟨_, rfl, rfl, rfl, rfl, by kernel_rfl⟩ ⟨_, rfl, rfl, rfl, rfl, by kernel_rfl⟩ ⟨_, rfl, rfl, rfl, rfl, by kernel_rfl⟩ ⟨_, rfl, rfl, rfl, rfl, by kernel_rfl⟩ ⟨_, rfl, rfl, rfl, rfl, by kernel_rfl⟩ ⟨_, rfl, rfl, rfl, rfl, by kernel_rfl⟩ ⟨_, rfl, rfl, rfl, rfl, by kernel_rfl⟩ ⟨_, rfl, rfl, rfl, rfl, by kernel_rfl⟩ ⟨_, rfl, rfl, rfl, rfl, by kernel_rfl⟩ ⟨_, rfl, rfl, rfl, rfl, by kernel_rfl⟩ ⟨_, rfl, rfl, rfl, rfl, by kernel_rfl⟩ ⟨_, rfl, rfl, rfl, rfl, by kernel_rfl⟩ (of_decide_eq_true rfl) rfl rfl rfl rfl rfl rfl rfl rfl hlt P0.out P1.out hix hky hxn hym hc hd hO.out HOK.out (by omega) ?_
        intro D a wz so e7 st
        have ha := so.is
        simp only [List.foldl_cons, List.foldl_nil] at ha
        rw [e7] at ha
        generalize a.eval (.tmp 53) = y53 at ha
        generalize a.eval (.tmp 54) = y54 at ha
        generalize a.eval (.tmp 55) = y55 at ha
        generalize a.eval (.tmp 56) = y56 at ha
        generalize a.eval (.tmp 57) = y57 at ha
        generalize a.eval (.tmp 58) = y58 at ha
        generalize a.eval (.tmp 59) = y59 at ha
        generalize a.eval (.tmp 60) = y60 at ha
        generalize a.eval (.tmp 61) = y61 at ha
        generalize a.eval (.tmp 62) = y62 at ha
        generalize a.eval (.tmp 63) = y63 at ha
        generalize a.eval (.tmp 64) = y64 at ha
        generalize a.eval (.tmp 65) = y65 at ha
        generalize a.eval (.tmp 66) = y66 at ha
        generalize a.eval (.tmp 67) = y67 at ha
        generalize a.eval (.tmp 68) = y68 at ha
        generalize a.eval (.tmp 69) = y69 at ha
        generalize a.eval (.tmp 70) = y70 at ha
        generalize a.eval (.tmp 71) = y71 at ha
        generalize a.eval (.tmp 72) = y72 at ha
        generalize a.eval (.tmp 73) = y73 at ha
        generalize a.eval (.tmp 74) = y74 at ha
        have HO2 := Lib.hid (st.fin rfl)
        clear so st e7 hO HOK
        subst ha
        simp only [Act.put, List.setIfInBounds_toArray, List.set_cons_zero, List.set_cons_succ]
        have z0 := HO2.out.later.cell P0.out; have z1 := HO2.out.later.cell P1.out
        rw [Nat.add_zero] at z0
        go_wp2
        go_roundg (L.length - (j + 1))
        case measure => omega
        case rel => exact ⟨j + 1, x + 1, y + 1, D.v, ys ++ [⟨hunkP nm k (gapL la i x) (gapL lb k y), cutA A c i, x - i, c - i, cutA B d k, y - k, d - k⟩], by omega, Nat.le_refl _, by go_num, rfl, by go_num, by go_num, by simp; omega, HO2, HHK, HRI2⟩
      · by_cases h2 : k < y
        · have hxy : i < x ∨ k < y := .inr h2
          have hd1 : decide ((i : Int) < (x : Int)) = false := by simp; omega
          have hd2 : decide ((k : Int) < (y : Int)) = true := by simp; omega
          have okx : PrOk w3 ⟨hunkP nm k (gapL la i x) (gapL lb k y), cutA A c i, x - i, c - i, cutA B d k, y - k, d - k⟩ :=
            ⟨(HA.out.later HL3.out).cutA hix hxn hc, (HB.out.later HL3.out).cutA hky hym hd, by dsimp only; omega, by dsimp only; omega, by dsimp only; omega, by dsimp only; omega, hnm, Nat.zero_le _, by dsimp only [hunkP]; omega, by dsimp only [hunkP]; omega, fun s hs => HSA.out s (List.mem_of_mem_drop (List.mem_of_mem_take hs)), fun s hs => HSB.out s (List.mem_of_mem_drop (List.mem_of_mem_take hs))⟩
          have HHK : Hid (valsP (ys ++ [⟨hunkP nm k (gapL la i x) (gapL lb k y), cutA A c i, x - i, c - i, cutA B d k, y - k, d - k⟩]) ++ hunksTo nm la lb (L.drop (j + 1)) (x + 1) (y + 1) = linesP nm la lb) := by
            show _ = _
            rw [← hEq.out, HST.out, if_pos hxy]
            simp [valsP]
          have HOK := Lib.hid okx
          clear okx
          go_upto_region 12 with fail
          refine rlines_region rfl (by kernel_rfl) ⟨_, rfl, rfl, rfl, rfl, by kernel_rfl⟩ ⟨_, rfl, rfl, rfl, rfl, by kernel_rfl⟩ ⟨_, rfl, rfl, rfl, rfl, by kernel_rfl⟩ ⟨_, rfl, rfl, rfl, rfl, by kernel_rfl⟩ ⟨_, rfl, rfl, rfl, rfl, by kernel_rfl⟩ ⟨_, rfl, rfl, rfl, rfl, by kernel_rfl⟩ ⟨_, rfl, rfl, rfl, rfl, by kernel_rfl⟩ ⟨_, rfl, rfl, rfl, rfl, by kernel_rfl⟩ ⟨_, rfl, rfl, rfl, rfl, by kernel_rfl⟩ ⟨_, rfl, rfl, rfl, rfl, by kernel_rfl⟩ ⟨_, rfl, rfl, rfl, rfl, by kernel_rfl⟩ ⟨_, rfl, rfl, rfl, rfl, by kernel_rfl⟩ ⟨_, rfl, rfl, rfl, rfl, by kernel_rfl⟩ ⟨_, rfl, rfl, rfl, rfl, by kernel_rfl⟩ ⟨_, rfl, rfl, rfl, rfl, by kernel_rfl⟩ ⟨_, rfl, rfl, rfl, rfl, by kernel_rfl⟩ ⟨_, rfl, rfl, rfl, rfl, by kernel_rfl⟩ ⟨_, rfl, rfl, rfl, rfl, by kernel_rfl⟩ ⟨_, rfl, rfl, rfl, rfl, by kernel_rfl⟩ ⟨_, rfl, rfl, rfl, rfl, by kernel_rfl⟩ ⟨_, rfl, rfl, rfl, rfl, by kernel_rfl⟩ ⟨_, rfl, rfl, rfl, rfl, by kernel_rfl⟩ ⟨_, rfl, rfl, rfl, rfl, by kernel_rfl⟩ (of_decide_eq_true rfl) rfl rfl rfl rfl rfl rfl rfl rfl hlt P0.out P1.out hix hky hxn hym hc hd hO.out HOK.out (by omega) ?_
          intro D a wz so e7 st
          have ha := so.is
          simp only [List.foldl_cons, List.foldl_nil] at ha
          rw [e7] at ha
          generalize a.eval (.tmp 53) = y53 at ha
          generalize a.eval (.tmp 54) = y54 at ha
          generalize a.eval (.tmp 55) = y55 at ha
          generalize a.eval (.tmp 56) = y56 at ha
          generalize a.eval (.tmp 57) = y57 at ha
          generalize a.eval (.tmp 58) = y58 at ha
          generalize a.eval (.tmp 59) = y59 at ha
          generalize a.eval (.tmp 60) = y60 at ha
          generalize a.eval (.tmp 61) = y61 at ha
          generalize a.eval (.tmp 62) = y62 at ha
          generalize a.eval (.tmp 63) = y63 at ha
          generalize a.eval (.tmp 64) = y64 at ha
          generalize a.eval (.tmp 65) = y65 at ha
          generalize a.eval (.tmp 66) = y66 at ha
          generalize a.eval (.tmp 67) = y67 at ha
          generalize a.eval (.tmp 68) = y68 at ha
          generalize a.eval (.tmp 69) = y69 at ha
          generalize a.eval (.tmp 70) = y70 at ha
          generalize a.eval (.tmp 71) = y71 at ha
          generalize a.eval (.tmp 72) = y72 at ha
          generalize a.eval (.tmp 73) = y73 at ha
          generalize a.eval (.tmp 74) = y74 at ha
          have HO2 := Lib.hid (st.fin rfl)
          clear so st e7 hO HOK
          subst ha
          simp only [Act.put, List.setIfInBounds_toArray, List.set_cons_zero, List.set_cons_succ]
          have z0 := HO2.out.later.cell P0.out; have z1 := HO2.out.later.cell P1.out
          rw [Nat.add_zero] at z0
          go_wp2
          go_roundg (L.length - (j + 1))
          case measure => omega
          case rel => exact ⟨j + 1, x + 1, y + 1, D.v, ys ++ [⟨hunkP nm k (gapL la i x) (gapL lb k y), cutA A c i, x - i, c - i, cutA B d k, y - k, d - k⟩], by omega, Nat.le_refl _, by go_num, rfl, by go_num, by go_num, by simp; omega, HO2, HHK, HRI2⟩
        · have hd1 : decide ((i : Int) < (x : Int)) = false := by simp; omega
          have hd2 : decide ((k : Int) < (y : Int)) = false := by simp; omega
          have HHK : Hid (valsP ys ++ hunksTo nm la lb (L.drop (j + 1)) (x + 1) (y + 1) = linesP nm la lb) := by
            show _ = _
            rw [← hEq.out, HST.out, if_neg (by omega), List.nil_append]
          go_wp2
          go_roundg (L.length - (j + 1))
          case measure => omega
          case rel => exact ⟨j + 1, x + 1, y + 1, v, ys, by omega, Nat.le_refl _, by go_num, rfl, by go_num, by go_num, by omega, hO, HHK, HRI2⟩
    · have HE : Hid (valsP ys = linesP nm la lb) := by
        have := hEq.out
        rw [List.drop_of_length_le (by omega)] at this
        simp only [hunksTo, List.append_nil] at this
        exact this
      go_wp2
      go_ret
      exact ⟨v, ys, rfl, hO.out.base HL3.out, HE.out⟩

end Go.Proofs.Ytbhnbkcokhfopaa

/-
  Rows of prims as plain lists: when they are the same, how many lines they have, the trees that they make. Nothing of any program.
-/
namespace Go.Proofs.Ytbhnbkcokhfopaa
open Go.RowKit

/-- Are two rows the same? -/
def sameS : List Pr → List Pr → Bool
  | [], [] => true
  | p :: a, q :: b => sameP p q && sameS a b
  | _, _ => false
theorem sameS_iff : ∀ {a b : List Pr}, sameS a b = true ↔ a = b
  | [], [] => by simp [sameS]
  | [], q :: b => by simp [sameS]
  | p :: a, [] => by simp [sameS]
  | p :: a, q :: b => by simp only [sameS, Bool.and_eq_true, sameP_iff, sameS_iff (a := a) (b := b), List.cons.injEq]
theorem sameS_self (a : List Pr) : sameS a a = true := sameS_iff.2 rfl
theorem sameS_length {a b : List Pr} (h : a.length ≠ b.length) : sameS a b = false := by
  cases hs : sameS a b
  · rfl
  · exact absurd (congrArg List.length (sameS_iff.1 hs)) h
/-- They differ at a place. -/
theorem sameS_at {a b : List Pr} {k : Nat} {p q : Pr} (h1 : a[k]? = some p) (h2 : b[k]? = some q) (h : sameP p q = false) : sameS a b = false := by
  cases hs : sameS a b
  · rfl
  · rw [sameS_iff.1 hs, h2] at h1
    cases h1
    rw [sameP_self] at h
    cases h
/-- They are the same at all places. -/
theorem sameS_all {a b : List Pr} (hl : a.length = b.length) (h : ∀ (k : Nat) (p q : Pr), a[k]? = some p → b[k]? = some q → sameP p q = true) : sameS a b = true := by
  refine sameS_iff.2 (List.ext_getElem? fun k => ?_)
  rcases Nat.lt_or_ge k a.length with hk | hk
  · rw [List.getElem?_eq_getElem hk, List.getElem?_eq_getElem (by omega)]
    rw [sameP_iff.1 (h k _ _ (List.getElem?_eq_getElem hk) (List.getElem?_eq_getElem (by omega)))]
  · rw [List.getElem?_eq_none hk, List.getElem?_eq_none (by omega)]

/-- How many lines. -/
def linesS (l : List Pr) : Nat := (l.map fun p => p.old.length + p.new.length).sum
theorem linesS_nil : linesS [] = 0 := rfl
theorem linesS_cons (p : Pr) (l : List Pr) : linesS (p :: l) = p.old.length + p.new.length + linesS l := by simp [linesS]
theorem linesS_append (l m : List Pr) : linesS (l ++ m) = linesS l + linesS m := by simp [linesS]
theorem invert_lines (p : Pr) : (invertP p).old.length + (invertP p).new.length = p.old.length + p.new.length := by
  unfold invertP
  repeat' split
  all_goals first | rfl | (dsimp only; omega)
theorem linesS_invert (l : List Pr) : linesS (invertS l) = linesS l := by
  induction l with
  | nil => rfl
  | cons p l ih => rw [invertS_cons, linesS_append, ih, linesS_cons, linesS_cons, linesS_nil, invert_lines]; omega
theorem swap1_lines {p : Pr} {m : List Pr} {r : List Pr × Pr} (h : swap1 p m = some r) : linesS r.1 = linesS m ∧ r.2.old = p.old ∧ r.2.new = p.new := by
  induction m generalizing p r with
  | nil => cases h; exact ⟨rfl, rfl, rfl⟩
  | cons q m ih =>
    obtain ⟨q', p1, m', p', h1, h2, rfl⟩ := swap1_cons.1 h
    obtain ⟨k1, k2, k3⟩ := ih h2
    obtain ⟨-, e1, e2, -, -, e3, e4, -⟩ := swap_keeps h1
    dsimp only at k1 k2 k3 ⊢
    rw [linesS_cons, linesS_cons, e1, e2, k1]
    exact ⟨rfl, k2.trans e3, k3.trans e4⟩
theorem swapS_lines {l m a b : List Pr} (h : swapS l m = some (a, b)) : linesS a = linesS m ∧ linesS b = linesS l := by
  induction l generalizing a b with
  | nil => cases h; exact ⟨rfl, rfl⟩
  | cons p l ih =>
    obtain ⟨m1, l', m2, p', h1, h2, e⟩ := swapS_cons.1 h
    cases e
    obtain ⟨k1, k2⟩ := ih h1
    obtain ⟨j1, j2, j3⟩ := swap1_lines h2
    dsimp only at j1 j2 j3
    rw [linesS_cons, linesS_cons, j2, j3, k2, j1, k1]
    exact ⟨rfl, rfl⟩
theorem rebase_lines {l m a : List Pr} (h : rebaseS m l = some a) : linesS a = linesS m ∧ a.length = m.length := by
  obtain ⟨b, hb⟩ := rebase_iff.1 h
  exact ⟨(swapS_lines hb).1, (swapS_length hb).1⟩
theorem splitStep_lines (w : Bool) (s : List Pr × List Pr) (p : Pr) : linesS (splitStep w s p).1 + linesS (splitStep w s p).2 = linesS s.1 + linesS s.2 + linesS [p] ∧ (splitStep w s p).1.length + (splitStep w s p).2.length = s.1.length + s.2.length + 1 := by
  unfold splitStep
  cases hs : swapS s.2 [p] with
  | none => simp only [linesS_append, List.length_append, List.length_cons, List.length_nil]; omega
  | some r =>
    obtain ⟨a, b⟩ := r
    have h1 := swapS_lines hs
    have h2 := swapS_length hs
    simp only [List.length_cons, List.length_nil] at h2
    dsimp only
    split
    · simp only [linesS_append, List.length_append]; omega
    · simp only [linesS_append, List.length_append, List.length_cons, List.length_nil]; omega
theorem splitS_lines (wanted : Nat → Bool) (l : List Pr) (k : Nat) (s : List Pr × List Pr) : linesS (splitS wanted k s l).1 + linesS (splitS wanted k s l).2 = linesS s.1 + linesS s.2 + linesS l ∧ (splitS wanted k s l).1.length + (splitS wanted k s l).2.length = s.1.length + s.2.length + l.length := by
  induction l generalizing k s with
  | nil => exact ⟨rfl, rfl⟩
  | cons p l ih =>
    have h1 := ih (k + 1) (splitStep (wanted k) s p)
    have h2 := splitStep_lines (wanted k) s p
    simp only [splitS]
    rw [linesS_cons, linesS_nil] at h2
    rw [linesS_cons, List.length_cons]
    omega
/-- What stands behind k rounds. -/
theorem splitS_take (wanted : Nat → Bool) (l : List Pr) (j : Nat) (s : List Pr × List Pr) {k : Nat} {p : Pr} (h : l[k]? = some p) : splitS wanted j s (l.take (k + 1)) = splitStep (wanted (j + k)) (splitS wanted j s (l.take k)) p := by
  induction l generalizing j s k with
  | nil => simp at h
  | cons q l ih =>
    cases k with
    | zero => simp at h; subst h; simp [splitS]
    | succ k =>
      simp only [List.take_succ_cons, splitS]
      rw [ih (j + 1) _ (by simpa using h), show j + 1 + k = j + (k + 1) by omega]

/-- With an error the tree is as it was. -/
theorem apply_errS {t : Tr} {p : Pr} (h : (applyP t p).2 ≠ 0) : (applyP t p).1 = t := by
  revert h
  unfold applyP
  split
  · exact fun _ => rfl
  split
  · unfold hunkT
    split
    · exact fun _ => rfl
    · split
      · exact fun h => absurd rfl h
      · exact fun _ => rfl
  split
  · split
    · exact fun _ => rfl
    · exact fun h => absurd rfl h
  split
  · split
    · exact fun _ => rfl
    · split
      · exact fun _ => rfl
      · exact fun h => absurd rfl h
  · split
    · exact fun _ => rfl
    · split
      · exact fun _ => rfl
      · exact fun h => absurd rfl h

section
variable {k h : Nat} {t u : Tr} {l : List Pr}
theorem runS_sized (hs : Sized k h t) : Sized (k + l.length) (h + linesS l) (runS t l).1 := by
  induction l generalizing k h t with
  | nil => exact hs
  | cons p l ih =>
    have h1 := hs.apply p
    simp only [runS]
    split
    · exact (ih h1).mono (by simp; omega) (by rw [linesS_cons]; omega)
    · exact h1.mono (by simp) (by rw [linesS_cons]; omega)
theorem runS_snoc {p : Pr} (h : runS t l = (u, 0)) : runS t (l ++ [p]) = applyP u p := by
  induction l generalizing t with
  | nil =>
    simp only [runS, Prod.mk.injEq, and_true] at h
    subst h
    simp only [List.nil_append, runS]
    split
    · rename_i e; rw [Prod.ext_iff]; exact ⟨rfl, e.symm⟩
    · rfl
  | cons q l ih =>
    obtain ⟨s, h1, h2⟩ := runS_cons.1 h
    simp only [List.cons_append, runS, h1, if_true]
    exact ih h2
/-- The first error. -/
theorem runS_err {p : Pr} {m : List Pr} (h : runS t l = (u, 0)) (he : (applyP u p).2 ≠ 0) : runS t (l ++ p :: m) = applyP u p := by
  induction l generalizing t with
  | nil =>
    simp only [runS, Prod.mk.injEq, and_true] at h
    subst h
    simp only [List.nil_append, runS]
    rw [if_neg he]
  | cons q l ih =>
    obtain ⟨s, h1, h2⟩ := runS_cons.1 h
    simp only [List.cons_append, runS, h1, if_true]
    exact ih h2
theorem applyS_err {p : Pr} {m : List Pr} (h : runS t l = (u, 0)) (he : (applyP u p).2 ≠ 0) : applyS t (l ++ p :: m) = (t, (applyP u p).2) := by
  unfold applyS
  rw [runS_err h he, if_neg he]
end

end Go.Proofs.Ytbhnbkcokhfopaa

/-
  One file's hunks: applied, undone, swapped. Nothing of any program.
-/
namespace Go.Proofs.Ytbhnbkcokhfopaa
open Go.RowKit

theorem costP_invert (l : List Pr) : costP (invertS l) = costP l := linesS_invert l
theorem named_tA : namedB tA = true := by decide
theorem add_tA : addT [] tA = ([(tA, [])], 0) := by decide
theorem put_tA {l : List ByteArray} (h : allB l = true) : putT [(tA, [])] tA l = ([(tA, l)], 0) := by
  unfold putT
  rw [if_neg (by decide), if_neg (by rw [h]; simp)]
  rfl
theorem one_sized {l : List ByteArray} (h : allB l = true) (hl : l.length ≤ 40) : Sized 1 40 [(tA, l)] := ⟨by simp, fun f hf => by simp at hf; subst hf; exact ⟨named_tA, h, hl⟩⟩
theorem one_run {a b : List ByteArray} (ha : allB a = true) (hb : allB b = true) (h1 : a.length ≤ 40) (h2 : b.length ≤ 40) : runS [(tA, a)] (linesP tA a b) = ([(tA, b)], 0) := by
  have := lines_run (name := tA) (t := [(tA, a)]) (by simp [Rising]) named_tA ha hb (by omega) (by omega) rfl
  rw [this]
  rfl
theorem one_back {a b : List ByteArray} (ha : allB a = true) (hb : allB b = true) (h1 : a.length ≤ 40) (h2 : b.length ≤ 40) : runS [(tA, b)] (invertS (linesP tA a b)) = ([(tA, a)], 0) := runS_back (by simp [Rising]) (one_run ha hb h1 h2)

theorem run_right {t u : Tr} {l : List Pr} (ht : Rising t) (h : runS t l = (u, 0)) : ∀ p ∈ l, rightP p = true := by
  induction l generalizing t with
  | nil => intro p hp; cases hp
  | cons q l ih =>
    obtain ⟨s, h1, h2⟩ := runS_cons.1 h
    obtain ⟨h3, h4, _⟩ := apply_makes ht h1
    intro p hp
    rcases List.mem_cons.1 hp with rfl | hp
    · exact h3
    · exact ih h4 h2 p hp
/-- Two hunks, the second one behind the first one: they swap, and are what they are, but for the second one's place. -/
theorem hunks_swap {p q : Pr} (hp : rightP p = true) (hq : rightP q = true) (kp : p.kind = 0) (kq : q.kind = 0) (hn : p.name = q.name) (hgt : q.place > p.place + p.new.length) (h0 : 0 ≤ p.place) (hq1 : q.place ≤ 1000) (hpo : p.old.length ≤ 1000) :
    swapP p q = some (placed q (q.place - p.new.length + p.old.length), p) := by
  have ht : twoP p q = (placed q (q.place - p.new.length + p.old.length), p, true) := by
    unfold twoP
    rw [if_pos ⟨kp, kq, hn⟩, if_pos hgt]
  have hr : rightP (placed q (q.place - p.new.length + p.old.length)) = true := by
    have h := hq
    simp only [rightP, kq, if_true, Bool.and_eq_true, decide_eq_true_eq] at h
    simp only [rightP, placed, kq, if_true, Bool.and_eq_true, decide_eq_true_eq]
    exact ⟨h.1, ⟨⟨⟨⟨h.2.1.1.1.1, by omega, by omega⟩, h.2.1.1.2⟩, h.2.1.2⟩, h.2.2⟩⟩
  unfold swapP
  rw [ht]
  simp [hp, hq, hr]
theorem lines_swap {a b : List ByteArray} (ha : allB a = true) (hb : allB b = true) (h1 : a.length ≤ 40) (h2 : b.length ≤ 40) {j k : Nat} (hjk : j < k) {p q : Pr} (hp : (linesP tA a b)[j]? = some p) (hq : (linesP tA a b)[k]? = some q) :
    ∃ z, swapP p q = some (placed q z, p) := by
  have hr := run_right (by simp [Rising]) (one_run ha hb h1 h2)
  have hpr := (common_all (a := a) (b := b) (by omega) (by omega)).1
  have hpl := hunks_place (name := tA) hpr (Nat.zero_le _)
  have hap := hunks_apart (name := tA) hpr (Nat.zero_le _)
  rw [← lines_go (by omega) (by omega)] at hpl hap
  have hpm := List.mem_of_getElem? hp; have hqm := List.mem_of_getElem? hq
  obtain ⟨p1, p2, p3, p4, p5⟩ := hpl p hpm
  obtain ⟨q1, q2, q3, q4, q5⟩ := hpl q hqm
  obtain ⟨hj, rfl⟩ := List.getElem?_eq_some_iff.1 hp
  obtain ⟨hk, rfl⟩ := List.getElem?_eq_some_iff.1 hq
  have hgt := List.pairwise_iff_getElem.1 hap j k hj hk hjk
  exact ⟨_, hunks_swap (hr _ hpm) (hr _ hqm) p1 q1 (by rw [p2, q2]) hgt (by omega) (by omega) (by omega)⟩

end Go.Proofs.Ytbhnbkcokhfopaa

/-
  What the document's All comes to, as a call.
-/
namespace Go.Proofs.Ytbhnbkcokhfopaa
open Go.RowKit Go.Maps

set_option maxRecDepth 100000 in
set_option maxHeartbeats 1600000 in
theorem refAllP_any (A B : Option Addr) (n c m d : Nat) (xs ys : List PrC) (w : World) (hx : PsOk w A n xs) (hy : PsOk w B m ys) (hn : n ≤ 65536) (hm : m ≤ 65536) :
    Calls Try.prog 15 #[.slice A n c, .slice B m d] w (Says (sameS (valsP xs) (valsP ys)) w) := by
  have HX := Lib.hid hx; have HY := Lib.hid hy; clear hx hy
  by_cases hnm : n = m
  case neg =>
    have HE : Hid (sameS (valsP xs) (valsP ys) = false) := sameS_length (by rw [valsP_length, valsP_length, HX.out.len, HY.out.len]; exact hnm)
    rw [HE.out]
    have hne : ((n : Int) == (m : Int)) = false := by rw [beq_eq_false_iff_ne]; omega
    go_enter Try.func15, Try.ntmps15
    go_wp2
    go_ret
    exact ⟨rfl, Later.refl w⟩
  subst hnm
  go_enter Try.func15, Try.ntmps15
  go_wp2
  go_loopg [5] (n + 1) (fun g s7 wr => ∃ k : Nat, k ≤ n ∧ n - k ≤ g ∧ s7 = .int .i64 k ∧ Hid (∀ j (p q : Pr), j < k → (valsP xs)[j]? = some p → (valsP ys)[j]? = some q → sameP p q = true) ∧ Hid (Later w wr))
  case atStart => exact ⟨0, Nat.zero_le _, by omega, rfl, fun j p q hj => by omega, Later.refl w⟩
  case round =>
    obtain ⟨k, hk, hg, rfl, hall, hwr⟩ := hrel
    by_cases hlt : k < n
    · obtain ⟨b, o, x, rfl, hz, hok, g0, g1, g2, g3, g4, g5⟩ := (HX.out.later hwr.out).get hlt
      obtain ⟨b', o', y, rfl, hz', hok', k0, k1, k2, k3, k4, k5⟩ := (HY.out.later hwr.out).get hlt
      have HLB : Hid (Later wr (wr)) := Later.refl wr
      have HAT := Lib.hid (valsP_at hz); have HAT' := Lib.hid (valsP_at hz')
      have HR := Lib.hid (fun (w1 : World) (h : Later wr w1) => refSameP_any x y w1 (hok.later h) (hok'.later h))
      clear hok hok' hz hz'
      unfold prV at HR
      cases hr : sameP x.v y.v
      · rw [hr] at HR
        have HNO : Hid (sameS (valsP xs) (valsP ys) = false) := sameS_at HAT.out HAT'.out hr
        rw [HNO.out]
        clear hr
        go_wp2
        go_region_with (go_at_call 39; refine (HR.out _ (by first | exact Later.refl _ | exact (Later.refl _).drew | exact (Later.refl _).drewN _)).mono ?_; rintro e w2 ⟨rfl, hl2⟩; have HL2 : Hid (Later wr w2) := Later.trans (by first | exact Later.refl _ | exact (Later.refl _).drew | exact (Later.refl _).drewN _) hl2; clear hl2)
        all_goals go_wp2
        all_goals go_ret
        all_goals exact ⟨rfl, (hwr.out.trans HL2.out)⟩
      · rw [hr] at HR
        have HNX : Hid (∀ j (p q : Pr), j < k + 1 → (valsP xs)[j]? = some p → (valsP ys)[j]? = some q → sameP p q = true) := fun j p q hj h1 h2 => by
          by_cases e : j = k
          · subst e
            rw [HAT.out] at h1; rw [HAT'.out] at h2
            cases h1; cases h2
            exact hr
          · exact hall.out j p q (by omega) h1 h2
        clear hr
        go_wp2
        go_region_with (go_at_call 39; refine (HR.out _ (by first | exact Later.refl _ | exact (Later.refl _).drew | exact (Later.refl _).drewN _)).mono ?_; rintro e w2 ⟨rfl, hl2⟩; have HL2 : Hid (Later wr w2) := Later.trans (by first | exact Later.refl _ | exact (Later.refl _).drew | exact (Later.refl _).drewN _) hl2; clear hl2)
        all_goals go_wp2
        all_goals go_roundg (n - (k + 1))
        all_goals first | omega | exact ⟨k + 1, by omega, Nat.le_refl _, by go_num, HNX, hwr.out.trans HL2.out⟩
    · have HE : Hid (sameS (valsP xs) (valsP ys) = true) := sameS_all (by rw [valsP_length, valsP_length, HX.out.len, HY.out.len]) fun j p q h1 h2 => hall.out j p q (by
        have := (List.getElem?_eq_some_iff.1 h1).1
        rw [valsP_length, HX.out.len] at this
        omega) h1 h2
      go_wp2
      go_ret
      exact ⟨by rw [HE.out]; rfl, hwr.out⟩


end Go.Proofs.Ytbhnbkcokhfopaa

/-
  A prim that is written into a row of prims.
-/
namespace Go.Proofs.Ytbhnbkcokhfopaa
open Go.RowKit Go.Maps

theorem flat_set (v0 v1 v2 v3 v4 v5 : Value) : ∀ {css : List (List Value)}, (∀ cs ∈ css, cs.length = 6) → ∀ {i : Nat}, i < css.length → ((((((css.flatten.set (i * 6) v0).set (i * 6 + 1) v1).set (i * 6 + 2) v2).set (i * 6 + 3) v3).set (i * 6 + 4) v4).set (i * 6 + 5) v5) = (css.set i [v0, v1, v2, v3, v4, v5]).flatten
  | [], _, _, h => absurd h (Nat.not_lt_zero _)
  | c :: css, hk, i, hi => by
    match c, hk c List.mem_cons_self with
    | [a0, a1, a2, a3, a4, a5], _ =>
      cases i with
      | zero => simp
      | succ i =>
        have ih := flat_set v0 v1 v2 v3 v4 v5 (css := css) (fun cs h => hk cs (List.mem_cons_of_mem _ h)) (i := i) (by simpa using hi)
        rw [List.set_cons_succ, List.flatten_cons, List.flatten_cons, ← ih]
        simp only [show (i + 1) * 6 = i * 6 + 6 by omega, show i * 6 + 6 + 1 = i * 6 + 1 + 6 by omega, show i * 6 + 6 + 2 = i * 6 + 2 + 6 by omega, show i * 6 + 6 + 3 = i * 6 + 3 + 6 by omega, show i * 6 + 6 + 4 = i * 6 + 4 + 6 by omega, show i * 6 + 6 + 5 = i * 6 + 5 + 6 by omega]
        rfl
theorem turned_sets (w : World) (g o i : Nat) (v0 v1 v2 v3 v4 v5 : Value) : Turned g w ((((((w.setCell ⟨g, o + i * 6, none⟩ v0).setCell ⟨g, o + i * 6 + 1, none⟩ v1).setCell ⟨g, o + i * 6 + 2, none⟩ v2).setCell ⟨g, o + i * 6 + 3, none⟩ v3).setCell ⟨g, o + i * 6 + 4, none⟩ v4).setCell ⟨g, o + i * 6 + 5, none⟩ v5) :=
  (((((turned_set w g _ v0).trans (turned_set _ g _ v1)).trans (turned_set _ g _ v2)).trans (turned_set _ g _ v3)).trans (turned_set _ g _ v4)).trans (turned_set _ g _ v5)

section
variable {e : TypeId} {w0 w w' : World} {A : Option Addr} {n c g o : Nat} {xs : List PrC}
theorem OwnPs.ps (h : OwnPs e w0 w (.slice A n c) xs) : PsOk w A n xs := by
  obtain ⟨A', c', hv, _, hr⟩ := h.row
  cases hv
  exact hr
theorem OwnPs.size (h : OwnPs e w0 w (.slice A n c) xs) : xs.length = n := h.ps.len
/-- The block of such a row. -/
theorem OwnPs.at (h : OwnPs e w0 w (.slice (some ⟨g, o, none⟩) n c) xs) : o = 0 ∧ ∃ cur, w.heap[g]? = some (.cells cur e (0, 0)) ∧ cur.size = c * 6 ∧ n ≤ c ∧ c ≤ maxLen ∧ cur.toList.take (n * 6) = (xs.map prL).flatten := by
  have hs := h.size
  rcases h.own.1.2 with ⟨hv, _⟩ | ⟨g', cap, cur, hv, _, hh, hnc, hm, hc, ht⟩
  · cases hv
  · simp only [List.length_map] at hv hnc ht
    rw [hs] at hv hnc ht
    cases hv
    exact ⟨rfl, cur, hh, hc, hnc, hm, ht⟩
theorem OwnPs.frozen (h : OwnPs e w0 w (.slice (some ⟨g, o, none⟩) n c) xs) (i : Nat) : w.frozen? ⟨g, i, none⟩ = false := by
  obtain ⟨_, cur, hh, _⟩ := h.at
  exact frozen_no hh i
/-- Written at place i. -/
theorem OwnPs.set (h : OwnPs e w0 w (.slice (some ⟨g, o, none⟩) n c) xs) {i : Nat} (hi : i < n) (x : PrC) (hx : PrOk w x) (ha : Away g x) :
    OwnPs e w0 ((((((w.setCell ⟨g, o + i * 6, none⟩ (.int .i64 x.v.kind)).setCell ⟨g, o + i * 6 + 1, none⟩ (.string x.v.name)).setCell ⟨g, o + i * 6 + 2, none⟩ (.string x.v.to)).setCell ⟨g, o + i * 6 + 3, none⟩ (.int .i64 x.v.place)).setCell ⟨g, o + i * 6 + 4, none⟩ (.slice x.A x.n x.c)).setCell ⟨g, o + i * 6 + 5, none⟩ (.slice x.B x.m x.d)) (.slice (some ⟨g, o, none⟩) n c) (xs.set i x) := by
  have hsz := h.size
  obtain ⟨rfl, cur, hh, hcs, hnc, hm, ht⟩ := h.at
  have hb := h.block g rfl
  have htn := turned_sets w g 0 i (.int .i64 x.v.kind) (.string x.v.name) (.string x.v.to) (.int .i64 x.v.place) (.slice x.A x.n x.c) (.slice x.B x.m x.d)
  have hl := h.later.turn htn hb
  have hbox := (((((BoxAt.set (show BoxAt w g cur e from hh) (0 + i * 6) (.int .i64 x.v.kind)).set (0 + i * 6 + 1) (.string x.v.name)).set (0 + i * 6 + 2) (.string x.v.to)).set (0 + i * 6 + 3) (.int .i64 x.v.place)).set (0 + i * 6 + 4) (.slice x.A x.n x.c)).set (0 + i * 6 + 5) (.slice x.B x.m x.d)
  have hlen : (xs.map prL).length = n := by simp [hsz]
  refine ⟨⟨⟨?_, .inr ⟨g, c, _, ?_, hb, hbox, ?_, hm, ?_, ?_⟩⟩, ?_, hl⟩, ?_, ?_⟩
  · rw [flat_length (k := 6) (by intro cs hcs; obtain ⟨y, _, rfl⟩ := List.mem_map.1 hcs; rfl)]
  · simp [hsz]
  · simp [hsz]; exact hnc
  · simpa using hcs
  · simp only [List.length_map, List.length_set, Array.toList_setIfInBounds, List.take_set, hsz, ht, Nat.zero_add]
    rw [flat_set _ _ _ _ _ _ (by intro cs hcs; obtain ⟨y, _, rfl⟩ := List.mem_map.1 hcs; rfl) (by simp [hsz]; exact hi), List.map_set]
    rfl
  · intro cs hcs
    obtain ⟨y, _, rfl⟩ := List.mem_map.1 hcs
    rfl
  · intro y hy
    have h1 : PrOk w y ∧ Away g y := by
      rcases List.mem_or_eq_of_mem_set hy with h2 | rfl
      · exact ⟨h.ok y h2, h.away y h2 g rfl⟩
      · exact ⟨hx, ha⟩
    exact h1.1.off htn h1.2
  · intro y hy g' hg'
    cases hg'
    rcases List.mem_or_eq_of_mem_set hy with h2 | rfl
    · exact h.away y h2 _ rfl
    · exact ha
end

theorem grown_later {w w' : World} (h : Later w w') (r : Option Nat) : w.grownBy w' r := ⟨h.os, h.tape, h.output, h.size, fun i hi _ => h.block i hi⟩
theorem grown_trans {w w' w'' : World} {r : Option Nat} (h : w.grownBy w' r) (k : w'.grownBy w'' r) : w.grownBy w'' r :=
  ⟨k.os.trans h.os, k.tape.trans h.tape, k.output.trans h.output, Nat.le_trans h.size k.size, fun i hi hne => (k.block i (Nat.lt_of_lt_of_le hi h.size) hne).trans (h.block i hi hne)⟩
/-- What was made since is turned: all that was there is as it was. -/
theorem Later.grown {w0 w w' : World} {v : Value} (h : Later w0 w) (hg : w.grownBy w' v.ownBlock) (hb : ∀ b, v.ownBlock = some b → w0.heap.size ≤ b) : Later w0 w' := Below.grown h hg h.size hb
theorem results_one {P : Program} {fn : Func} {p u : Tmp} {ty : TypeId} (h : fn.results = #[.cell p ty, .tmp u]) (tmps : Array Value) (w : World) (g : Nat) (t : TypeId) (cs : Array Value) (fr : Nat × Nat) (d : TypeDesc) (v : Value)
    (hp : tmps.getD p undef = .pointer (some ⟨g, 0, none⟩)) (hv : tmps.getD u undef = v) (hg : w.heap[g]? = some (.cells cs t fr))
    (hu : P.underlying ty = some d) (hd : (match d with | .struct _ | .array _ _ => true | _ => false) = true) (hi : (P.info? ty).map (·.size) = some cs.size) :
    (results fn tmps).run P w = .ok (.tuple #[.agg cs, v]) w := by
  have hp' : tmps[p]?.getD undef = .pointer (some ⟨g, 0, none⟩) := by simpa using hp
  have hv' : tmps[u]?.getD undef = v := by simpa using hv
  simp [results, h, hp', hv', asAddr, run_loadVar_row w g t ty cs fr d hg hu hd hi]

end Go.Proofs.Ytbhnbkcokhfopaa

/-
  Stores of prims, as laws of the walk: into a block, into a row.
-/
namespace Go.Proofs.Ytbhnbkcokhfopaa
open Go.RowKit Go.Maps

theorem prV_is (x : PrC) : prV x = .agg (prL x).toArray := rfl
theorem prL_one (x : PrC) : (prL x).toArray.all (·.oneCell') = true := by simp [prL, Value.oneCell']
/-- A block that was made since is turned. -/
theorem grown_new {w w1 w2 : World} {r : Option Nat} {g : Nat} (h : w.grownBy w1 r) (k : Turned g w1 w2) (hg : w.heap.size ≤ g) : w.grownBy w2 r :=
  ⟨k.os.trans h.os, k.tape.trans h.tape, k.output.trans h.output, Nat.le_trans h.size k.size, fun i hi hne => (k.block i (Nat.lt_of_lt_of_le hi h.size) (by simp; omega)).trans (h.block i hi hne)⟩
section
variable {ops : Array Oper} {rest : List Oper} {op : Oper} {a : Act} {w w0 : World} {Q : Exit → Act → World → Prop}
theorem put_none (a : Act) (v : Value) : a.put none v = a := rfl
/-- A prim is written into a block. -/
theorem wpList_store_box (hgd : op.guard = none) (hd : op.dst = none) (T : TypeId) (j k : Tmp) (ho : op.op = .store T (.tmp j) (.tmp k)) (hi : (Try.prog.info? T).map (·.size) = some 6) (g : Nat) (x : PrC) (hj : a.eval (.tmp j) = .pointer (some ⟨g, 0, none⟩)) (hv : a.eval (.tmp k) = prV x)
    {cs : Array Value} {t : TypeId} (hb : BoxAt w g cs t) (hs : cs.size = 6) (h : ∀ w', BoxAt w' g (prL x).toArray t → Turned g w w' → wpList Try.prog ops Q rest a w') : wpList Try.prog ops Q (op :: rest) a w := by
  refine wpList_store_row hgd T (.tmp j) (.tmp k) ho g (prL x).toArray hj (hv.trans (prV_is x)) t cs hb hi hs (prL_one x) ?_
  rw [hd, put_none]
  refine h _ ?_ ?_
  · exact setRow_heap w g cs _ t _ hb
  · exact ⟨rfl, rfl, rfl, by simp, fun i hi hne => setRow_other w g i _ (fun e => hne (by rw [e]))⟩
/-- A prim is written into a row. -/
theorem wpList_store_ps (hgd : op.guard = none) (hd : op.dst = none) (T : TypeId) (j k : Tmp) (ho : op.op = .store T (.tmp j) (.tmp k)) (hi : (Try.prog.info? T).map (·.size) = some 6) {e : TypeId} {g o n c i : Nat} {xs : List PrC} (x : PrC) (hj : a.eval (.tmp j) = .pointer (some ⟨g, o + i * 6, none⟩)) (hv : a.eval (.tmp k) = prV x)
    (hown : OwnPs e w0 w (.slice (some ⟨g, o, none⟩) n c) xs) (hin : i < n) (hx : PrOk w x) (ha : Away g x) (h : ∀ w', OwnPs e w0 w' (.slice (some ⟨g, o, none⟩) n c) (xs.set i x) → Turned g w w' → wpList Try.prog ops Q rest a w') : wpList Try.prog ops Q (op :: rest) a w := by
  obtain ⟨b', o', q, hA, hz, hok, g0, g1, g2, g3, g4, g5⟩ := hown.ps.get hin
  cases hA
  have hth : w.there g (o + i * 6) 6 := by
    intro r hr
    refine ⟨?_, hown.frozen _⟩
    match r, hr with
    | 0, _ => rw [Nat.add_zero, g0]; rfl
    | 1, _ => rw [g1]; rfl
    | 2, _ => rw [g2]; rfl
    | 3, _ => rw [g3]; rfl
    | 4, _ => rw [g4]; rfl
    | 5, _ => rw [g5]; rfl
  refine wpList_store_mid hgd T (.tmp j) (.tmp k) ho g (o + i * 6) (prL x).toArray hj (hv.trans (prV_is x)) hth hi (prL_one x) ?_
  rw [hd, put_none]
  exact h _ (hown.set hin x hx ha) (turned_sets w g o i _ _ _ _ _ _)
end

end Go.Proofs.Ytbhnbkcokhfopaa

/-
  More operations of a region that draws its order: rows of prims, boxes of one cell, indices.
-/
namespace Go.Proofs.Ytbhnbkcokhfopaa
open Go.RowKit Go.Maps

section
variable {ops : Array Oper} {Q : Exit → Act → World → Prop} {K : Act → World → Prop} {i : Nat} {dst : Option Tmp} {js : List Nat} {a : Act} {w w0 : World}
/-- A box of one slice is read. -/
theorem OpIs.loadS {k : Tmp} {g : Nat} {v : Value} {t : TypeId} (h : OpIs ops i (.load 33 (.tmp k)) dst js) (he : a.eval (.tmp k) = .pointer (some ⟨g, 0, none⟩)) (hb : BoxAt w g #[v] t) (hk : K (a.put dst v) w) : wpOp Try.prog ops Q i K a w :=
  h.go fun o h1 h2 => by
    have hc := hb.cell (i := 0) rfl
    have hr : (execOp a.eval o).run Try.prog w = .ok (.value v) w := by
      clear hb hk
      unfold execOp
      rw [h1]
      dsimp only
      rw [he]
      go_simp
    unfold Oper.wp
    rw [hr]
    show K _ _
    rw [h2]
    exact hk
/-- A slice is written into its box. -/
theorem OpIs.storeS {j k : Tmp} {g : Nat} {A : Option Addr} {n c : Nat} {u : Value} {t : TypeId} (h : OpIs ops i (.store 33 (.tmp j) (.tmp k)) none js) (hj : a.eval (.tmp j) = .pointer (some ⟨g, 0, none⟩)) (hv : a.eval (.tmp k) = .slice A n c) (hb : BoxAt w g #[u] t)
    (hk : ∀ w', BoxAt w' g #[.slice A n c] t → Turned g w w' → K a w') : wpOp Try.prog ops Q i K a w :=
  h.go fun o h1 h2 => by
    have hc := hb.cell (i := 0) rfl
    have hf := hb.frozen 0
    have hb' := hb.set 0 (.slice A n c)
    have ht := turned_set w g 0 (.slice A n c)
    have hr : (execOp a.eval o).run Try.prog w = .ok .skip (w.setCell ⟨g, 0, none⟩ (.slice A n c)) := by
      clear hb hb' ht hk
      unfold execOp
      rw [h1]
      dsimp only
      rw [hj, hv]
      go_simp
    unfold Oper.wp
    rw [hr]
    show K _ _
    rw [h2]
    exact hk _ hb' ht
/-- A Bool is written into its box. -/
theorem OpIs.storeB {j k : Tmp} {g : Nat} {b : Bool} {u : Value} {t : TypeId} (h : OpIs ops i (.store 4 (.tmp j) (.tmp k)) none js) (hj : a.eval (.tmp j) = .pointer (some ⟨g, 0, none⟩)) (hv : a.eval (.tmp k) = .bool b) (hb : BoxAt w g #[u] t)
    (hk : ∀ w', BoxAt w' g #[.bool b] t → Turned g w w' → K a w') : wpOp Try.prog ops Q i K a w :=
  h.go fun o h1 h2 => by
    have hc := hb.cell (i := 0) rfl
    have hf := hb.frozen 0
    have hb' := hb.set 0 (.bool b)
    have ht := turned_set w g 0 (.bool b)
    have hr : (execOp a.eval o).run Try.prog w = .ok .skip (w.setCell ⟨g, 0, none⟩ (.bool b)) := by
      clear hb hb' ht hk
      unfold execOp
      rw [h1]
      dsimp only
      rw [hj, hv]
      go_simp
    unfold Oper.wp
    rw [hr]
    show K _ _
    rw [h2]
    exact hk _ hb' ht
/-- A slice of one prim is laid. -/
theorem OpIs.build1 {k : Tmp} {x : PrC} (h : OpIs ops i (.buildSlice 33 1 #[(0, .tmp k)]) dst js) (hv : a.eval (.tmp k) = prV x) (hk : K (a.put dst (.slice (some ⟨w.heap.size, 0, none⟩) 1 1)) (w.alloc (.cells (prL x).toArray 51))) : wpOp Try.prog ops Q i K a w :=
  h.go fun o h1 h2 => by
    have hr : (execOp a.eval o).run Try.prog w = .ok (.value (.slice (some ⟨w.heap.size, 0, none⟩) 1 1)) (w.alloc (.cells (prL x).toArray 51)) := by
      unfold prV at hv
      unfold execOp
      rw [h1]
      simp only [hv, List.map_toArray, List.map_cons, List.map_nil]
      go_simp
      rfl
    unfold Oper.wp
    rw [hr]
    show K _ _
    rw [h2]
    exact hk
/-- append onto a row of the call's own. -/
theorem OpIs.append {j k : Tmp} {v : Value} {xs ys : List PrC} {A : Option Addr} {m c : Nat} (h : OpIs ops i (.call { callee := .builtin .append, args := #[.tmp j, .tmp k], argTypes := #[33, 33] }) dst js) (hj : a.eval (.tmp j) = v) (hv : a.eval (.tmp k) = .slice A m c)
    (hown : OwnPs 51 w0 w v xs) (hr : RowK 6 w A m (ys.map prL)) (hok : ∀ y ∈ ys, PrOk w y) (haw : ∀ y ∈ ys, ∀ g, v.ownBlock = some g → Away g y) (hb : xs.length + m ≤ 1000000)
    (hk : ∀ v' w', OwnPs 51 w0 w' v' (xs ++ ys) → w.grownBy w' v.ownBlock → K (a.put dst v') w') : wpOp Try.prog ops Q i K a w :=
  h.go fun o h1 h2 => by
    obtain ⟨i0, hi, hz0, hz1, hz2⟩ := info_parts Try.primInfo
    obtain ⟨v', w', hrun, ho, hg⟩ := run_append_ps (P := Try.prog) 33 o.type i0 _ 96 Try.underlying33 hi hz0 hz1 hz2 rfl hown A m c ys hr hok haw hb (by omega)
    unfold Oper.wp execOp
    simp only [h1, resolve, invoke, builtin, Sem.run_bind, Sem.run_pure, Result.andThen_ok, List.map_toArray, List.map_cons, List.map_nil, hj, hv, hrun]
    show K _ _
    rw [h2]
    exact hk v' w' ho hg
end

end Go.Proofs.Ytbhnbkcokhfopaa
