import Derived.Test.YtbhnbkcokhfopaaGreatPk22
import Derived.Test.YtbhnbkcokhfopaaGreatPk13
import Derived.Deep.Cut
import Derived.Deep.LoopGhost
import Derived.Deep.QuietTactic
import Derived.BigQuiet
import Derived.Lib.Hide
import Derived.Test.YtbhnbkcokhfopaaGreatPk21
import Derived.Test.YtbhnbkcokhfopaaGreatPk9

/-
  What the document's own Lines comes to, as a call.
-/
namespace Go.Proofs.YtbhnbkcokhfopaaGreat
open Go.RowKit Go.Maps

/-- What tells a row of the document's prims of its own. -/
def GivesRP (l : List Pr) (w : World) (e : Ending) (w' : World) : Prop := ∃ v xs, e = .returned v ∧ OwnPs 70 w w' v xs ∧ valsP xs = l
/-- The same, of rows that stood at wb. -/
def GivesRB (l : List Pr) (wb w : World) (e : Ending) (w' : World) : Prop := ∃ v xs, e = .returned v ∧ OwnPs 70 w w' v xs ∧ valsP xs = l ∧ ∀ x ∈ xs, PrOk wb x

set_option maxRecDepth 100000 in
set_option maxHeartbeats 3200000 in
theorem refLines_base (nm : ByteArray) (A B : Option Addr) (n c m d : Nat) (la lb : List ByteArray) (wb w : World) (hwb : Later wb w) (ha0 : Row wb A n la) (hb0 : Row wb B m lb) (hc : n ≤ c) (hd : m ≤ d) (hn : n ≤ 200) (hm : m ≤ 200)
    (hnm : nm.size ≤ maxLen) (hsa : ∀ s ∈ la, s.size ≤ maxLen) (hsb : ∀ s ∈ lb, s.size ≤ maxLen) :
    Calls Tryz.prog 32 #[.string nm, .slice A n c, .slice B m d] w (GivesRB (linesP nm la lb) wb w) := by
  have ha := ha0.later hwb; have hb := hb0.later hwb
  have HA0 := Lib.hid ha0; have HB0 := Lib.hid hb0
  clear ha0 hb0
  have hna := ha.len; have hnb := hb.len
  have HTO := Lib.hid (lines_to (name := nm) (a := la) (b := lb) (by omega) (by omega))
  have HRI := Lib.hid (common_rises (a := la) (b := lb) (by omega) (by omega))
  have hLn := common_length la lb
  rw [hna, hnb] at HTO HRI
  have HCM := Lib.hid (refCommon6_any A B n c m d la lb w ha hb hn hm)
  have HA := Lib.hid ha; have HB := Lib.hid hb; have HSA := Lib.hid hsa; have HSB := Lib.hid hsb
  clear ha hb hna hnb hsa hsb
  obtain ⟨i0, hi, hz0, hz1, hz2⟩ := info_parts Tryz.rpairInfo
  go_enter Tryz.func32, Tryz.ntmps32
  go_wp2_with fail
  refine HCM.out.mono ?_
  rintro e w2 ⟨v0, rfl, ho0⟩
  clear HCM
  have hlb : Later w2 (w2.alloc (.cells #[.int .i64 (n : Nat), .int .i64 (m : Nat)] 103)) := (Later.refl w2).alloc _
  have HR : Hid (RowK 2 (w2.alloc (.cells #[.int .i64 (n : Nat), .int .i64 (m : Nat)] 103)) (some ⟨w2.heap.size, 0, none⟩) 1 [[.int .i64 (n : Nat), .int .i64 (m : Nat)]]) := RowK.one w2 [.int .i64 (n : Nat), .int .i64 (m : Nat)] 103
  have HO0 := Lib.hid (ho0.on hlb)
  clear ho0 hlb
  go_wp2_with (at_builtin; refine Hid.out ?_)
  refine Lib.hid (wpList_append_rowK5 rfl _ _ 101 rfl i0 _ 16 Tryz.underlying101 hi hz0 hz1 hz2 rfl (by decide) HO0.out rfl _ _ 1 1 _ rfl HR.out (by decide) (by simp [Value.oneCell']) (by rw [pairsV_length]; omega) (by decide) ?_)
  intro v3 w3 ho3 hg3 h5
  rw [← pairsV_append] at ho3
  generalize hL : commonL la lb ++ [(n, m)] = L at ho3 HTO HRI
  have hLl : L.length ≤ 201 := by rw [← hL]; simp; omega
  have hL1 : 0 < L.length := by rw [← hL]; simp
  clear hL hLn
  obtain ⟨A3, c3, hv3, hc3, hr3⟩ := ho3.row
  rw [pairsV_length] at hv3 hc3 hr3
  obtain ⟨g3, o3, hA3, _⟩ := hr3.2.2 hL1
  subst hA3
  subst hv3
  have HL3 := Lib.hid ho3.later
  have HR3 := Lib.hid hr3
  clear ho3 hg3 h5 hr3 HR HO0
  go_wp2
  go_loopg [7, 9, 10, 11] (L.length + 1) (fun g s7 s9 s10 s11 wr => ∃ (j i k : Nat) (v : Value) (ys : List PrC), j ≤ L.length ∧ L.length - j ≤ g ∧ s11 = .int .i64 (j : Nat) ∧ s7 = v ∧ s9 = .int .i64 (i : Nat) ∧ s10 = .int .i64 (k : Nat) ∧ ys.length ≤ j ∧ Hid (OwnPs 70 w3 wr v ys) ∧ Hid (valsP ys ++ hunksTo nm la lb (L.drop j) i k = linesP nm la lb) ∧ Hid (Rises n m (L.drop j) i k) ∧ Hid (∀ y ∈ ys, PrOk wb y))
  case atStart => exact ⟨0, 0, 0, _, [], Nat.zero_le _, by omega, rfl, rfl, rfl, rfl, Nat.le_refl _, OwnPs.nil (Later.refl _), by show _ = _; rw [HTO.out]; rfl, HRI, fun y hy => by cases hy⟩
  case round =>
    obtain ⟨j, i, k, v, ys, hj, hg, rfl, hv, rfl, rfl, hyl, hO, hEq, hRi, hBs⟩ := hrel
    obtain rfl := hv.symm
    clear hv HTO HRI
    by_cases hlt : j < L.length
    · obtain ⟨s, hs, p0, p1⟩ := HR3.out.pair hlt
      obtain ⟨x, y⟩ := s
      obtain ⟨hix, hky, hxn, hym, hri2⟩ := rises_at hs hRi.out
      have HST := Lib.hid (hunksTo_at (name := nm) (a := la) (b := lb) (i := i) (k := k) hs)
      dsimp only at p0 p1 hix hky hxn hym hri2 HST
      have HRI2 := Lib.hid hri2
      have P0 : Hid (w3.cell? ⟨g3, o3 + j * 2 + 0, none⟩ = some (.int .i64 (x : Nat))) := p0
      have P1 := Lib.hid p1
      replace p0 := hO.out.later.cell p0; replace p1 := hO.out.later.cell p1
      clear hs hri2
      by_cases h1 : i < x
      · have hxy : i < x ∨ k < y := .inl h1
        have hd1 : decide ((i : Int) < (x : Int)) = true := by simp; omega
        have okx : PrOk w3 ⟨hunkP nm k (gapL la i x) (gapL lb k y), cutA A c i, x - i, c - i, cutA B d k, y - k, d - k⟩ :=
          ⟨(HA.out.later HL3.out).cutA hix hxn hc, (HB.out.later HL3.out).cutA hky hym hd, by dsimp only; omega, by dsimp only; omega, by dsimp only; omega, by dsimp only; omega, hnm, Nat.zero_le _, by dsimp only [hunkP]; omega, by dsimp only [hunkP]; omega, fun s hs => HSA.out s (List.mem_of_mem_drop (List.mem_of_mem_take hs)), fun s hs => HSB.out s (List.mem_of_mem_drop (List.mem_of_mem_take hs))⟩
        have HBX : Hid (∀ q ∈ ys ++ [⟨hunkP nm k (gapL la i x) (gapL lb k y), cutA A c i, x - i, c - i, cutA B d k, y - k, d - k⟩], PrOk wb q) := by
          intro q hq
          rcases List.mem_append.1 hq with h | h
          · exact hBs.out q h
          · simp at h; subst h
            exact ⟨HA0.out.cutA hix hxn hc, HB0.out.cutA hky hym hd, by dsimp only; omega, by dsimp only; omega, by dsimp only; omega, by dsimp only; omega, hnm, Nat.zero_le _, by dsimp only [hunkP]; omega, by dsimp only [hunkP]; omega, fun s hs => HSA.out s (List.mem_of_mem_drop (List.mem_of_mem_take hs)), fun s hs => HSB.out s (List.mem_of_mem_drop (List.mem_of_mem_take hs))⟩
        have HHK : Hid (valsP (ys ++ [⟨hunkP nm k (gapL la i x) (gapL lb k y), cutA A c i, x - i, c - i, cutA B d k, y - k, d - k⟩]) ++ hunksTo nm la lb (L.drop (j + 1)) (x + 1) (y + 1) = linesP nm la lb) := by
          show _ = _
          rw [← hEq.out, HST.out, if_pos hxy]
          simp [valsP]
        have HOK := Lib.hid okx
        clear okx
        go_upto_region 12 with fail
        refine rlines_region rfl (by kernel_rfl) ⟨_, rfl, rfl, rfl, rfl, by kernel_rfl⟩ ⟨_, rfl, rfl, rfl, rfl, by kernel_rfl⟩ ⟨_, rfl, rfl, rfl, rfl, by kernel_rfl⟩ ⟨_, rfl, rfl, rfl, rfl, by kernel_rfl⟩ ⟨_, rfl, rfl, rfl, rfl, by kernel_rfl⟩ ⟨_, rfl, rfl, rfl, rfl, by kernel_rfl⟩ ⟨_, rfl, rfl, rfl, rfl, by kernel_rfl⟩ ⟨_, rfl, rfl, rfl, rfl, by kernel_rfl⟩ ⟨_, rfl, rfl, rfl, rfl, by kernel_rfl⟩ ⟨_, rfl, rfl, rfl, rfl, by kernel_rfl⟩ ⟨_, rfl, rfl, rfl, rfl, by kernel_rfl⟩ ⟨_, rfl, rfl, rfl, rfl, by kernel_rfl⟩ ⟨_, rfl, rfl, rfl, rfl, by kernel_rfl⟩ ⟨_, rfl, rfl, rfl, rfl, by kernel_rfl⟩ ⟨_, rfl, rfl, rfl, rfl, by kernel_rfl⟩ ⟨_, rfl, rfl, rfl, rfl, by kernel_rfl⟩ ⟨_, rfl, rfl, rfl, rfl, by kernel_rfl⟩ ⟨_, rfl, rfl, rfl, rfl, by kernel_rfl⟩ ⟨_, rfl, rfl, rfl, rfl, by kernel_rfl⟩ ⟨_, rfl, rfl, rfl, rfl, by kernel_rfl⟩ ⟨_, rfl, rfl, rfl, rfl, by kernel_rfl⟩ ⟨_, rfl, rfl, rfl, rfl, by kernel_rfl⟩ ⟨_, rfl, rfl, rfl, rfl, by kernel_rfl⟩ (of_decide_eq_true rfl) rfl rfl rfl rfl rfl rfl rfl rfl hlt P0.out P1.out hix hky hxn hym hc hd hO.out HOK.out (by omega) ?_
        intro D a wz so e7 st
        have ha := so.is
        simp only [List.foldl_cons, List.foldl_nil] at ha
        rw [e7] at ha
        generalize a.eval (.tmp 53) = y53 at ha
        generalize a.eval (.tmp 54) = y54 at ha
        generalize a.eval (.tmp 55) = y55 at ha
        generalize a.eval (.tmp 56) = y56 at ha
        generalize a.eval (.tmp 57) = y57 at ha
        generalize a.eval (.tmp 58) = y58 at ha
        generalize a.eval (.tmp 59) = y59 at ha
        generalize a.eval (.tmp 60) = y60 at ha
        generalize a.eval (.tmp 61) = y61 at ha
        generalize a.eval (.tmp 62) = y62 at ha
        generalize a.eval (.tmp 63) = y63 at ha
        generalize a.eval (.tmp 64) = y64 at ha
        generalize a.eval (.tmp 65) = y65 at ha
        generalize a.eval (.tmp 66) = y66 at ha
        generalize a.eval (.tmp 67) = y67 at ha
        generalize a.eval (.tmp 68) = y68 at ha
        generalize a.eval (.tmp 69) = y69 at ha
        generalize a.eval (.tmp 70) = y70 at ha
        generalize a.eval (.tmp 71) = y71 at ha
        generalize a.eval (.tmp 72) = y72 at ha
        generalize a.eval (.tmp 73) = y73 at ha
        generalize a.eval (.tmp 74) = y74 at ha
        have HO2 := Lib.hid (st.fin rfl)
        clear so st e7 hO HOK
        subst ha
        simp only [Act.put, List.setIfInBounds_toArray, List.set_cons_zero, List.set_cons_succ]
        have z0 := HO2.out.later.cell P0.out; have z1 := HO2.out.later.cell P1.out
        rw [Nat.add_zero] at z0
        go_wp2
        go_roundg (L.length - (j + 1))
        case measure => omega
        case rel => exact ⟨j + 1, x + 1, y + 1, D.v, ys ++ [⟨hunkP nm k (gapL la i x) (gapL lb k y), cutA A c i, x - i, c - i, cutA B d k, y - k, d - k⟩], by omega, Nat.le_refl _, by go_num, rfl, by go_num, by go_num, by simp; omega, HO2, HHK, HRI2, HBX⟩
      · by_cases h2 : k < y
        · have hxy : i < x ∨ k < y := .inr h2
          have hd1 : decide ((i : Int) < (x : Int)) = false := by simp; omega
          have hd2 : decide ((k : Int) < (y : Int)) = true := by simp; omega
          have okx : PrOk w3 ⟨hunkP nm k (gapL la i x) (gapL lb k y), cutA A c i, x - i, c - i, cutA B d k, y - k, d - k⟩ :=
            ⟨(HA.out.later HL3.out).cutA hix hxn hc, (HB.out.later HL3.out).cutA hky hym hd, by dsimp only; omega, by dsimp only; omega, by dsimp only; omega, by dsimp only; omega, hnm, Nat.zero_le _, by dsimp only [hunkP]; omega, by dsimp only [hunkP]; omega, fun s hs => HSA.out s (List.mem_of_mem_drop (List.mem_of_mem_take hs)), fun s hs => HSB.out s (List.mem_of_mem_drop (List.mem_of_mem_take hs))⟩
          have HBX : Hid (∀ q ∈ ys ++ [⟨hunkP nm k (gapL la i x) (gapL lb k y), cutA A c i, x - i, c - i, cutA B d k, y - k, d - k⟩], PrOk wb q) := by
            intro q hq
            rcases List.mem_append.1 hq with h | h
            · exact hBs.out q h
            · simp at h; subst h
              exact ⟨HA0.out.cutA hix hxn hc, HB0.out.cutA hky hym hd, by dsimp only; omega, by dsimp only; omega, by dsimp only; omega, by dsimp only; omega, hnm, Nat.zero_le _, by dsimp only [hunkP]; omega, by dsimp only [hunkP]; omega, fun s hs => HSA.out s (List.mem_of_mem_drop (List.mem_of_mem_take hs)), fun s hs => HSB.out s (List.mem_of_mem_drop (List.mem_of_mem_take hs))⟩
          have HHK : Hid (valsP (ys ++ [⟨hunkP nm k (gapL la i x) (gapL lb k y), cutA A c i, x - i, c - i, cutA B d k, y - k, d - k⟩]) ++ hunksTo nm la lb (L.drop (j + 1)) (x + 1) (y + 1) = linesP nm la lb) := by
            show _ = _
            rw [← hEq.out, HST.out, if_pos hxy]
            simp [valsP]
          have HOK := Lib.hid okx
          clear okx
          go_upto_region 12 with fail
          refine rlines_region rfl (by kernel_rfl) ⟨_, rfl, rfl, rfl, rfl, by kernel_rfl⟩ ⟨_, rfl, rfl, rfl, rfl, by kernel_rfl⟩ ⟨_, rfl, rfl, rfl, rfl, by kernel_rfl⟩ ⟨_, rfl, rfl, rfl, rfl, by kernel_rfl⟩ ⟨_, rfl, rfl, rfl, rfl, by kernel_rfl⟩ ⟨_, rfl, rfl, rfl, rfl, by kernel_rfl⟩ ⟨_, rfl, rfl, rfl, rfl, by kernel_rfl⟩ ⟨_, rfl, rfl, rfl, rfl, by kernel_rfl⟩ ⟨_, rfl, rfl, rfl, rfl, by kernel_rfl⟩ ⟨_, rfl, rfl, rfl, rfl, by kernel_rfl⟩ ⟨_, rfl, rfl, rfl, rfl, by kernel_rfl⟩ ⟨_, rfl, rfl, rfl, rfl, by kernel_rfl⟩ ⟨_, rfl, rfl, rfl, rfl, by kernel_rfl⟩ ⟨_, rfl, rfl, rfl, rfl, by kernel_rfl⟩ ⟨_, rfl, rfl, rfl, rfl, by kernel_rfl⟩ ⟨_, rfl, rfl, rfl, rfl, by kernel_rfl⟩ ⟨_, rfl, rfl, rfl, rfl, by kernel_rfl⟩ ⟨_, rfl, rfl, rfl, rfl, by kernel_rfl⟩ ⟨_, rfl, rfl, rfl, rfl, by kernel_rfl⟩ ⟨_, rfl, rfl, rfl, rfl, by kernel_rfl⟩ ⟨_, rfl, rfl, rfl, rfl, by kernel_rfl⟩ ⟨_, rfl, rfl, rfl, rfl, by kernel_rfl⟩ ⟨_, rfl, rfl, rfl, rfl, by kernel_rfl⟩ (of_decide_eq_true rfl) rfl rfl rfl rfl rfl rfl rfl rfl hlt P0.out P1.out hix hky hxn hym hc hd hO.out HOK.out (by omega) ?_
          intro D a wz so e7 st
          have ha := so.is
          simp only [List.foldl_cons, List.foldl_nil] at ha
          rw [e7] at ha
          generalize a.eval (.tmp 53) = y53 at ha
          generalize a.eval (.tmp 54) = y54 at ha
          generalize a.eval (.tmp 55) = y55 at ha
          generalize a.eval (.tmp 56) = y56 at ha
          generalize a.eval (.tmp 57) = y57 at ha
          generalize a.eval (.tmp 58) = y58 at ha
          generalize a.eval (.tmp 59) = y59 at ha
          generalize a.eval (.tmp 60) = y60 at ha
          generalize a.eval (.tmp 61) = y61 at ha
          generalize a.eval (.tmp 62) = y62 at ha
          generalize a.eval (.tmp 63) = y63 at ha
          generalize a.eval (.tmp 64) = y64 at ha
          generalize a.eval (.tmp 65) = y65 at ha
          generalize a.eval (.tmp 66) = y66 at ha
          generalize a.eval (.tmp 67) = y67 at ha
          generalize a.eval (.tmp 68) = y68 at ha
          generalize a.eval (.tmp 69) = y69 at ha
          generalize a.eval (.tmp 70) = y70 at ha
          generalize a.eval (.tmp 71) = y71 at ha
          generalize a.eval (.tmp 72) = y72 at ha
          generalize a.eval (.tmp 73) = y73 at ha
          generalize a.eval (.tmp 74) = y74 at ha
          have HO2 := Lib.hid (st.fin rfl)
          clear so st e7 hO HOK
          subst ha
          simp only [Act.put, List.setIfInBounds_toArray, List.set_cons_zero, List.set_cons_succ]
          have z0 := HO2.out.later.cell P0.out; have z1 := HO2.out.later.cell P1.out
          rw [Nat.add_zero] at z0
          go_wp2
          go_roundg (L.length - (j + 1))
          case measure => omega
          case rel => exact ⟨j + 1, x + 1, y + 1, D.v, ys ++ [⟨hunkP nm k (gapL la i x) (gapL lb k y), cutA A c i, x - i, c - i, cutA B d k, y - k, d - k⟩], by omega, Nat.le_refl _, by go_num, rfl, by go_num, by go_num, by simp; omega, HO2, HHK, HRI2, HBX⟩
        · have hd1 : decide ((i : Int) < (x : Int)) = false := by simp; omega
          have hd2 : decide ((k : Int) < (y : Int)) = false := by simp; omega
          have HHK : Hid (valsP ys ++ hunksTo nm la lb (L.drop (j + 1)) (x + 1) (y + 1) = linesP nm la lb) := by
            show _ = _
            rw [← hEq.out, HST.out, if_neg (by omega), List.nil_append]
          go_wp2
          go_roundg (L.length - (j + 1))
          case measure => omega
          case rel => exact ⟨j + 1, x + 1, y + 1, v, ys, by omega, Nat.le_refl _, by go_num, rfl, by go_num, by go_num, by omega, hO, HHK, HRI2, hBs⟩
    · have HE : Hid (valsP ys = linesP nm la lb) := by
        have := hEq.out
        rw [List.drop_of_length_le (by omega)] at this
        simp only [hunksTo, List.append_nil] at this
        exact this
      go_wp2
      go_ret
      exact ⟨v, ys, rfl, hO.out.base HL3.out, HE.out, hBs.out⟩

theorem refLines_any (nm : ByteArray) (A B : Option Addr) (n c m d : Nat) (la lb : List ByteArray) (w : World) (ha : Row w A n la) (hb : Row w B m lb) (hc : n ≤ c) (hd : m ≤ d) (hn : n ≤ 200) (hm : m ≤ 200)
    (hnm : nm.size ≤ maxLen) (hsa : ∀ s ∈ la, s.size ≤ maxLen) (hsb : ∀ s ∈ lb, s.size ≤ maxLen) :
    Calls Tryz.prog 32 #[.string nm, .slice A n c, .slice B m d] w (GivesRP (linesP nm la lb) w) :=
  (refLines_base nm A B n c m d la lb w w (Later.refl w) ha hb hc hd hn hm hnm hsa hsb).mono fun _ _ ⟨v, xs, h1, h2, h3, _⟩ => ⟨v, xs, h1, h2, h3⟩

end Go.Proofs.YtbhnbkcokhfopaaGreat

/-
  The document's own Trees: a file of both trees, in whatever order its operations come.
-/
namespace Go.Proofs.YtbhnbkcokhfopaaGreat
open Go.RowKit Go.Maps

structure TrD where
  A : Option Addr
  m : Nat
  c : Nat
  ns : List PrC
  g : Nat
  q1 : Value
  v : Value
/-- The lines' prims lie there. -/
def NewsAt (wb V : World) (l : List Pr) (D : TrD) : Prop := RowK 6 V D.A D.m (D.ns.map prL) ∧ (∀ y ∈ D.ns, PrOk wb y) ∧ valsP D.ns = l
theorem NewsAt.len {wb V : World} {l : List Pr} {D : TrD} (h : NewsAt wb V l D) : D.m = l.length := by
  have h1 := h.1.len; rw [List.length_map] at h1
  rw [← h.2.2, valsP_length, h1]
theorem NewsAt.on {wb V V' : World} {l : List Pr} {D : TrD} (h : NewsAt wb V l D) (hl : Later V V') : NewsAt wb V' l D := ⟨h.1.later hl, h.2⟩
theorem Tri.bare {wb V V' : World} {v v' u c : Value} {ys zs cs : List PrC} {z : Int} {nm : ByteArray} (h : Tri wb V v u c ys zs cs) (hnm : nm.size ≤ maxLen) (ho : OwnPs 70 wb V' v' (ys ++ [bareC z nm])) (hg : V.grownBy V' v.ownBlock) (h5 : v'.ownBlock = v.ownBlock ∨ v'.ownBlock = some V.heap.size) : Tri wb V' v' u c (ys ++ [bareC z nm]) zs cs :=
  h.grow ho hg h5 fun y hy => by simp at hy; subst hy; exact bare_ok z hnm wb

structure TS1 (wb : World) (v u c : Value) (ys zs cs : List PrC) (l : List Pr) (s : Nat) (D : TrD) (V : World) : Prop where
  later : Later wb V
  tri : s ≤ 1 → Tri wb V v u c ys zs cs
  row : s = 1 → NewsAt wb V l D
  fin : s = 2 → Tri wb V D.v u c (ys ++ D.ns) zs cs ∧ valsP D.ns = l
section
variable {wb V V' : World} {v v' u c : Value} {ys zs cs ns : List PrC} {l : List Pr} {nm : ByteArray} {D : TrD} {A : Option Addr} {m cc s : Nat} {f : Bool}
theorem TS1.call (h : TS1 wb v u c ys zs cs l 0 D V) (hl : Later V V') (hr : RowK 6 V' A m (ns.map prL)) (hk : ∀ y ∈ ns, PrOk wb y) (hv : valsP ns = l) : TS1 wb v u c ys zs cs l 1 { D with A := A, m := m, c := cc, ns := ns } V' :=
  ⟨h.later.trans hl, fun _ => (h.tri (by omega)).on hl, fun _ => ⟨hr, hk, hv⟩, fun e => by omega⟩
theorem TS1.two (h : TS1 wb v u c ys zs cs l 1 D V) (ho : OwnPs 70 wb V' v' (ys ++ D.ns)) (hg : V.grownBy V' v.ownBlock) (h5 : v'.ownBlock = v.ownBlock ∨ v'.ownBlock = some V.heap.size) : TS1 wb v u c ys zs cs l 2 { D with v := v' } V' :=
  ⟨ho.later, (fun e => by omega), (fun e => by omega), fun _ => ⟨(h.tri (by omega)).grow ho hg h5 (h.row rfl).2.1, (h.row rfl).2.2⟩⟩
end

set_option maxHeartbeats 1600000 in
theorem rtrees_both {ops : Array Oper} (hn : ops.size = 15) (hg : goesBack ops = true)
    (o0 : OpIs ops 0 (.move (.tmp 7)) (some 38) [])
    (o1 : OpIs ops 1 (.move (.tmp 0)) (some 39) [])
    (o2 : OpIs ops 2 (.move (.tmp 8)) (some 40) [])
    (o3 : OpIs ops 3 (.indexAddr 27 (.tmp 39) (.tmp 40)) (some 41) [1, 2])
    (o4 : OpIs ops 4 (.fieldAddr 62 (.tmp 41) 0) (some 42) [3])
    (o5 : OpIs ops 5 (.load 9 (.tmp 42)) (some 43) [4])
    (o6 : OpIs ops 6 (.move (.tmp 0)) (some 44) [])
    (o7 : OpIs ops 7 (.move (.tmp 8)) (some 45) [])
    (o8 : OpIs ops 8 (.indexAddr 27 (.tmp 44) (.tmp 45)) (some 46) [6, 7])
    (o9 : OpIs ops 9 (.fieldAddr 62 (.tmp 46) 1) (some 47) [8])
    (o10 : OpIs ops 10 (.load 45 (.tmp 47)) (some 48) [9])
    (o11 : OpIs ops 11 (.move (.tmp 9)) (some 49) [])
    (o12 : OpIs ops 12 (.call { callee := .value (.func 32), args := #[.tmp 43, .tmp 48, .tmp 49], argTypes := #[9, 45, 45] }) (some 50) [5, 10, 11])
    (o13 : OpIs ops 13 (.call { callee := .builtin .append, args := #[.tmp 38, .tmp 50], argTypes := #[34, 34] }) (some 51) [0, 12])
    (o14 : OpIs ops 14 (.assign (.tmp 51)) (some 7) [13])
    {a1 : Act} (hs : 124 ≤ a1.tmps.size) {wx : World} {wb : World} {nm : ByteArray} {A B : Option Addr} {n c m d gq oq nn cc kk : Nat} {ll : List Pr} {v u c0 : Value} {ys zs cs : List PrC} (e0 : a1.eval (.tmp 0) = .slice (some ⟨gq, oq, none⟩) nn cc) (e8 : a1.eval (.tmp 8) = .int .i64 (kk : Nat)) (e9 : a1.eval (.tmp 9) = .slice B m d) (e7 : a1.eval (.tmp 7) = v) (hj : kk < nn) (hp0 : wb.cell? ⟨gq, oq + kk * 2 + 0, none⟩ = some (.string nm)) (hp1 : wb.cell? ⟨gq, oq + kk * 2 + 1, none⟩ = some (.slice A n c)) (htri : Tri wb wx v u c0 ys zs cs) (hcall : ∀ w, Later wb w → Calls Tryz.prog 32 #[.string nm, .slice A n c, .slice B m d] w (GivesRB ll wb w)) (hxl : ys.length + ll.length + 1 ≤ 1000000)
    {Q : Exit → Act → World → Prop} {id : Nat} (hend : ∀ (D : TrD) (a : Act) (w : World), SameOut a1 a [38, 39, 40, 41, 42, 43, 44, 45, 46, 47, 48, 49, 50, 51, 7] → a.eval (.tmp 7) = D.v → TS1 wb v u c0 ys zs cs ll (2) D w → Q .normal a w) :
    (Code.region id ops true).wp Tryz.prog Q a1 wx := by
  refine region_inv (by kernel_rfl) hg (fun l a w => ∃ D : TrD, SameOut a1 a [38, 39, 40, 41, 42, 43, 44, 45, 46, 47, 48, 49, 50, 51, 7] ∧ TS1 wb v u c0 ys zs cs ll (if l 13 = true then 2 else (if l 12 = true then 1 else 0)) D w ∧ (l 0 = true → a.eval (.tmp 38) = v) ∧ (l 1 = true → a.eval (.tmp 39) = .slice (some ⟨gq, oq, none⟩) nn cc) ∧ (l 2 = true → a.eval (.tmp 40) = .int .i64 (kk : Nat)) ∧ (l 3 = true → a.eval (.tmp 41) = .pointer (some ⟨gq, oq + kk * 2, none⟩)) ∧ (l 4 = true → a.eval (.tmp 42) = .pointer (some ⟨gq, oq + kk * 2 + 0, none⟩)) ∧ (l 5 = true → a.eval (.tmp 43) = .string nm) ∧ (l 6 = true → a.eval (.tmp 44) = .slice (some ⟨gq, oq, none⟩) nn cc) ∧ (l 7 = true → a.eval (.tmp 45) = .int .i64 (kk : Nat)) ∧ (l 8 = true → a.eval (.tmp 46) = .pointer (some ⟨gq, oq + kk * 2, none⟩)) ∧ (l 9 = true → a.eval (.tmp 47) = .pointer (some ⟨gq, oq + kk * 2 + 1, none⟩)) ∧ (l 10 = true → a.eval (.tmp 48) = .slice A n c) ∧ (l 11 = true → a.eval (.tmp 49) = .slice B m d) ∧ (l 12 = true → a.eval (.tmp 50) = .slice D.A D.m D.c) ∧ (l 13 = true → a.eval (.tmp 51) = D.v) ∧ (l 14 = true → a.eval (.tmp 7) = D.v) ∧ (l 13 = true → l 12 = true) ∧ (l 13 = true → l 0 = true) ∧ (l 14 = true → l 13 = true) ∧ (l 14 = false → a.eval (.tmp 7) = v)) ?_ ?_ ?_
  · intro l a w i o ho hl hwait ⟨D, so, st, f0, f1, f2, f3, f4, f5, f6, f7, f8, f9, f10, f11, f12, f13, f14, d13_12, d13_0, d14_13, g7⟩
    have hi : i < 15 := by rw [← hn]; exact (Array.getElem?_eq_some_iff.1 ho).1
    have hc : i = 0 ∨ i = 1 ∨ i = 2 ∨ i = 3 ∨ i = 4 ∨ i = 5 ∨ i = 6 ∨ i = 7 ∨ i = 8 ∨ i = 9 ∨ i = 10 ∨ i = 11 ∨ i = 12 ∨ i = 13 ∨ i = 14 := by omega
    rcases hc with rfl | rfl | rfl | rfl | rfl | rfl | rfl | rfl | rfl | rfl | rfl | rfl | rfl | rfl | rfl
    · have n13 : l 13 = false := by cases hx : l 13 with | false => rfl | true => have := d13_0 hx; rw [hl] at this; cases this
      have n14 : l 14 = false := by cases hx : l 14 with | false => rfl | true => have := d14_13 hx; rw [n13] at this; cases this
      have st0 := st
      refine o0.move ?_
      rw [g7 n14]
      exact ⟨D, (so.put (by decide) _), st, (fun _ => eval_put_same' _ _ _ (by rw [so.size]; show (38 : Nat) < _; omega)), (fun e => (eval_put_other' _ _ (by decide)).trans (f1 e)), (fun e => (eval_put_other' _ _ (by decide)).trans (f2 e)), (fun e => (eval_put_other' _ _ (by decide)).trans (f3 e)), (fun e => (eval_put_other' _ _ (by decide)).trans (f4 e)), (fun e => (eval_put_other' _ _ (by decide)).trans (f5 e)), (fun e => (eval_put_other' _ _ (by decide)).trans (f6 e)), (fun e => (eval_put_other' _ _ (by decide)).trans (f7 e)), (fun e => (eval_put_other' _ _ (by decide)).trans (f8 e)), (fun e => (eval_put_other' _ _ (by decide)).trans (f9 e)), (fun e => (eval_put_other' _ _ (by decide)).trans (f10 e)), (fun e => (eval_put_other' _ _ (by decide)).trans (f11 e)), (fun e => (eval_put_other' _ _ (by decide)).trans (f12 e)), (fun e => by rw [show more l 0 13 = l 13 from rfl, n13] at e; cases e), (fun e => by rw [show more l 0 14 = l 14 from rfl, n14] at e; cases e), d13_12, (fun _ => rfl), d14_13, (fun e => (eval_put_other' _ _ (by decide)).trans (g7 e))⟩
    · have st0 := st
      have ev : a.eval (.tmp 0) = .slice (some ⟨gq, oq, none⟩) nn cc := ((show _ = a1.eval _ from by simp only [Act.eval, Array.getD_eq_getD_getElem?, so.out 0 (by decide)]).trans e0)
      refine o1.move ?_
      rw [ev]
      exact ⟨D, (so.put (by decide) _), st, (fun e => (eval_put_other' _ _ (by decide)).trans (f0 e)), (fun _ => eval_put_same' _ _ _ (by rw [so.size]; show (39 : Nat) < _; omega)), (fun e => (eval_put_other' _ _ (by decide)).trans (f2 e)), (fun e => (eval_put_other' _ _ (by decide)).trans (f3 e)), (fun e => (eval_put_other' _ _ (by decide)).trans (f4 e)), (fun e => (eval_put_other' _ _ (by decide)).trans (f5 e)), (fun e => (eval_put_other' _ _ (by decide)).trans (f6 e)), (fun e => (eval_put_other' _ _ (by decide)).trans (f7 e)), (fun e => (eval_put_other' _ _ (by decide)).trans (f8 e)), (fun e => (eval_put_other' _ _ (by decide)).trans (f9 e)), (fun e => (eval_put_other' _ _ (by decide)).trans (f10 e)), (fun e => (eval_put_other' _ _ (by decide)).trans (f11 e)), (fun e => (eval_put_other' _ _ (by decide)).trans (f12 e)), (fun e => (eval_put_other' _ _ (by decide)).trans (f13 e)), (fun e => (eval_put_other' _ _ (by decide)).trans (f14 e)), d13_12, d13_0, d14_13, (fun e => (eval_put_other' _ _ (by decide)).trans (g7 e))⟩
    · have st0 := st
      have ev : a.eval (.tmp 8) = .int .i64 (kk : Nat) := ((show _ = a1.eval _ from by simp only [Act.eval, Array.getD_eq_getD_getElem?, so.out 8 (by decide)]).trans e8)
      refine o2.move ?_
      rw [ev]
      exact ⟨D, (so.put (by decide) _), st, (fun e => (eval_put_other' _ _ (by decide)).trans (f0 e)), (fun e => (eval_put_other' _ _ (by decide)).trans (f1 e)), (fun _ => eval_put_same' _ _ _ (by rw [so.size]; show (40 : Nat) < _; omega)), (fun e => (eval_put_other' _ _ (by decide)).trans (f3 e)), (fun e => (eval_put_other' _ _ (by decide)).trans (f4 e)), (fun e => (eval_put_other' _ _ (by decide)).trans (f5 e)), (fun e => (eval_put_other' _ _ (by decide)).trans (f6 e)), (fun e => (eval_put_other' _ _ (by decide)).trans (f7 e)), (fun e => (eval_put_other' _ _ (by decide)).trans (f8 e)), (fun e => (eval_put_other' _ _ (by decide)).trans (f9 e)), (fun e => (eval_put_other' _ _ (by decide)).trans (f10 e)), (fun e => (eval_put_other' _ _ (by decide)).trans (f11 e)), (fun e => (eval_put_other' _ _ (by decide)).trans (f12 e)), (fun e => (eval_put_other' _ _ (by decide)).trans (f13 e)), (fun e => (eval_put_other' _ _ (by decide)).trans (f14 e)), d13_12, d13_0, d14_13, (fun e => (eval_put_other' _ _ (by decide)).trans (g7 e))⟩
    · have ws := o3.waits ho hwait
      have w1 := ws 1 (by simp)
      have w2 := ws 2 (by simp)
      have st0 := st
      refine o3.indexT (f1 w1) (f2 w2) hj ?_
      exact ⟨D, (so.put (by decide) _), st, (fun e => (eval_put_other' _ _ (by decide)).trans (f0 e)), (fun e => (eval_put_other' _ _ (by decide)).trans (f1 e)), (fun e => (eval_put_other' _ _ (by decide)).trans (f2 e)), (fun _ => eval_put_same' _ _ _ (by rw [so.size]; show (41 : Nat) < _; omega)), (fun e => (eval_put_other' _ _ (by decide)).trans (f4 e)), (fun e => (eval_put_other' _ _ (by decide)).trans (f5 e)), (fun e => (eval_put_other' _ _ (by decide)).trans (f6 e)), (fun e => (eval_put_other' _ _ (by decide)).trans (f7 e)), (fun e => (eval_put_other' _ _ (by decide)).trans (f8 e)), (fun e => (eval_put_other' _ _ (by decide)).trans (f9 e)), (fun e => (eval_put_other' _ _ (by decide)).trans (f10 e)), (fun e => (eval_put_other' _ _ (by decide)).trans (f11 e)), (fun e => (eval_put_other' _ _ (by decide)).trans (f12 e)), (fun e => (eval_put_other' _ _ (by decide)).trans (f13 e)), (fun e => (eval_put_other' _ _ (by decide)).trans (f14 e)), d13_12, d13_0, d14_13, (fun e => (eval_put_other' _ _ (by decide)).trans (g7 e))⟩
    · have ws := o4.waits ho hwait
      have w3 := ws 3 (by simp)
      have st0 := st
      refine o4.fieldT (by decide) (f3 w3) ?_
      exact ⟨D, (so.put (by decide) _), st, (fun e => (eval_put_other' _ _ (by decide)).trans (f0 e)), (fun e => (eval_put_other' _ _ (by decide)).trans (f1 e)), (fun e => (eval_put_other' _ _ (by decide)).trans (f2 e)), (fun e => (eval_put_other' _ _ (by decide)).trans (f3 e)), (fun _ => eval_put_same' _ _ _ (by rw [so.size]; show (42 : Nat) < _; omega)), (fun e => (eval_put_other' _ _ (by decide)).trans (f5 e)), (fun e => (eval_put_other' _ _ (by decide)).trans (f6 e)), (fun e => (eval_put_other' _ _ (by decide)).trans (f7 e)), (fun e => (eval_put_other' _ _ (by decide)).trans (f8 e)), (fun e => (eval_put_other' _ _ (by decide)).trans (f9 e)), (fun e => (eval_put_other' _ _ (by decide)).trans (f10 e)), (fun e => (eval_put_other' _ _ (by decide)).trans (f11 e)), (fun e => (eval_put_other' _ _ (by decide)).trans (f12 e)), (fun e => (eval_put_other' _ _ (by decide)).trans (f13 e)), (fun e => (eval_put_other' _ _ (by decide)).trans (f14 e)), d13_12, d13_0, d14_13, (fun e => (eval_put_other' _ _ (by decide)).trans (g7 e))⟩
    · have ws := o5.waits ho hwait
      have w4 := ws 4 (by simp)
      have st0 := st
      refine o5.loadN (f4 w4) (st.later.cell hp0) ?_
      exact ⟨D, (so.put (by decide) _), st, (fun e => (eval_put_other' _ _ (by decide)).trans (f0 e)), (fun e => (eval_put_other' _ _ (by decide)).trans (f1 e)), (fun e => (eval_put_other' _ _ (by decide)).trans (f2 e)), (fun e => (eval_put_other' _ _ (by decide)).trans (f3 e)), (fun e => (eval_put_other' _ _ (by decide)).trans (f4 e)), (fun _ => eval_put_same' _ _ _ (by rw [so.size]; show (43 : Nat) < _; omega)), (fun e => (eval_put_other' _ _ (by decide)).trans (f6 e)), (fun e => (eval_put_other' _ _ (by decide)).trans (f7 e)), (fun e => (eval_put_other' _ _ (by decide)).trans (f8 e)), (fun e => (eval_put_other' _ _ (by decide)).trans (f9 e)), (fun e => (eval_put_other' _ _ (by decide)).trans (f10 e)), (fun e => (eval_put_other' _ _ (by decide)).trans (f11 e)), (fun e => (eval_put_other' _ _ (by decide)).trans (f12 e)), (fun e => (eval_put_other' _ _ (by decide)).trans (f13 e)), (fun e => (eval_put_other' _ _ (by decide)).trans (f14 e)), d13_12, d13_0, d14_13, (fun e => (eval_put_other' _ _ (by decide)).trans (g7 e))⟩
    · have st0 := st
      have ev : a.eval (.tmp 0) = .slice (some ⟨gq, oq, none⟩) nn cc := ((show _ = a1.eval _ from by simp only [Act.eval, Array.getD_eq_getD_getElem?, so.out 0 (by decide)]).trans e0)
      refine o6.move ?_
      rw [ev]
      exact ⟨D, (so.put (by decide) _), st, (fun e => (eval_put_other' _ _ (by decide)).trans (f0 e)), (fun e => (eval_put_other' _ _ (by decide)).trans (f1 e)), (fun e => (eval_put_other' _ _ (by decide)).trans (f2 e)), (fun e => (eval_put_other' _ _ (by decide)).trans (f3 e)), (fun e => (eval_put_other' _ _ (by decide)).trans (f4 e)), (fun e => (eval_put_other' _ _ (by decide)).trans (f5 e)), (fun _ => eval_put_same' _ _ _ (by rw [so.size]; show (44 : Nat) < _; omega)), (fun e => (eval_put_other' _ _ (by decide)).trans (f7 e)), (fun e => (eval_put_other' _ _ (by decide)).trans (f8 e)), (fun e => (eval_put_other' _ _ (by decide)).trans (f9 e)), (fun e => (eval_put_other' _ _ (by decide)).trans (f10 e)), (fun e => (eval_put_other' _ _ (by decide)).trans (f11 e)), (fun e => (eval_put_other' _ _ (by decide)).trans (f12 e)), (fun e => (eval_put_other' _ _ (by decide)).trans (f13 e)), (fun e => (eval_put_other' _ _ (by decide)).trans (f14 e)), d13_12, d13_0, d14_13, (fun e => (eval_put_other' _ _ (by decide)).trans (g7 e))⟩
    · have st0 := st
      have ev : a.eval (.tmp 8) = .int .i64 (kk : Nat) := ((show _ = a1.eval _ from by simp only [Act.eval, Array.getD_eq_getD_getElem?, so.out 8 (by decide)]).trans e8)
      refine o7.move ?_
      rw [ev]
      exact ⟨D, (so.put (by decide) _), st, (fun e => (eval_put_other' _ _ (by decide)).trans (f0 e)), (fun e => (eval_put_other' _ _ (by decide)).trans (f1 e)), (fun e => (eval_put_other' _ _ (by decide)).trans (f2 e)), (fun e => (eval_put_other' _ _ (by decide)).trans (f3 e)), (fun e => (eval_put_other' _ _ (by decide)).trans (f4 e)), (fun e => (eval_put_other' _ _ (by decide)).trans (f5 e)), (fun e => (eval_put_other' _ _ (by decide)).trans (f6 e)), (fun _ => eval_put_same' _ _ _ (by rw [so.size]; show (45 : Nat) < _; omega)), (fun e => (eval_put_other' _ _ (by decide)).trans (f8 e)), (fun e => (eval_put_other' _ _ (by decide)).trans (f9 e)), (fun e => (eval_put_other' _ _ (by decide)).trans (f10 e)), (fun e => (eval_put_other' _ _ (by decide)).trans (f11 e)), (fun e => (eval_put_other' _ _ (by decide)).trans (f12 e)), (fun e => (eval_put_other' _ _ (by decide)).trans (f13 e)), (fun e => (eval_put_other' _ _ (by decide)).trans (f14 e)), d13_12, d13_0, d14_13, (fun e => (eval_put_other' _ _ (by decide)).trans (g7 e))⟩
    · have ws := o8.waits ho hwait
      have w6 := ws 6 (by simp)
      have w7 := ws 7 (by simp)
      have st0 := st
      refine o8.indexT (f6 w6) (f7 w7) hj ?_
      exact ⟨D, (so.put (by decide) _), st, (fun e => (eval_put_other' _ _ (by decide)).trans (f0 e)), (fun e => (eval_put_other' _ _ (by decide)).trans (f1 e)), (fun e => (eval_put_other' _ _ (by decide)).trans (f2 e)), (fun e => (eval_put_other' _ _ (by decide)).trans (f3 e)), (fun e => (eval_put_other' _ _ (by decide)).trans (f4 e)), (fun e => (eval_put_other' _ _ (by decide)).trans (f5 e)), (fun e => (eval_put_other' _ _ (by decide)).trans (f6 e)), (fun e => (eval_put_other' _ _ (by decide)).trans (f7 e)), (fun _ => eval_put_same' _ _ _ (by rw [so.size]; show (46 : Nat) < _; omega)), (fun e => (eval_put_other' _ _ (by decide)).trans (f9 e)), (fun e => (eval_put_other' _ _ (by decide)).trans (f10 e)), (fun e => (eval_put_other' _ _ (by decide)).trans (f11 e)), (fun e => (eval_put_other' _ _ (by decide)).trans (f12 e)), (fun e => (eval_put_other' _ _ (by decide)).trans (f13 e)), (fun e => (eval_put_other' _ _ (by decide)).trans (f14 e)), d13_12, d13_0, d14_13, (fun e => (eval_put_other' _ _ (by decide)).trans (g7 e))⟩
    · have ws := o9.waits ho hwait
      have w8 := ws 8 (by simp)
      have st0 := st
      refine o9.fieldT (by decide) (f8 w8) ?_
      exact ⟨D, (so.put (by decide) _), st, (fun e => (eval_put_other' _ _ (by decide)).trans (f0 e)), (fun e => (eval_put_other' _ _ (by decide)).trans (f1 e)), (fun e => (eval_put_other' _ _ (by decide)).trans (f2 e)), (fun e => (eval_put_other' _ _ (by decide)).trans (f3 e)), (fun e => (eval_put_other' _ _ (by decide)).trans (f4 e)), (fun e => (eval_put_other' _ _ (by decide)).trans (f5 e)), (fun e => (eval_put_other' _ _ (by decide)).trans (f6 e)), (fun e => (eval_put_other' _ _ (by decide)).trans (f7 e)), (fun e => (eval_put_other' _ _ (by decide)).trans (f8 e)), (fun _ => eval_put_same' _ _ _ (by rw [so.size]; show (47 : Nat) < _; omega)), (fun e => (eval_put_other' _ _ (by decide)).trans (f10 e)), (fun e => (eval_put_other' _ _ (by decide)).trans (f11 e)), (fun e => (eval_put_other' _ _ (by decide)).trans (f12 e)), (fun e => (eval_put_other' _ _ (by decide)).trans (f13 e)), (fun e => (eval_put_other' _ _ (by decide)).trans (f14 e)), d13_12, d13_0, d14_13, (fun e => (eval_put_other' _ _ (by decide)).trans (g7 e))⟩
    · have ws := o10.waits ho hwait
      have w9 := ws 9 (by simp)
      have st0 := st
      refine o10.loadL (f9 w9) (st.later.cell hp1) ?_
      exact ⟨D, (so.put (by decide) _), st, (fun e => (eval_put_other' _ _ (by decide)).trans (f0 e)), (fun e => (eval_put_other' _ _ (by decide)).trans (f1 e)), (fun e => (eval_put_other' _ _ (by decide)).trans (f2 e)), (fun e => (eval_put_other' _ _ (by decide)).trans (f3 e)), (fun e => (eval_put_other' _ _ (by decide)).trans (f4 e)), (fun e => (eval_put_other' _ _ (by decide)).trans (f5 e)), (fun e => (eval_put_other' _ _ (by decide)).trans (f6 e)), (fun e => (eval_put_other' _ _ (by decide)).trans (f7 e)), (fun e => (eval_put_other' _ _ (by decide)).trans (f8 e)), (fun e => (eval_put_other' _ _ (by decide)).trans (f9 e)), (fun _ => eval_put_same' _ _ _ (by rw [so.size]; show (48 : Nat) < _; omega)), (fun e => (eval_put_other' _ _ (by decide)).trans (f11 e)), (fun e => (eval_put_other' _ _ (by decide)).trans (f12 e)), (fun e => (eval_put_other' _ _ (by decide)).trans (f13 e)), (fun e => (eval_put_other' _ _ (by decide)).trans (f14 e)), d13_12, d13_0, d14_13, (fun e => (eval_put_other' _ _ (by decide)).trans (g7 e))⟩
    · have st0 := st
      have ev : a.eval (.tmp 9) = .slice B m d := ((show _ = a1.eval _ from by simp only [Act.eval, Array.getD_eq_getD_getElem?, so.out 9 (by decide)]).trans e9)
      refine o11.move ?_
      rw [ev]
      exact ⟨D, (so.put (by decide) _), st, (fun e => (eval_put_other' _ _ (by decide)).trans (f0 e)), (fun e => (eval_put_other' _ _ (by decide)).trans (f1 e)), (fun e => (eval_put_other' _ _ (by decide)).trans (f2 e)), (fun e => (eval_put_other' _ _ (by decide)).trans (f3 e)), (fun e => (eval_put_other' _ _ (by decide)).trans (f4 e)), (fun e => (eval_put_other' _ _ (by decide)).trans (f5 e)), (fun e => (eval_put_other' _ _ (by decide)).trans (f6 e)), (fun e => (eval_put_other' _ _ (by decide)).trans (f7 e)), (fun e => (eval_put_other' _ _ (by decide)).trans (f8 e)), (fun e => (eval_put_other' _ _ (by decide)).trans (f9 e)), (fun e => (eval_put_other' _ _ (by decide)).trans (f10 e)), (fun _ => eval_put_same' _ _ _ (by rw [so.size]; show (49 : Nat) < _; omega)), (fun e => (eval_put_other' _ _ (by decide)).trans (f12 e)), (fun e => (eval_put_other' _ _ (by decide)).trans (f13 e)), (fun e => (eval_put_other' _ _ (by decide)).trans (f14 e)), d13_12, d13_0, d14_13, (fun e => (eval_put_other' _ _ (by decide)).trans (g7 e))⟩
    · have ws := o12.waits ho hwait
      have w5 := ws 5 (by simp)
      have w10 := ws 10 (by simp)
      have w11 := ws 11 (by simp)
      have n13 : l 13 = false := by cases hx : l 13 with | false => rfl | true => have := d13_12 hx; rw [hl] at this; cases this
      have n14 : l 14 = false := by cases hx : l 14 with | false => rfl | true => have := d14_13 hx; rw [n13] at this; cases this
      have st0 : TS1 wb v u c0 ys zs cs ll 0 D w := by
        have hst := st
        simp only [hl, n13, Bool.false_eq_true, if_false] at hst
        exact hst
      refine o12.call3 (enters_of Tryz.func32 (by kernel_rfl) rfl) (f5 w5) (f10 w10) (f11 w11) (hcall w st0.later) ?_
      rintro e w' ⟨rv, xs3, rfl, ho3, hv3, hk3⟩
      obtain ⟨A3, c3, rfl, hc3, hp3⟩ := ho3.row
      have st1 := st0.call (cc := c3) ho3.later hp3.row hk3 hv3
      have st2 : TS1 wb v u c0 ys zs cs ll (if (more l 12) 13 = true then 2 else (if (more l 12) 12 = true then 1 else 0)) ({ D with A := A3, m := xs3.length, c := c3, ns := xs3 }) w' := by
        rw [if_neg (show ¬ (more l 12 13 = true) from by rw [show more l 12 13 = l 13 from rfl, n13]; simp), if_pos (show more l 12 12 = true from rfl)]
        exact st1
      exact ⟨_, rfl, ⟨{ D with A := A3, m := xs3.length, c := c3, ns := xs3 }, (so.put (by decide) _), st2, (fun e => (eval_put_other' _ _ (by decide)).trans (f0 e)), (fun e => (eval_put_other' _ _ (by decide)).trans (f1 e)), (fun e => (eval_put_other' _ _ (by decide)).trans (f2 e)), (fun e => (eval_put_other' _ _ (by decide)).trans (f3 e)), (fun e => (eval_put_other' _ _ (by decide)).trans (f4 e)), (fun e => (eval_put_other' _ _ (by decide)).trans (f5 e)), (fun e => (eval_put_other' _ _ (by decide)).trans (f6 e)), (fun e => (eval_put_other' _ _ (by decide)).trans (f7 e)), (fun e => (eval_put_other' _ _ (by decide)).trans (f8 e)), (fun e => (eval_put_other' _ _ (by decide)).trans (f9 e)), (fun e => (eval_put_other' _ _ (by decide)).trans (f10 e)), (fun e => (eval_put_other' _ _ (by decide)).trans (f11 e)), (fun _ => eval_put_same' _ _ _ (by rw [so.size]; show (50 : Nat) < _; omega)), (fun e => by rw [show more l 12 13 = l 13 from rfl, n13] at e; cases e), (fun e => by rw [show more l 12 14 = l 14 from rfl, n14] at e; cases e), (fun _ => rfl), d13_0, d14_13, (fun e => (eval_put_other' _ _ (by decide)).trans (g7 e))⟩⟩
    · have ws := o13.waits ho hwait
      have w0 := ws 0 (by simp)
      have w12 := ws 12 (by simp)
      have n14 : l 14 = false := by cases hx : l 14 with | false => rfl | true => have := d14_13 hx; rw [hl] at this; cases this
      have st0 : TS1 wb v u c0 ys zs cs ll 1 D w := by
        have hst := st
        simp only [hl, Bool.false_eq_true, if_false, if_true, w12] at hst
        exact hst
      refine o13.appendR5 (f0 w0) (f12 w12) (st0.tri (by omega)).o1 (st0.row rfl).1 (fun y hy => ((st0.row rfl).2.1 y hy).later st0.later) ((st0.tri (by omega)).aways (st0.row rfl).2.1) (by have := (st0.row rfl).len; omega) ?_
      intro v2 w' ho' hg' h5'
      have st1 := st0.two ho' hg' h5'
      have st2 : TS1 wb v u c0 ys zs cs ll (if (more l 13) 13 = true then 2 else (if (more l 13) 12 = true then 1 else 0)) ({ D with v := v2 }) w' := by
        rw [if_pos (show more l 13 13 = true from rfl)]
        exact st1
      exact ⟨{ D with v := v2 }, (so.put (by decide) _), st2, (fun e => (eval_put_other' _ _ (by decide)).trans (f0 e)), (fun e => (eval_put_other' _ _ (by decide)).trans (f1 e)), (fun e => (eval_put_other' _ _ (by decide)).trans (f2 e)), (fun e => (eval_put_other' _ _ (by decide)).trans (f3 e)), (fun e => (eval_put_other' _ _ (by decide)).trans (f4 e)), (fun e => (eval_put_other' _ _ (by decide)).trans (f5 e)), (fun e => (eval_put_other' _ _ (by decide)).trans (f6 e)), (fun e => (eval_put_other' _ _ (by decide)).trans (f7 e)), (fun e => (eval_put_other' _ _ (by decide)).trans (f8 e)), (fun e => (eval_put_other' _ _ (by decide)).trans (f9 e)), (fun e => (eval_put_other' _ _ (by decide)).trans (f10 e)), (fun e => (eval_put_other' _ _ (by decide)).trans (f11 e)), (fun e => (eval_put_other' _ _ (by decide)).trans (f12 e)), (fun _ => eval_put_same' _ _ _ (by rw [so.size]; show (51 : Nat) < _; omega)), (fun e => by rw [show more l 13 14 = l 14 from rfl, n14] at e; cases e), (fun _ => w12), (fun _ => w0), (fun _ => rfl), (fun e => (eval_put_other' _ _ (by decide)).trans (g7 e))⟩
    · have ws := o14.waits ho hwait
      have w13 := ws 13 (by simp)
      have w12 := d13_12 w13
      have w0 := d13_0 w13
      have st0 := st
      refine o14.assign ?_
      rw [f13 w13]
      exact ⟨D, (so.put (by decide) _), st, (fun e => (eval_put_other' _ _ (by decide)).trans (f0 e)), (fun e => (eval_put_other' _ _ (by decide)).trans (f1 e)), (fun e => (eval_put_other' _ _ (by decide)).trans (f2 e)), (fun e => (eval_put_other' _ _ (by decide)).trans (f3 e)), (fun e => (eval_put_other' _ _ (by decide)).trans (f4 e)), (fun e => (eval_put_other' _ _ (by decide)).trans (f5 e)), (fun e => (eval_put_other' _ _ (by decide)).trans (f6 e)), (fun e => (eval_put_other' _ _ (by decide)).trans (f7 e)), (fun e => (eval_put_other' _ _ (by decide)).trans (f8 e)), (fun e => (eval_put_other' _ _ (by decide)).trans (f9 e)), (fun e => (eval_put_other' _ _ (by decide)).trans (f10 e)), (fun e => (eval_put_other' _ _ (by decide)).trans (f11 e)), (fun e => (eval_put_other' _ _ (by decide)).trans (f12 e)), (fun e => (eval_put_other' _ _ (by decide)).trans (f13 e)), (fun _ => eval_put_same' _ _ _ (by rw [so.size]; show (7 : Nat) < _; omega)), d13_12, d13_0, (fun _ => w13), (fun e => by have e2 : true = false := e; cases e2)⟩
  · intro l a w hall ⟨D, so, st, f0, f1, f2, f3, f4, f5, f6, f7, f8, f9, f10, f11, f12, f13, f14, d13_12, d13_0, d14_13, g7⟩
    rw [hn] at hall
    have hst : TS1 wb v u c0 ys zs cs ll 2 D w := by
      have hst := st
      simp only [hall 13 (by decide), if_true] at hst
      exact hst
    exact hend D a w so (f14 (hall 14 (by decide))) hst
  · have h0 : TS1 wb v u c0 ys zs cs ll 0 ⟨none, 0, 0, [], 0, v, v⟩ { wx with drawn := wx.drawn + 1 } := ⟨htri.later.trans (Later.refl wx).drew, (fun _ => htri.on (Later.refl wx).drew), (fun e => by omega), fun e => by omega⟩
    exact ⟨⟨none, 0, 0, [], 0, v, v⟩, SameOut.refl _ _, h0, (fun e => by cases e), (fun e => by cases e), (fun e => by cases e), (fun e => by cases e), (fun e => by cases e), (fun e => by cases e), (fun e => by cases e), (fun e => by cases e), (fun e => by cases e), (fun e => by cases e), (fun e => by cases e), (fun e => by cases e), (fun e => by cases e), (fun e => by cases e), (fun e => by cases e), (fun e => by cases e), (fun e => by cases e), (fun e => by cases e), (fun _ => e7)⟩

end Go.Proofs.YtbhnbkcokhfopaaGreat
