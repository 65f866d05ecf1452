import Derived.Test.YtbhnbkcokhfopaaGreatPk8
import Derived.Test.YtbhnbkcokhfopaaGreatPk3
import Derived.Deep.LoopGhost
import Derived.Deep.QuietTactic
import Derived.BigQuiet
import Derived.Lib.Hide
import Derived.Test.YtbhnbkcokhfopaaGreatPk9
import Derived.Test.YtbhnbkcokhfopaaGreatPk12
import Derived.Test.YtbhnbkcokhfopaaGreatPk19

/-
  What the document's own table comes to, as a call, and a row the other way round.
-/
namespace Go.Proofs.YtbhnbkcokhfopaaGreat
open Go.RowKit Go.Maps

/-- The row that is being made beside the table. -/
structure RowM (eo ei : TypeId) (w0 w : World) (v : Value) (i m g : Nat) (T : Nat → Nat → Nat) (f : Nat → Nat) : Prop where
  tt : OwnTt eo ei w0 w v i m g T
  row : NumsAt w g m ei f
  base : w0.heap.size ≤ g
section
variable {eo ei : TypeId} {w0 w w' : World} {v : Value} {i m g : Nat} {T : Nat → Nat → Nat} {f : Nat → Nat}
theorem RowM.on (h : RowM eo ei w0 w v i m g T f) (hl : Later w w') : RowM eo ei w0 w' v i m g T f := ⟨h.tt.on hl, h.row.later hl, h.base⟩
theorem RowM.set (h : RowM eo ei w0 w v i m g T f) {j : Nat} (hj : j < m) (z : Nat) : RowM eo ei w0 (w.setCell ⟨g, j, none⟩ (.int .i64 (z : Nat))) v i m g T (fun x => if x = j then z else f x) :=
  ⟨h.tt.other (turned_set w g j _) (Nat.le_refl _) h.base, h.row.set hj z, h.base⟩
/-- Right up to place k, and nothing from there on. -/
def UpTo (T : Nat → Nat → Nat) (i m k : Nat) (f : Nat → Nat) : Prop := (∀ x, x < k → f x = T i x) ∧ ∀ x, k ≤ x → x < m → f x = 0
theorem UpTo.next {k : Nat} (h : UpTo T i m k f) (hk : f k = T i k) : UpTo T i m (k + 1) f :=
  ⟨fun x hx => by
    by_cases e : x = k
    · rw [e]; exact hk
    · exact h.1 x (by omega), fun x h1 h2 => h.2 x (by omega) h2⟩
theorem UpTo.set {k z : Nat} (h : UpTo T i m k f) (hz : z = T i k) : UpTo T i m (k + 1) (fun x => if x = k then z else f x) :=
  ⟨fun x hx => by
    by_cases e : x = k
    · dsimp only; rw [if_pos e, e]; exact hz
    · dsimp only; rw [if_neg e]; exact h.1 x (by omega), fun x h1 h2 => by dsimp only; rw [if_neg (by omega)]; exact h.2 x (by omega) h2⟩
theorem UpTo.put {k z : Nat} (h : UpTo T i m (k + 1) f) (hz : z = T i k) : UpTo T i m (k + 1) (fun x => if x = k then z else f x) :=
  ⟨fun x hx => by
    by_cases e : x = k
    · dsimp only; rw [if_pos e, e]; exact hz
    · dsimp only; rw [if_neg e]; exact h.1 x hx, fun x h1 h2 => by dsimp only; rw [if_neg (by omega)]; exact h.2 x h1 h2⟩
/-- As it was but for place k. -/
def But (T : Nat → Nat → Nat) (i m k z : Nat) (f : Nat → Nat) : Prop := (∀ x, x < k → f x = T i x) ∧ f k = z ∧ ∀ x, k < x → x < m → f x = 0
theorem UpTo.but {k : Nat} (h : UpTo T i m k f) (z : Nat) : But T i m k z (fun x => if x = k then z else f x) :=
  ⟨fun x hx => by dsimp only; rw [if_neg (by omega)]; exact h.1 x hx, by dsimp only; rw [if_pos rfl], fun x h1 h2 => by dsimp only; rw [if_neg (by omega)]; exact h.2 x (by omega) h2⟩
theorem But.put {k y : Nat} (h : But T i m k y f) (z : Nat) : But T i m k z (fun x => if x = k then z else f x) :=
  ⟨fun x hx => by dsimp only; rw [if_neg (by omega)]; exact h.1 x hx, by dsimp only; rw [if_pos rfl], fun x h1 h2 => by dsimp only; rw [if_neg (by omega)]; exact h.2.2 x h1 h2⟩
theorem But.upTo {k z : Nat} (h : But T i m k z f) (hz : z = T i k) : UpTo T i m (k + 1) f :=
  ⟨fun x hx => by
    by_cases e : x = k
    · rw [e, h.2.1]; exact hz
    · exact h.1 x (by omega), fun x h1 h2 => h.2.2 x (by omega) h2⟩
end

set_option maxRecDepth 100000 in
set_option maxHeartbeats 6400000 in
theorem most_any (A B : Option Addr) (n c m d : Nat) (la lb : List ByteArray) (w : World) (ha : Row w A n la) (hb : Row w B m lb) (hn : n ≤ 65536) (hm : m ≤ 65536) :
    Calls Tryz.prog 69 #[.slice A n c, .slice B m d] w (GivesT6 (n + 1) (m + 1) (tabM la lb) w) := by
  obtain ⟨i1, hi1, hz1, hs1, hy1⟩ := info_parts Tryz.rowInfo
  obtain ⟨i2, hi2, hz2, hs2, hy2⟩ := info_parts Tryz.numInfo
  have HA := Lib.hid ha; have HB := Lib.hid hb
  clear ha hb
  go_enter Tryz.func69, Tryz.ntmps69
  go_wp2
  go_loopg [5, 6] (n + 2) (fun g s5 s6 wr => ∃ (i Bd : Nat) (v : Value), i ≤ n + 1 ∧ n + 1 - i ≤ g ∧ s6 = .int .i64 (i : Nat) ∧ s5 = v ∧ Hid (OwnTt 86 3 w wr v i (m + 1) Bd (tabM la lb)) ∧ Hid (Bd ≤ wr.heap.size))
  case atStart => exact ⟨0, 0, _, by omega, by omega, rfl, rfl, OwnTt.nil (Later.refl w), Nat.zero_le _⟩
  case round =>
    obtain ⟨i, Bd, v, hi, hg, rfl, hv, hT, hS⟩ := hrel
    obtain rfl := hv.symm
    clear hv
    by_cases hlt : i ≤ n
    · go_wp2_with (at_make; refine wpList_make_n rfl _ _ 86 rfl i2 _ Tryz.underlying86 hi2 hz2 hs2 8 hy2 (by decide) .i64 .i64 (m + 1) rfl rfl (by omega) ?_; intro w4 HW4; refine Hid.out ?_)
      have hn0 := NumsAt.made wr (m + 1) 3
      have hlm : Later wr (wr.alloc (.cells (madeCells #[.int .i64 0] (m + 1)) 3)) := (Later.refl wr).alloc _
      rw [show wr.alloc (.cells (madeCells #[.int .i64 0] (m + 1)) 3) = w4 from HW4.out.symm] at hn0 hlm
      have HR0 : Hid (RowM 86 3 w w4 v i (m + 1) wr.heap.size (tabM la lb) (fun _ => 0)) := ⟨(hT.out.up hS.out).on hlm, hn0, hT.out.later.le⟩
      have HU0 : Hid (UpTo (tabM la lb) i (m + 1) 0 (fun _ => 0)) := ⟨fun x hx => absurd hx (Nat.not_lt_zero _), fun x _ _ => rfl⟩
      clear hn0 hlm HW4 hT hS
      refine Lib.hid ?_
      generalize wr.heap.size = g0 at HR0 ⊢
      go_wp2
      go_loopg [8] (m + 2) (fun g s8 wq => ∃ k : Nat, k ≤ m + 1 ∧ m + 1 - k ≤ g ∧ s8 = .int .i64 (k : Nat) ∧ ∃ f, Hid (RowM 86 3 w wq v i (m + 1) g0 (tabM la lb) f) ∧ Hid (UpTo (tabM la lb) i (m + 1) k f))
      case atStart => exact ⟨0, by omega, by omega, rfl, _, HR0, HU0⟩
      case round =>
        obtain ⟨k, hk, hgk, rfl, f, hR, hU⟩ := hrel
        clear HR0 HU0
        by_cases hkm : k ≤ m
        · cases i with
          | zero =>
            have HU2 := Lib.hid (hU.out.next (by rw [hU.out.2 k (Nat.le_refl _) (by omega), tabM_left]))
            go_wp2
            go_roundg (m + 1 - (k + 1))
            case measure => omega
            case rel => exact ⟨k + 1, by omega, Nat.le_refl _, by go_num, f, hR, HU2⟩
          | succ i =>
            cases k with
            | zero =>
              have HU2 := Lib.hid (hU.out.next (by rw [hU.out.2 0 (Nat.le_refl _) (by omega), tabM_right]))
              go_wp2
              go_roundg (m + 1 - (0 + 1))
              case measure => omega
              case rel => exact ⟨0 + 1, by omega, Nat.le_refl _, by go_num, f, hR, HU2⟩
            | succ k =>
              have HST := Lib.hid (tabM_step (a := la) (b := lb) (i := i) (k := k) (by rw [HA.out.len]; omega) (by rw [HB.out.len]; omega))
              have hb1 := tabM_le la lb i (k + 1); have hb2 := tabM_le la lb (i + 1) k; have hb3 := tabM_le la lb i k
              rw [HA.out.len] at hb1 hb2 hb3
              have HQ : Hid (f k = tabM la lb (i + 1) k) := hU.out.1 k (by omega)
              obtain ⟨At, ct, hvt, hct, htab⟩ := hR.out.tt.tab
              subst hvt
              have HTT : Hid (TabAt wr At (i + 1) (m + 1) 0 (tabM la lb)) := htab
              obtain ⟨bt, ot, gt, dt, rfl, t1, t2⟩ := htab i (Nat.zero_le _) (by omega)
              replace t2 := t2 (k + 1) (by omega)
              generalize e1 : tabM la lb i (k + 1) = p1 at t2 HST hb1
              have E1 := Lib.hid e1
              clear e1
              rw [show ((i + 1 : Nat) : Int) = (i : Int) + 1 from by omega, show ((k + 1 : Nat) : Int) = (k : Int) + 1 from by omega]
              go_wp2_with (with_reducible show wpList _ _ _ ({ dst := none, op := Op.store 3 _ _, type := _, pos := _, after := _, guard := _ } :: _) _ _; refine Hid.out ?_)
              refine Lib.hid (wpList_store_cell rfl rfl 3 _ _ rfl Tryz.numSize g0 (k + 1) (.int .i64 (p1 : Nat)) rfl rfl rfl ⟨_, hR.out.row.cell (by omega)⟩ (hR.out.row.frozen _) ?_)
              have HR1 := Lib.hid (hR.out.set (j := k + 1) (by omega) p1)
              have HB1 := Lib.hid (hU.out.but p1)
              have HQ1 : Hid ((fun x => if x = k + 1 then p1 else f x) k = tabM la lb (i + 1) k) := by
                show (if k = k + 1 then p1 else f k) = _
                rw [if_neg (by omega)]; exact HQ.out
              clear hR hU t1 t2 HTT HQ
              generalize wr.setCell ⟨g0, k + 1, none⟩ (.int .i64 (p1 : Nat)) = w6 at HR1 ⊢
              generalize (fun x => if x = k + 1 then p1 else f x) = f1 at HR1 HB1 HQ1
              have c1 := HR1.out.row.cell (j := k) (by omega); have c2 := HR1.out.row.cell (j := k + 1) (by omega)
              rw [HQ1.out] at c1
              rw [HB1.out.2.1] at c2
              generalize e2 : tabM la lb (i + 1) k = p2 at c1 HST hb2
              have E2 := Lib.hid e2
              clear e2 HQ1
              by_cases hgt : p1 < p2
              · go_wp2
                go_region
                have HR7 := Lib.hid (HR1.out.on (Later.refl w6).drew)
                clear HR1
                have c1' : w6.drew.cell? ⟨g0, k, none⟩ = some (.int .i64 (p2 : Nat)) := c1
                clear c1 c2
                generalize w6.drew = w7 at HR7 c1' ⊢
                go_wp2_with (with_reducible show wpList _ _ _ ({ dst := none, op := Op.store 3 _ _, type := _, pos := _, after := _, guard := _ } :: _) _ _; refine Hid.out ?_)
                refine Lib.hid (wpList_store_cell rfl rfl 3 _ _ rfl Tryz.numSize g0 (k + 1) (.int .i64 (p2 : Nat)) rfl rfl rfl ⟨_, HR7.out.row.cell (by omega)⟩ (HR7.out.row.frozen _) ?_)
                have HR8 := Lib.hid (HR7.out.set (j := k + 1) (by omega) p2)
                have HB8 := Lib.hid (HB1.out.put p2)
                clear HR7 HB1 c1'
                generalize w7.setCell ⟨g0, k + 1, none⟩ (.int .i64 (p2 : Nat)) = w8 at HR8 ⊢
                generalize (fun x => if x = k + 1 then p2 else f1 x) = f2 at HR8 HB8
                obtain ⟨q1, hq1⟩ : ∃ q1, q1 = p2 := ⟨_, rfl⟩
                rw [← hq1] at HB8
                have hqm : max p1 p2 = q1 := by omega
                have hqb : q1 ≤ 65536 := by omega
                have d2 := HR8.out.row.cell (j := k + 1) (by omega)
                rw [HB8.out.2.1] at d2
                obtain ⟨At, ct, hvt, hct, htab⟩ := HR8.out.tt.tab
                cases hvt
                obtain ⟨bt', ot', gt', dt', e0, t1, t2⟩ := htab i (Nat.zero_le _) (by omega)
                cases e0
                replace t2 := t2 k (by omega)
                generalize e3 : tabM la lb i k = p3 at t2 HST hb3
                have HP3 := Lib.hid e3
                clear e3
                obtain ⟨ba, oa, rfl, x1⟩ := (HA.out.later HR8.out.tt.later).get (k := i) (by omega)
                obtain ⟨bb, ob, rfl, x2⟩ := (HB.out.later HR8.out.tt.later).get (k := k) (by omega)
                clear htab hct
                by_cases he : la.getD i ByteArray.empty = lb.getD k ByteArray.empty
                · have hq : ((la.getD i ByteArray.empty).toList == (lb.getD k ByteArray.empty).toList) = true := by rw [text_beq]; simp only [he, decide_true]
                  rw [if_pos he] at HST
                  generalize la.getD i ByteArray.empty = xa at x1 hq
                  generalize lb.getD k ByteArray.empty = xb at x2 hq
                  clear he
                  by_cases hgt2 : q1 < p3 + 1
                  · have hd3 : decide ((q1 : Int) < (p3 : Int) + 1) = true := by simp; omega
                    go_wp2
                    go_region
                    have HR9 := Lib.hid (HR8.out.on (Later.refl w8).drew)
                    clear HR8 x1 x2 t1 t2 d2 hq
                    generalize w8.drew = w9 at HR9 ⊢
                    obtain ⟨At, ct, hvt, hct, htab⟩ := HR9.out.tt.tab
                    cases hvt
                    obtain ⟨bt'', ot'', gt'', dt'', e0, t1, t2⟩ := htab i (Nat.zero_le _) (by omega)
                    cases e0
                    replace t2 := t2 k (by omega)
                    clear htab hct
                    rw [HP3.out] at t2
                    go_wp2_with (with_reducible show wpList _ _ _ ({ dst := none, op := Op.store 3 _ _, type := _, pos := _, after := _, guard := _ } :: _) _ _; refine Hid.out ?_)
                    refine Lib.hid (wpList_store_cell rfl rfl 3 _ _ rfl Tryz.numSize g0 (k + 1) (.int .i64 ((p3 + 1 : Nat) : Int)) rfl rfl rfl ⟨_, HR9.out.row.cell (by omega)⟩ (HR9.out.row.frozen _) ?_)
                    have HR10 := Lib.hid (HR9.out.set (j := k + 1) (by omega) (p3 + 1))
                    have HU10 := Lib.hid ((HB8.out.put (p3 + 1)).upTo (by rw [HST.out]; omega))
                    clear HR9 t1 t2
                    generalize w9.setCell ⟨g0, k + 1, none⟩ (.int .i64 ((p3 + 1 : Nat) : Int)) = w10 at HR10 ⊢
                    go_wp2
                    go_roundg (m + 1 - (k + 1 + 1))
                    case measure => omega
                    case rel => exact ⟨k + 1 + 1, by omega, Nat.le_refl _, by go_num, _, HR10, HU10⟩
                  · have hd3 : decide ((q1 : Int) < (p3 : Int) + 1) = false := by simp; omega
                    have HU10 := Lib.hid (HB8.out.upTo (by rw [HST.out]; omega))
                    go_wp2
                    go_region
                    go_wp2
                    go_roundg (m + 1 - (k + 1 + 1))
                    case measure => omega
                    case rel => exact ⟨k + 1 + 1, by omega, Nat.le_refl _, by go_num, _, HR8.out.on (Later.refl _).drew, HU10⟩
                · have hq : ((la.getD i ByteArray.empty).toList == (lb.getD k ByteArray.empty).toList) = false := text_ne he
                  rw [if_neg he] at HST
                  have HU10 := Lib.hid (HB8.out.upTo (by rw [HST.out]; omega))
                  generalize la.getD i ByteArray.empty = xa at x1 hq
                  generalize lb.getD k ByteArray.empty = xb at x2 hq
                  clear he
                  go_wp2
                  go_region
                  go_wp2
                  go_roundg (m + 1 - (k + 1 + 1))
                  case measure => omega
                  case rel => exact ⟨k + 1 + 1, by omega, Nat.le_refl _, by go_num, _, HR8.out.on (Later.refl _).drew, HU10⟩
              · go_wp2
                go_region
                have HR8 := Lib.hid (HR1.out.on (Later.refl w6).drew)
                have HB8 := HB1
                clear HR1 c1 c2 HB1
                generalize w6.drew = w8 at HR8 ⊢
                generalize f1 = f2 at HR8 HB8
                obtain ⟨q1, hq1⟩ : ∃ q1, q1 = p1 := ⟨_, rfl⟩
                rw [← hq1] at HB8
                have hqm : max p1 p2 = q1 := by omega
                have hqb : q1 ≤ 65536 := by omega
                have d2 := HR8.out.row.cell (j := k + 1) (by omega)
                rw [HB8.out.2.1] at d2
                obtain ⟨At, ct, hvt, hct, htab⟩ := HR8.out.tt.tab
                cases hvt
                obtain ⟨bt', ot', gt', dt', e0, t1, t2⟩ := htab i (Nat.zero_le _) (by omega)
                cases e0
                replace t2 := t2 k (by omega)
                generalize e3 : tabM la lb i k = p3 at t2 HST hb3
                have HP3 := Lib.hid e3
                clear e3
                obtain ⟨ba, oa, rfl, x1⟩ := (HA.out.later HR8.out.tt.later).get (k := i) (by omega)
                obtain ⟨bb, ob, rfl, x2⟩ := (HB.out.later HR8.out.tt.later).get (k := k) (by omega)
                clear htab hct
                by_cases he : la.getD i ByteArray.empty = lb.getD k ByteArray.empty
                · have hq : ((la.getD i ByteArray.empty).toList == (lb.getD k ByteArray.empty).toList) = true := by rw [text_beq]; simp only [he, decide_true]
                  rw [if_pos he] at HST
                  generalize la.getD i ByteArray.empty = xa at x1 hq
                  generalize lb.getD k ByteArray.empty = xb at x2 hq
                  clear he
                  by_cases hgt2 : q1 < p3 + 1
                  · have hd3 : decide ((q1 : Int) < (p3 : Int) + 1) = true := by simp; omega
                    go_wp2
                    go_region
                    have HR9 := Lib.hid (HR8.out.on (Later.refl w8).drew)
                    clear HR8 x1 x2 t1 t2 d2 hq
                    generalize w8.drew = w9 at HR9 ⊢
                    obtain ⟨At, ct, hvt, hct, htab⟩ := HR9.out.tt.tab
                    cases hvt
                    obtain ⟨bt'', ot'', gt'', dt'', e0, t1, t2⟩ := htab i (Nat.zero_le _) (by omega)
                    cases e0
                    replace t2 := t2 k (by omega)
                    clear htab hct
                    rw [HP3.out] at t2
                    go_wp2_with (with_reducible show wpList _ _ _ ({ dst := none, op := Op.store 3 _ _, type := _, pos := _, after := _, guard := _ } :: _) _ _; refine Hid.out ?_)
                    refine Lib.hid (wpList_store_cell rfl rfl 3 _ _ rfl Tryz.numSize g0 (k + 1) (.int .i64 ((p3 + 1 : Nat) : Int)) rfl rfl rfl ⟨_, HR9.out.row.cell (by omega)⟩ (HR9.out.row.frozen _) ?_)
                    have HR10 := Lib.hid (HR9.out.set (j := k + 1) (by omega) (p3 + 1))
                    have HU10 := Lib.hid ((HB8.out.put (p3 + 1)).upTo (by rw [HST.out]; omega))
                    clear HR9 t1 t2
                    generalize w9.setCell ⟨g0, k + 1, none⟩ (.int .i64 ((p3 + 1 : Nat) : Int)) = w10 at HR10 ⊢
                    go_wp2
                    go_roundg (m + 1 - (k + 1 + 1))
                    case measure => omega
                    case rel => exact ⟨k + 1 + 1, by omega, Nat.le_refl _, by go_num, _, HR10, HU10⟩
                  · have hd3 : decide ((q1 : Int) < (p3 : Int) + 1) = false := by simp; omega
                    have HU10 := Lib.hid (HB8.out.upTo (by rw [HST.out]; omega))
                    go_wp2
                    go_region
                    go_wp2
                    go_roundg (m + 1 - (k + 1 + 1))
                    case measure => omega
                    case rel => exact ⟨k + 1 + 1, by omega, Nat.le_refl _, by go_num, _, HR8.out.on (Later.refl _).drew, HU10⟩
                · have hq : ((la.getD i ByteArray.empty).toList == (lb.getD k ByteArray.empty).toList) = false := text_ne he
                  rw [if_neg he] at HST
                  have HU10 := Lib.hid (HB8.out.upTo (by rw [HST.out]; omega))
                  generalize la.getD i ByteArray.empty = xa at x1 hq
                  generalize lb.getD k ByteArray.empty = xb at x2 hq
                  clear he
                  go_wp2
                  go_region
                  go_wp2
                  go_roundg (m + 1 - (k + 1 + 1))
                  case measure => omega
                  case rel => exact ⟨k + 1 + 1, by omega, Nat.le_refl _, by go_num, _, HR8.out.on (Later.refl _).drew, HU10⟩
        · have HF : Hid (∀ x, x < m + 1 → f x = tabM la lb i x) := fun x hx => hU.out.1 x (by omega)
          have hrow := hR.out.row.is HF.out
          obtain ⟨gs, ho, hgl, hrs⟩ := hR.out.tt.rows
          have hlow := hR.out.tt.low
          have hbase := hR.out.base
          have hlr : Later wr (wr.alloc (.cells #[.slice (some ⟨g0, 0, none⟩) (m + 1) (m + 1)] 86)) := (Later.refl wr).alloc _
          have HO := Lib.hid (ho.on hlr)
          have HRW : Hid (RowK 1 (wr.alloc (.cells #[.slice (some ⟨g0, 0, none⟩) (m + 1) (m + 1)] 86)) (some ⟨wr.heap.size, 0, none⟩) 1 [[.slice (some ⟨g0, 0, none⟩) (m + 1) (m + 1)]]) := RowK.one wr [.slice (some ⟨g0, 0, none⟩) (m + 1) (m + 1)] 86
          have HRS : Hid (∀ i g, gs[i]? = some g → NumsAt (wr.alloc (.cells #[.slice (some ⟨g0, 0, none⟩) (m + 1) (m + 1)] 86)) g (m + 1) 3 (tabM la lb i) ∧ w.heap.size ≤ g ∧ g < g0 ∧ v.ownBlock ≠ some g) := fun i g hg => by obtain ⟨q1, q2⟩ := hrs i g hg; exact ⟨q1.later hlr, q2⟩
          have HNW := Lib.hid (hrow.later hlr)
          have HLOW := Lib.hid hlow; have HBASE := Lib.hid hbase; have HGL := Lib.hid hgl
          clear hrow ho hrs hlow hbase hlr hR hU HF hgl
          go_wp2_with (at_builtin; refine Hid.out ?_)
          generalize wr.alloc (.cells #[.slice (some ⟨g0, 0, none⟩) (m + 1) (m + 1)] 86) = w6 at HO HRW HRS HNW ⊢
          refine Lib.hid (wpList_append_rowK5 rfl _ _ 84 rfl i1 _ 24 Tryz.underlying84 hi1 hz1 hs1 hy1 rfl (by decide) HO.out rfl _ _ 1 1 _ rfl HRW.out (by decide) (by simp [Value.oneCell']) (by rw [List.length_map, HGL.out]; omega) (by decide) ?_)
          intro v7 w7 ho7 hg7 h57
          have HT7 := Lib.hid (OwnTt.grow HGL.out HRS.out HLOW.out ho7 hg7 h57 (Nat.le_refl _) HBASE.out HNW.out)
          clear ho7 hg7 h57 HO HRW HRS HNW HLOW HBASE HGL
          go_wp2
          go_roundg (n + 1 - (i + 1))
          case measure => omega
          case rel => exact ⟨i + 1, _, v7, by omega, Nat.le_refl _, by go_num, rfl, HT7, Nat.le_refl _⟩
    · obtain rfl : i = n + 1 := by omega
      go_wp2
      go_ret
      obtain ⟨At, ct, hvt, hct, htab⟩ := hT.out.tab
      exact ⟨At, ct, by rw [← hvt]; rfl, hct, htab, hT.out.later⟩

set_option maxHeartbeats 800000 in
theorem turned_any (A : Option Addr) (n c : Nat) (l : List ByteArray) (w : World) (hx : Row w A n l) (hn : n ≤ 65536) :
    Calls Tryz.prog 70 #[.slice A n c] w (GivesOwn l.reverse w) := by
  obtain ⟨i0, hi, hz0, hz1, hz2⟩ := info_parts Tryz.textInfo
  have HX := Lib.hid hx; clear hx
  go_enter Tryz.func70, Tryz.ntmps70
  go_wp2
  go_loopg [3, 4] (n + 1) (fun g s3 s4 wr => ∃ (k : Nat) (v : Value), k ≤ n ∧ k ≤ g ∧ s4 = .int .i64 ((k : Int) - 1) ∧ s3 = v ∧ Hid (Own 9 w wr v (l.drop k).reverse))
  case atStart => exact ⟨n, _, Nat.le_refl _, by omega, rfl, rfl, by show Own _ _ _ _ _; rw [List.drop_of_length_le (by rw [HX.out.len]; exact Nat.le_refl _)]; exact Own.nil (Later.refl w)⟩
  case round =>
    obtain ⟨k, v, hk, hg, rfl, hv, hO⟩ := hrel
    obtain rfl := hv.symm
    clear hv
    cases k with
    | zero =>
      go_wp2
      go_ret
      exact ⟨v, rfl, by have := hO.out; rw [List.drop_zero] at this; exact this⟩
    | succ k =>
      rw [show ((k + 1 : Nat) : Int) - 1 = (k : Int) from by omega]
      have hkl : k < l.length := by rw [HX.out.len]; omega
      obtain ⟨b, o, rfl, g1⟩ := (HX.out.later hO.out.later).get (k := k) (by omega)
      have HD : Hid ((l.drop k).reverse = (l.drop (k + 1)).reverse ++ [l.getD k ByteArray.empty]) := by show _ = _; rw [drop_cons hkl, List.reverse_cons]
      have hdl : (l.drop (k + 1)).reverse.length ≤ 65536 := by rw [List.length_reverse, List.length_drop, HX.out.len]; omega
      generalize l.getD k ByteArray.empty = y at g1 HD
      have HO1 := Lib.hid (hO.out.alloc (.cells #[.string y] 9))
      clear hO hkl
      go_wp2_with (at_builtin; refine wpList_append_row rfl _ _ 45 rfl i0 Tryz.underlying45 hi hz0 hz1 hz2 HO1.out rfl _ _ _ [y] rfl (Row.one _ y 9) (by omega) ?_; intro v4 w4 hown4 hg4; have HO4 := Lib.hid hown4; clear hown4 hg4)
      go_roundg k
      case measure => omega
      case rel => exact ⟨k, v4, by omega, Nat.le_refl _, by go_num, rfl, by show Own _ _ _ _ _; rw [HD.out]; exact HO4.out⟩

end Go.Proofs.YtbhnbkcokhfopaaGreat

/-
  What the document's own Common comes to, as a call.
-/
namespace Go.Proofs.YtbhnbkcokhfopaaGreat
open Go.RowKit Go.Maps

theorem Tryz.rpairInfo : (Tryz.prog.info? 103).map (fun i => (i.zero, i.size, i.bytes)) = some (some (.agg #[.int .i64 0, .int .i64 0]), 2, 16) := by kernel_rfl
theorem next_room {a b : List ByteArray} {i k left : Nat} (h : tabB a b i k = left + 1) : i < a.length ∧ k < b.length := by
  constructor
  · rcases Nat.lt_or_ge i a.length with h1 | h1
    · exact h1
    · rw [tabB_left h1] at h; omega
  · rcases Nat.lt_or_ge k b.length with h1 | h1
    · exact h1
    · rw [tabB_right h1] at h; omega

set_option maxRecDepth 100000 in
set_option maxHeartbeats 3200000 in
theorem refCommon6_any (A B : Option Addr) (n c m d : Nat) (la lb : List ByteArray) (w : World) (ha : Row w A n la) (hb : Row w B m lb) (hn : n ≤ 200) (hm : m ≤ 200) :
    Calls Tryz.prog 57 #[.slice A n c, .slice B m d] w (GivesPairs 103 (commonL la lb) w) := by
  have hna := ha.len; have hnb := hb.len
  have HC := Lib.hid (common_small (a := la) (b := lb) (by omega) (by omega))
  have HT1 := Lib.hid (turned_any A n c la w ha (by omega))
  have hle := tabB_le la lb 0 0
  rw [hna] at hle
  have HA := Lib.hid ha; have HB := Lib.hid hb
  clear ha hb hna hnb
  obtain ⟨i0, hi, hz0, hz1, hz2⟩ := info_parts Tryz.rpairInfo
  go_enter Tryz.func57, Tryz.ntmps57
  go_wp2_with fail
  refine HT1.out.mono ?_
  rintro e w1 ⟨v1, rfl, ho1⟩
  obtain ⟨A1, c1, hv1, hc1, hr1⟩ := ho1.row
  rw [List.length_reverse, HA.out.len] at hv1 hc1 hr1
  subst hv1
  have HT2 := Lib.hid (turned_any B m d lb w1 (HB.out.later ho1.later) (by omega))
  have HR1 := Lib.hid hr1; have HL1 := Lib.hid ho1.later
  clear ho1 hr1 HT1
  go_wp2_with fail
  refine HT2.out.mono ?_
  rintro e w2 ⟨v2, rfl, ho2⟩
  obtain ⟨A2, c2, hv2, hc2, hr2⟩ := ho2.row
  rw [List.length_reverse, HB.out.len] at hv2 hc2 hr2
  subst hv2
  have HM := Lib.hid (most_any A1 A2 n c1 m c2 la.reverse lb.reverse w2 (HR1.out.later ho2.later) hr2 (by omega) (by omega))
  have HL2 := Lib.hid (HL1.out.trans ho2.later)
  clear ho2 hr2 HT2
  go_wp2_with fail
  refine HM.out.mono ?_
  rintro e w3 ⟨C, ce, rfl, hce, ht, hl3⟩
  have HTB : Hid (TabAt w3 C (n + 1) (m + 1) 0 (fun i k => tabB la lb (n - i) (m - k))) := by
    intro i h1 h2
    obtain ⟨b, o, g, c', h3, h4, h5⟩ := ht i h1 h2
    refine ⟨b, o, g, c', h3, h4, fun j hj => ?_⟩
    rw [h5 j hj, tabM_turned, HA.out.len, HB.out.len]
  have HL3 := Lib.hid (HL2.out.trans hl3)
  clear ht hl3 HM HR1
  obtain ⟨bt, ot, gt, ct, rfl, t1, t2⟩ := HTB.out n (Nat.zero_le _) (by omega)
  replace t2 := t2 m (by omega)
  simp only [Nat.sub_self] at t2
  generalize htot : tabB la lb 0 0 = tot at t2 HC hle
  have HTOT := Lib.hid htot
  clear htot
  go_wp2
  clear t1 t2
  go_loopg [6, 7, 8, 9] (tot + 1) (fun g s6 s7 s8 s9 wr => ∃ (i k left : Nat) (acc : List (Nat × Nat)) (v : Value), left ≤ g ∧ s6 = .int .i64 (left : Nat) ∧ s7 = v ∧ s8 = .int .i64 (i : Nat) ∧ s9 = .int .i64 (k : Nat) ∧ acc.length + left = tot ∧ i ≤ n ∧ k ≤ m ∧ Hid (OwnK 103 2 w3 wr v (pairsV acc)) ∧ Hid (acc ++ commonGo la lb left i k = commonL la lb) ∧ Hid (tabB la lb i k = left))
  case atStart => exact ⟨0, 0, tot, [], _, by omega, rfl, rfl, rfl, rfl, by simp, Nat.zero_le _, Nat.zero_le _, OwnK.nil (Later.refl _), by rw [List.nil_append]; exact HC.out.symm, HTOT.out⟩
  case round =>
    obtain ⟨i, k, left, acc, v, hg, rfl, hv, rfl, rfl, hacc, hi', hk', hO, hEq, hT⟩ := hrel
    obtain rfl := hv.symm
    clear hv
    cases left with
    | zero =>
      have HE : Hid (commonL la lb = acc) := by
        have := hEq.out
        simp only [commonGo, List.append_nil] at this
        exact this.symm
      go_wp2
      go_ret
      exact ⟨v, rfl, by rw [HE.out]; exact hO.out.base HL3.out⟩
    | succ left =>
      obtain ⟨xf, yf, hxy, hix, hky, hxa, hyb, ht2, hgo⟩ := common_next hT.out
      obtain ⟨hin, hkn⟩ := next_room hT.out
      rw [HA.out.len] at hin hxa
      rw [HB.out.len] at hkn hyb
      have HXY := Lib.hid hxy; have HGO := Lib.hid hgo; have HT2 := Lib.hid ht2
      clear hxy hgo ht2
      rw [show ((left + 1 : Nat) : Int) = (left : Int) + 1 from by omega]
      go_wp2
      go_loopg [10, 11] ((n - i) * (m + 1) + (m - k) + 1) (fun g s10 s11 wq => ∃ x y : Nat, (n - x) * (m + 1) + (m - y) ≤ g ∧ s10 = .int .i64 (x : Nat) ∧ s11 = .int .i64 (y : Nat) ∧ i ≤ x ∧ k ≤ y ∧ x < n ∧ y < m ∧ Hid (NoneYet la lb (left + 1) i k x y) ∧ Hid (OwnK 103 2 w3 wq v (pairsV acc)))
      case atStart => exact ⟨i, k, by omega, rfl, rfl, Nat.le_refl _, Nat.le_refl _, hin, hkn, NoneYet.start, hO⟩
      case round =>
        obtain ⟨x, y, hgx, rfl, rfl, hx', hy', hxn, hym, hno, hO'⟩ := hrel
        clear hO
        obtain ⟨ba, oa, rfl, d1⟩ := (HA.out.later (HL3.out.trans hO'.out.later)).get (k := x) hxn
        obtain ⟨bb, ob, rfl, d2⟩ := (HB.out.later (HL3.out.trans hO'.out.later)).get (k := y) hym
        obtain ⟨u, hu⟩ : ∃ u : Nat, (n : Int) - x - 1 = u := ⟨n - x - 1, by omega⟩
        obtain ⟨z, hz⟩ : ∃ z : Nat, (m : Int) - y - 1 = z := ⟨m - y - 1, by omega⟩
        obtain ⟨bt', ot', gt', ct', e0, t1, t2⟩ := (HTB.out.later hO'.out.later) u (Nat.zero_le _) (by omega)
        cases e0
        replace t2 := t2 z (by omega)
        dsimp only at t2
        rw [show n - u = x + 1 from by omega, show m - z = y + 1 from by omega] at t2
        have hbig := tabB_le la lb (x + 1) (y + 1)
        rw [HA.out.len] at hbig
        have HG := Lib.hid (good_is (a := la) (b := lb) x y (left + 1))
        generalize tabB la lb (x + 1) (y + 1) = tv at t2 hbig HG
        have hun : u < n + 1 := by omega
        have hzm : z < m + 1 := by omega
        by_cases he : la.getD x ByteArray.empty = lb.getD y ByteArray.empty
        · have hq : ((la.getD x ByteArray.empty).toList == (lb.getD y ByteArray.empty).toList) = true := by rw [text_beq]; simp only [he, decide_true]
          have hq' : ((la.getD x ByteArray.empty).toList != (lb.getD y ByteArray.empty).toList) = false := by unfold bne; rw [hq]; rfl
          by_cases ht : tv = left
          · have HGD : Hid (goodAt la lb (left + 1) x y = true) := by
              show _ = true
              rw [HG.out, he, ht]; simp
            have hxy2 : (x, y) = (xf, yf) := Option.some.inj ((next_is hno.out hx' hy' (by rw [HA.out.len]; omega) (by rw [HB.out.len]; omega) HGD.out).symm.trans HXY.out)
            obtain ⟨hx1, hy1⟩ := Prod.mk.inj hxy2
            subst hx1
            subst hy1
            generalize la.getD x ByteArray.empty = xa at d1 hq hq'
            generalize lb.getD y ByteArray.empty = xb at d2 hq hq'
            subst ht
            have hq2 : (((tv : Int) + 1) != ((tv : Int) + 1)) = false := by simp
            clear he HG HGD hxy2
            go_wp2
            go_region
            have hlb : Later wr.drew (wr.drew.alloc (.cells #[.int .i64 (x : Nat), .int .i64 (y : Nat)] 103)) := (Later.refl _).alloc _
            have HO2 := Lib.hid ((hO'.out.on (Later.refl wr).drew).on hlb)
            have HR2 : Hid (RowK 2 (wr.drew.alloc (.cells #[.int .i64 (x : Nat), .int .i64 (y : Nat)] 103)) (some ⟨wr.drew.heap.size, 0, none⟩) 1 [[.int .i64 (x : Nat), .int .i64 (y : Nat)]]) := RowK.one wr.drew [.int .i64 (x : Nat), .int .i64 (y : Nat)] 103
            clear hO' d1 d2 t1 t2 hu hz hlb
            generalize wr.drew = wy at HO2 HR2 ⊢
            go_wp2_with (at_builtin; refine Hid.out ?_)
            refine Lib.hid (wpList_append_rowK5 rfl _ _ 101 rfl i0 _ 16 Tryz.underlying101 hi hz0 hz1 hz2 rfl (by decide) HO2.out rfl _ _ 1 1 _ rfl HR2.out (by decide) (by simp [Value.oneCell']) (by rw [pairsV_length]; omega) (by decide) ?_)
            intro v4 w4 ho4 hg4 h5
            have HO4 : Hid (OwnK 103 2 w3 w4 v4 (pairsV (acc ++ [(x, y)]))) := by
              show OwnK _ _ _ _ _ _
              rw [pairsV_append]
              exact ho4
            have HEQ2 : Hid ((acc ++ [(x, y)]) ++ commonGo la lb tv (x + 1) (y + 1) = commonL la lb) := by
              show _ = _
              rw [← hEq.out, HGO.out, List.append_assoc]
              rfl
            clear ho4 hg4 h5 HO2 HR2
            go_wp2
            go_roundg tv
            case measure => omega
            case rel => exact ⟨x + 1, y + 1, tv, acc ++ [(x, y)], v4, Nat.le_refl _, by go_num, rfl, by go_num, by go_num, by simp; omega, by omega, by omega, HO4, HEQ2, HT2⟩
          · have hq2 : (((tv : Int) + 1) != ((left : Int) + 1)) = true := by simp; omega
            have HNX := Lib.hid (hno.out.step (by rw [HG.out, decide_eq_false (show ¬ tv + 1 = left + 1 from by omega)]; simp))
            generalize la.getD x ByteArray.empty = xa at d1 hq hq'
            generalize lb.getD y ByteArray.empty = xb at d2 hq hq'
            clear he HG ht
            go_wp2
            go_region
            have HO2 := Lib.hid (hO'.out.on (Later.refl wr).drew)
            clear hO' d1 d2 t1 t2 hu hz
            generalize wr.drew = wy at HO2 ⊢
            by_cases hend : y + 1 = m
            · have HNY := Lib.hid (HNX.out.next (by rw [HB.out.len]; omega))
              have hmr := (HNX.out.more hT.out).2 (by rw [HB.out.len]; omega)
              rw [HA.out.len] at hmr
              have hms : (n - x) * (m + 1) = (n - (x + 1)) * (m + 1) + (m + 1) := by rw [show n - x = (n - (x + 1)) + 1 from by omega, Nat.add_mul, Nat.one_mul]
              have hd : (((y : Int) + 1) == (m : Int)) = true := by simp; omega
              go_wp2
              go_roundg ((n - (x + 1)) * (m + 1) + (m - k))
              case measure => omega
              case rel => exact ⟨x + 1, k, Nat.le_refl _, by go_num, rfl, by omega, Nat.le_refl _, hmr, hkn, HNY, HO2⟩
            · have hd : (((y : Int) + 1) == (m : Int)) = false := by simp; omega
              go_wp2
              go_roundg ((n - x) * (m + 1) + (m - (y + 1)))
              case measure => omega
              case rel => exact ⟨x, y + 1, Nat.le_refl _, rfl, by go_num, hx', by omega, hxn, by omega, HNX, HO2⟩
        · have hq : ((la.getD x ByteArray.empty).toList == (lb.getD y ByteArray.empty).toList) = false := text_ne he
          have hq' : ((la.getD x ByteArray.empty).toList != (lb.getD y ByteArray.empty).toList) = true := by unfold bne; rw [hq]; rfl
          have HNX := Lib.hid (hno.out.step (by rw [HG.out, decide_eq_false he]; simp))
          generalize la.getD x ByteArray.empty = xa at d1 hq hq'
          generalize lb.getD y ByteArray.empty = xb at d2 hq hq'
          clear he HG
          go_wp2
          go_region
          have HO2 := Lib.hid (hO'.out.on (Later.refl wr).drew)
          clear hO' d1 d2 t1 t2 hu hz
          generalize wr.drew = wy at HO2 ⊢
          by_cases hend : y + 1 = m
          · have HNY := Lib.hid (HNX.out.next (by rw [HB.out.len]; omega))
            have hmr := (HNX.out.more hT.out).2 (by rw [HB.out.len]; omega)
            rw [HA.out.len] at hmr
            have hms : (n - x) * (m + 1) = (n - (x + 1)) * (m + 1) + (m + 1) := by rw [show n - x = (n - (x + 1)) + 1 from by omega, Nat.add_mul, Nat.one_mul]
            have hd : (((y : Int) + 1) == (m : Int)) = true := by simp; omega
            go_wp2
            go_roundg ((n - (x + 1)) * (m + 1) + (m - k))
            case measure => omega
            case rel => exact ⟨x + 1, k, Nat.le_refl _, by go_num, rfl, by omega, Nat.le_refl _, hmr, hkn, HNY, HO2⟩
          · have hd : (((y : Int) + 1) == (m : Int)) = false := by simp; omega
            go_wp2
            go_roundg ((n - x) * (m + 1) + (m - (y + 1)))
            case measure => omega
            case rel => exact ⟨x, y + 1, Nat.le_refl _, rfl, by go_num, hx', by omega, hxn, by omega, HNX, HO2⟩

end Go.Proofs.YtbhnbkcokhfopaaGreat

/-
  Operations of a region that draws its order, over the document's rows of pairs and of prims: an index, a field, a load, a cut, a prim that is built, a slice of one, append.
-/
namespace Go.Proofs.YtbhnbkcokhfopaaGreat
open Go.RowKit Go.Maps

theorem Tryz.rprimInfo6 : (Tryz.prog.info? 70).map (fun i => (i.zero, i.size, i.bytes)) = some (some (.agg #[.int .i64 0, .string ByteArray.empty, .string ByteArray.empty, .int .i64 0, .slice none 0 0, .slice none 0 0]), 6, 96) := by kernel_rfl
/-- Where a row begins that is cut out of another one. -/
def cutA (A : Option Addr) (c f : Nat) : Option Addr := if c = f then A else A.map (·.add f)
theorem Row.cutA {w : World} {A : Option Addr} {n c f t : Nat} {l : List ByteArray} (h : Row w A n l) (hft : f ≤ t) (ht : t ≤ n) (hc : n ≤ c) : Row w (cutA A c f) (t - f) (gapL l f t) := by
  have := h.piece (f := f) (t := t) (m := c) hft ht (by omega)
  rw [Nat.mul_one] at this
  exact this
section
variable {ops : Array Oper} {Q : Exit → Act → World → Prop} {K : Act → World → Prop} {i : Nat} {dst : Option Tmp} {js : List Nat} {a : Act} {w w0 : World}
theorem OpIs.indexQ {j k : Tmp} {g o n c m : Nat} (h : OpIs ops i (.indexAddr 101 (.tmp j) (.tmp k)) dst js) (hj : a.eval (.tmp j) = .slice (some ⟨g, o, none⟩) n c) (hk' : a.eval (.tmp k) = .int .i64 (m : Nat)) (hm : m < n) (hk : K (a.put dst (.pointer (some ⟨g, o + m * 2, none⟩))) w) : wpOp Tryz.prog ops Q i K a w :=
  h.go fun op h1 h2 => by
    have hr : (execOp a.eval op).run Tryz.prog w = .ok (.value (.pointer (some ⟨g, o + m * 2, none⟩))) w := by
      unfold execOp
      rw [h1]
      simp only [hj, hk']
      go_simp
    unfold Oper.wp
    rw [hr]
    show K _ _
    rw [h2]
    exact hk
theorem OpIs.fieldQ {k : Tmp} {f g o : Nat} (h : OpIs ops i (.fieldAddr 103 (.tmp k) f) dst js) (hf : f < 2) (he : a.eval (.tmp k) = .pointer (some ⟨g, o, none⟩)) (hk : K (a.put dst (.pointer (some ⟨g, o + f, none⟩))) w) : wpOp Tryz.prog ops Q i K a w :=
  h.go fun op h1 h2 => by
    have hr : (execOp a.eval op).run Tryz.prog w = .ok (.value (.pointer (some ⟨g, o + f, none⟩))) w := by
      unfold execOp
      rw [h1]
      simp only [he]
      rcases (by omega : f = 0 ∨ f = 1) with rfl | rfl <;> go_simp
    unfold Oper.wp
    rw [hr]
    show K _ _
    rw [h2]
    exact hk
theorem OpIs.loadI {k : Tmp} {g o : Nat} {x : Int} (h : OpIs ops i (.load 3 (.tmp k)) dst js) (he : a.eval (.tmp k) = .pointer (some ⟨g, o, none⟩)) (hc : w.cell? ⟨g, o, none⟩ = some (.int .i64 x)) (hk : K (a.put dst (.int .i64 x)) w) : wpOp Tryz.prog ops Q i K a w :=
  h.go fun op h1 h2 => by
    have hr : (execOp a.eval op).run Tryz.prog w = .ok (.value (.int .i64 x)) w := by
      unfold execOp
      rw [h1]
      simp only [he]
      go_simp
    unfold Oper.wp
    rw [hr]
    show K _ _
    rw [h2]
    exact hk
/-- A row cut out of another one. -/
theorem OpIs.cutL {j k m : Tmp} {A : Option Addr} {n c f t : Nat} (h : OpIs ops i (.slice 45 (.tmp j) (some (.tmp k)) (some (.tmp m)) none) dst js) (hj : a.eval (.tmp j) = .slice A n c) (hk' : a.eval (.tmp k) = .int .i64 (f : Nat)) (hm : a.eval (.tmp m) = .int .i64 (t : Nat)) (hft : f ≤ t) (htn : t ≤ n) (hc : n ≤ c)
    (hk : K (a.put dst (.slice (cutA A c f) (t - f) (c - f))) w) : wpOp Tryz.prog ops Q i K a w :=
  h.go fun op h1 h2 => by
    have hr : (execOp a.eval op).run Tryz.prog w = .ok (.value (.slice (cutA A c f) (t - f) (c - f))) w := by
      unfold execOp cutA
      rw [h1]
      simp only [Option.map_some, hj, hk', hm]
      go_simp
      exact fun h => absurd h (by omega)
    unfold Oper.wp
    rw [hr]
    show K _ _
    rw [h2]
    exact hk
theorem OpIs.buildH {j k l m : Tmp} {nm : ByteArray} {z : Int} {A B : Option Addr} {n c p d : Nat} (h : OpIs ops i (.build 70 #[(1, .tmp j), (3, .tmp k), (4, .tmp l), (5, .tmp m)]) dst js) (hj : a.eval (.tmp j) = .string nm) (hk' : a.eval (.tmp k) = .int .i64 z) (hl : a.eval (.tmp l) = .slice A n c) (hm : a.eval (.tmp m) = .slice B p d)
    (hk : K (a.put dst (.agg #[.int .i64 0, .string nm, .string ByteArray.empty, .int .i64 z, .slice A n c, .slice B p d])) w) : wpOp Tryz.prog ops Q i K a w :=
  h.go fun op h1 h2 => by
    have hr : (execOp a.eval op).run Tryz.prog w = .ok (.value (.agg #[.int .i64 0, .string nm, .string ByteArray.empty, .int .i64 z, .slice A n c, .slice B p d])) w := by
      unfold execOp
      rw [h1]
      simp only [hj, hk', hl, hm, List.map_toArray, List.map_cons, List.map_nil]
      go_simp
      rfl
    unfold Oper.wp
    rw [hr]
    show K _ _
    rw [h2]
    exact hk
theorem OpIs.build1R {k : Tmp} {x : PrC} (h : OpIs ops i (.buildSlice 34 1 #[(0, .tmp k)]) dst js) (hv : a.eval (.tmp k) = prV x) (hk : K (a.put dst (.slice (some ⟨w.heap.size, 0, none⟩) 1 1)) (w.alloc (.cells (prL x).toArray 70))) : wpOp Tryz.prog ops Q i K a w :=
  h.go fun o h1 h2 => by
    have hr : (execOp a.eval o).run Tryz.prog w = .ok (.value (.slice (some ⟨w.heap.size, 0, none⟩) 1 1)) (w.alloc (.cells (prL x).toArray 70)) := by
      unfold prV at hv
      unfold execOp
      rw [h1]
      simp only [hv, List.map_toArray, List.map_cons, List.map_nil]
      go_simp
      rfl
    unfold Oper.wp
    rw [hr]
    show K _ _
    rw [h2]
    exact hk
theorem OpIs.appendR {j k : Tmp} {v : Value} {xs ys : List PrC} {A : Option Addr} {m c : Nat} (h : OpIs ops i (.call { callee := .builtin .append, args := #[.tmp j, .tmp k], argTypes := #[34, 34] }) dst js) (hj : a.eval (.tmp j) = v) (hv : a.eval (.tmp k) = .slice A m c)
    (hown : OwnPs 70 w0 w v xs) (hr : RowK 6 w A m (ys.map prL)) (hok : ∀ y ∈ ys, PrOk w y) (haw : ∀ y ∈ ys, ∀ g, v.ownBlock = some g → Away g y) (hb : xs.length + m ≤ 1000000)
    (hk : ∀ v' w', OwnPs 70 w0 w' v' (xs ++ ys) → w.grownBy w' v.ownBlock → K (a.put dst v') w') : wpOp Tryz.prog ops Q i K a w :=
  h.go fun o h1 h2 => by
    obtain ⟨i0, hi, hz0, hz1, hz2⟩ := info_parts Tryz.rprimInfo6
    obtain ⟨v', w', hrun, ho, hg⟩ := run_append_ps (P := Tryz.prog) 34 o.type i0 _ 96 Tryz.underlying34 hi hz0 hz1 hz2 rfl hown A m c ys hr hok haw hb (by omega)
    unfold Oper.wp execOp
    simp only [h1, resolve, invoke, builtin, Sem.run_bind, Sem.run_pure, Result.andThen_ok, List.map_toArray, List.map_cons, List.map_nil, hj, hv, hrun]
    show K _ _
    rw [h2]
    exact hk v' w' ho hg
end

end Go.Proofs.YtbhnbkcokhfopaaGreat
