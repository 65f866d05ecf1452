import Derived.Test.YtlnjhimbgckdcaaGreatPk9
import Derived.Test.YtlnjhimbgckdcaaGreatPk10
import Derived.Test.YtlnjhimbgckdcaaGreatPk7
import Derived.Deep.LoopGhost
import Derived.Deep.QuietTactic
import Derived.BigQuiet
import Derived.Lib.Hide

/-
  What seq's Swap comes to, as a call.
-/
namespace Go.Proofs.YtlnjhimbgckdcaaGreat
open Go.RowKit Go.Maps

attribute [local go_sem] Oper.semAt_some

def Apart2 (v u : Value) (ys zs : List PrC) : Prop := (∀ g, v.ownBlock = some g -> u.ownBlock ≠ some g) /\ (∀ y ∈ ys, ∀ g, u.ownBlock = some g -> Away g y) /\ ∀ z ∈ zs, ∀ g, v.ownBlock = some g -> Away g z
def GivesS (r : Option (List Pr × List Pr)) (w : World) (e : Ending) (w' : World) : Prop :=
  Later w w' /\ match r with
  | none => e = .returned (.tuple #[.slice none 0 0, .slice none 0 0, .bool false])
  | some r => ∃ v u ys zs, e = .returned (.tuple #[v, u, .bool true]) /\ OwnPs 58 w w' v ys /\ OwnPs 58 w w' u zs /\ valsP ys = r.1 /\ valsP zs = r.2 /\ (∀ y ∈ ys, Fresh w y) /\ (∀ z ∈ zs, Fresh w z) /\ Apart2 v u ys zs
def Away3 (g : Nat) (x : PrC) : Prop := Away g x /\ Away (g + 1) x /\ Away (g + 2) x
theorem Fresh.away3 {V : World} {x : PrC} {g : Nat} (h : Fresh V x) (hg : g + 2 < V.heap.size) : Away3 g x := ⟨h.away (by omega), h.away (by omega), h.away (by omega)⟩
structure SwI (w : World) (gB : Nat) (A : Option Addr) (n c : Nat) (ls ms : List Pr) (k : Nat) (V : World) (A4 Au : Option Addr) (c4 cu : Nat) (ys zs : List PrC) (bv : Value) : Prop where
  b4 : BoxAt V w.heap.size #[.slice A4 ys.length c4] 28
  b5 : BoxAt V (w.heap.size + 1) #[.slice Au n cu] 28
  b6 : BoxAt V (w.heap.size + 2) #[bv] 4
  bB : BoxAt V gB #[.slice A n c] 28
  ov : OwnPs 58 w V (.slice A4 ys.length c4) ys
  ou : OwnPs 58 w V (.slice Au n cu) zs
  told : swapS (ls.drop (n - k)) ms = some (valsP ys, valsP (zs.drop (n - k)))
  apart : ∀ g, (Value.slice A4 ys.length c4).ownBlock = some g -> (Value.slice Au n cu).ownBlock ≠ some g
  zv : ∀ z ∈ zs, ∀ g, (Value.slice A4 ys.length c4).ownBlock = some g -> Away g z
  yu : ∀ y ∈ ys, ∀ g, (Value.slice Au n cu).ownBlock = some g -> Away g y
  a3 : ∀ z ∈ ys ++ zs, Away3 w.heap.size z
  fy : ∀ y ∈ ys, Fresh w y
  fz : ∀ z ∈ zs.drop (n - k), Fresh w z
def SwIE (w : World) (gB : Nat) (A : Option Addr) (n c : Nat) (ls ms : List Pr) (k : Nat) (V : World) : Prop := ∃ A4 Au c4 cu ys zs bv, SwI w gB A n c ls ms k V A4 Au c4 cu ys zs bv
theorem SwIE.book {w : World} {gB : Nat} {A : Option Addr} {n c : Nat} {ls ms : List Pr} {k B : Nat} (hB : w.heap.size <= B) : Books B (SwIE w gB A n c ls ms k) := by
  rintro V l o o' ⟨A4, Au, c4, cu, ys, zs, bv, h⟩ hl hh ho
  exact ⟨A4, Au, c4, cu, ys, zs, bv, h.b4.shut hh ho, h.b5.shut hh ho, h.b6.shut hh ho, h.bB.shut hh ho, h.ov.shut (by omega) hh ho, h.ou.shut (by omega) hh ho, h.told, h.apart, h.zv, h.yu, h.a3, h.fy, h.fz⟩
theorem SwIE.on {w V V' : World} {gB : Nat} {A : Option Addr} {n c : Nat} {ls ms : List Pr} {k : Nat} (h : SwIE w gB A n c ls ms k V) (hl : Later V V') : SwIE w gB A n c ls ms k V' := by
  obtain ⟨A4, Au, c4, cu, ys, zs, bv, h⟩ := h
  exact ⟨A4, Au, c4, cu, ys, zs, bv, h.b4.later hl, h.b5.later hl, h.b6.later hl, h.bB.later hl, h.ov.on hl, h.ou.on hl, h.told, h.apart, h.zv, h.yu, h.a3, h.fy, h.fz⟩
structure SwX (w : World) (ls ms : List Pr) (V : World) : Prop where
  later : Later w V
  b4 : BoxAt V w.heap.size #[.slice none 0 0] 28
  b5 : BoxAt V (w.heap.size + 1) #[.slice none 0 0] 28
  b6 : BoxAt V (w.heap.size + 2) #[.bool false] 4
  told : swapS ls ms = none
theorem set_drop_self {α : Type} {l : List α} {j : Nat} {y : α} (h : j < l.length) : (l.set j y).drop j = y :: l.drop (j + 1) := by
  rw [List.drop_set, if_neg (by omega), Nat.sub_self, List.drop_eq_getElem_cons h]
  rfl
theorem results_cells {P : Program} {fn : Func} (h : fn.results = #[.cell 4 28, .cell 5 28, .cell 6 4]) (hP : P = Tryz.prog) (tmps : Array Value) (w : World) (g : Nat) (v u b : Value) {t s : TypeId}
    (h4 : tmps.getD 4 undef = .pointer (some ⟨g, 0, none⟩)) (h5 : tmps.getD 5 undef = .pointer (some ⟨g + 1, 0, none⟩)) (h6 : tmps.getD 6 undef = .pointer (some ⟨g + 2, 0, none⟩)) (c4 : BoxAt w g #[v] t) (c5 : BoxAt w (g + 1) #[u] t) (c6 : BoxAt w (g + 2) #[b] s) : (results fn tmps).run P w = .ok (.tuple #[v, u, b]) w := by
  subst hP
  have d4 := c4.cell (i := 0) rfl; have d5 := c5.cell (i := 0) rfl; have d6 := c6.cell (i := 0) rfl
  simp only [List.getElem_toArray, List.getElem_cons_zero] at d4 d5 d6
  have p4 : tmps[4]?.getD undef = .pointer (some ⟨g, 0, none⟩) := by simpa using h4
  have p5 : tmps[5]?.getD undef = .pointer (some ⟨g + 1, 0, none⟩) := by simpa using h5
  have p6 : tmps[6]?.getD undef = .pointer (some ⟨g + 2, 0, none⟩) := by simpa using h6
  simp [results, h, p4, p5, p6, asAddr, go_sem, d4, d5, d6]

set_option maxRecDepth 100000 in
set_option maxHeartbeats 3200000 in
theorem seqSwap_any (A B : Option Addr) (n c m d : Nat) (ls ms : List PrC) (w : World) (hls : PsOk w A n ls) (hms : PsOk w B m ms) (hn : n <= 65536) (hm : m <= 65536) :
    Calls Tryz.prog 28 #[.slice A n c, .slice B m d] w (GivesS (swapS (valsP ls) (valsP ms)) w) := by
  have hlen := hls.len
  have HX := Lib.hid hls; have HM := Lib.hid hms
  clear hls hms
  refine (callsIn_wide (n := 3)).1 (callsIn_of_wp_marks Tryz.func28 rfl trivial (wpIn_wide.2 ?_) rfl)
  simp only [Tryz.ntmps28, List.size_toArray, List.length_cons, List.length_nil, Nat.reduceAdd, Nat.reduceSub, Array.replicate_succ, Array.replicate_zero, List.push_toArray, List.append_toArray, List.nil_append, List.cons_append]
  go_upto_region 1 with fail
  obtain ⟨b4, b5, b6, hl0, hsz⟩ : BoxAt (((w.alloc (.cells #[.slice none 0 0] 28)).alloc (.cells #[.slice none 0 0] 28)).alloc (.cells #[.bool false] 4)) w.heap.size #[.slice none 0 0] 28 /\ BoxAt (((w.alloc (.cells #[.slice none 0 0] 28)).alloc (.cells #[.slice none 0 0] 28)).alloc (.cells #[.bool false] 4)) (w.heap.size + 1) #[.slice none 0 0] 28 /\ BoxAt (((w.alloc (.cells #[.slice none 0 0] 28)).alloc (.cells #[.slice none 0 0] 28)).alloc (.cells #[.bool false] 4)) (w.heap.size + 2) #[.bool false] 4 /\ Later w (((w.alloc (.cells #[.slice none 0 0] 28)).alloc (.cells #[.slice none 0 0] 28)).alloc (.cells #[.bool false] 4)) /\ (((w.alloc (.cells #[.slice none 0 0] 28)).alloc (.cells #[.slice none 0 0] 28)).alloc (.cells #[.bool false] 4)).heap.size = w.heap.size + 3 := by
    refine ⟨((BoxAt.made w _ _).alloc _).alloc _, BoxAt.alloc ?_ _, ?_, (((Later.refl w).alloc _).alloc _).alloc _, by simp⟩
    · have := BoxAt.made (w.alloc (.cells #[.slice none 0 0] 28)) #[.slice none 0 0] 28
      rw [World.size_alloc] at this
      exact this
    · have := BoxAt.made ((w.alloc (.cells #[.slice none 0 0] 28)).alloc (.cells #[.slice none 0 0] 28)) #[.bool false] 4
      rw [World.size_alloc, World.size_alloc] at this
      exact this
  generalize ((w.alloc (.cells #[.slice none 0 0] 28)).alloc (.cells #[.slice none 0 0] 28)).alloc (.cells #[.bool false] 4) = wx at b4 b5 b6 hl0 hsz ⊢
  refine swa_region rfl (by kernel_rfl) ⟨_, rfl, rfl, rfl, rfl, by kernel_rfl⟩ ⟨_, rfl, rfl, rfl, rfl, by kernel_rfl⟩ ⟨_, rfl, rfl, rfl, rfl, by kernel_rfl⟩ ⟨_, rfl, rfl, rfl, rfl, by kernel_rfl⟩ ⟨_, rfl, rfl, rfl, rfl, by kernel_rfl⟩ ⟨_, rfl, rfl, rfl, rfl, by kernel_rfl⟩ ⟨_, rfl, rfl, rfl, rfl, by kernel_rfl⟩ (of_decide_eq_true rfl) rfl rfl rfl rfl hl0 hsz HM.out hm hn b4 b5 b6 (fun D a V so st => ?_)
  obtain ⟨v, ys, u⟩ := D
  have ha := so.is
  simp only [List.foldl_cons, List.foldl_nil] at ha
  generalize a.eval (.tmp 9) = v9 at ha
  generalize a.eval (.tmp 10) = v10 at ha
  generalize a.eval (.tmp 11) = v11 at ha
  generalize a.eval (.tmp 12) = v12 at ha
  generalize a.eval (.tmp 13) = v13 at ha
  clear so
  subst ha
  simp only [Act.put, List.setIfInBounds_toArray, List.set_cons_zero, List.set_cons_succ]
  have HST := Lib.hid st
  clear b4 b5 b6 hl0 st
  have HBK := Lib.hid (fun (w1 : World) => back_any A n c w1)
  go_wp2_with fail
  refine (HBK.out _).mono ?_
  rintro e w1 ⟨rfl, rfl⟩
  clear HBK
  go_wp2_with fail
  have hlB : Later V (V.alloc (.cells #[.slice A n c] 28)) := (Later.refl V).alloc _
  have hbB : BoxAt (V.alloc (.cells #[.slice A n c] 28)) V.heap.size #[.slice A n c] 28 := BoxAt.made V _ _
  have hi0 : SwIE w V.heap.size A n c (valsP ls) (valsP ms) 0 (V.alloc (.cells #[.slice A n c] 28)) := by
    have st := HST.out
    obtain ⟨o1, o2, o3⟩ := st.first (by decide)
    have o4 := st.second rfl
    have p0 := st.apart (by decide) rfl
    have x4 := st.x4; have x5 := st.x5; have x6 := st.x6
    simp only [Nat.le_refl, if_true, show (2 : Nat) <= 3 by decide] at x4 x5
    dsimp only at o1 o2 o3 o4 p0 x4 x5
    clear st
    obtain ⟨A4, c4, hv4, _, _⟩ := o1.row
    subst hv4
    obtain ⟨Au, cu, hu, _, _⟩ := o4.row
    rw [List.length_replicate] at hu
    subst hu
    obtain ⟨p1, p2⟩ := p0
    refine ⟨A4, Au, c4, cu, ys, List.replicate n zeroC, .bool false, x4.later hlB, x5.later hlB, x6.later hlB, hbB, o1.on hlB, o4.on hlB, ?_, p1, (fun z hz g _ => by rw [List.eq_of_mem_replicate hz]; exact zero_away g), p2, fun z hz => ?_, fun y hy => ?_, fun z hz => ?_⟩
    · rw [Nat.sub_zero, List.drop_of_length_le (by rw [valsP_length, hlen]; exact Nat.le_refl _), List.drop_of_length_le (by simp), o2]
      rfl
    · rcases List.mem_append.1 hz with h | h
      · exact (o3 z h).away3 (by omega)
      · rw [List.eq_of_mem_replicate h]; exact ⟨zero_away _, zero_away _, zero_away _⟩
    · exact ⟨fun g hg => Nat.le_trans (by omega) ((o3 y hy).1 g hg), fun g hg => Nat.le_trans (by omega) ((o3 y hy).2 g hg)⟩
    · rw [List.drop_of_length_le (by simp)] at hz
      cases hz
  have hl0 : Later w (V.alloc (.cells #[.slice A n c] 28)) := HST.out.later.trans hlB
  have hVs : w.heap.size + 3 <= V.heap.size := by have := HST.out.size; omega
  clear HST
  generalize hgB : V.heap.size = gB at hbB hi0 hVs ⊢
  generalize V.alloc (.cells #[.slice A n c] 28) = wL at hlB hbB hi0 hl0 ⊢
  refine range_rows (zs := rounds ls) (w0 := wL) rfl (enters_of Tryz.func63 (by kernel_rfl) rfl) (back_hands 2 gB (by decide) A n c ls (by omega) w wL HX.out.row hl0 (hbB.cell rfl)) (Later.refl _) (fun _ => rfl) (fun h k => h.trans k) (fun V l o o' hl hh ho => KpB.book hl0.le V l o o' hl hh ho)
    (SwIE w gB A n c (valsP ls) (valsP ms)) (fun _ => SwX w (valsP ls) (valsP ms))
    (fun k z a' V => SwIE w gB A n c (valsP ls) (valsP ms) k V /\ ∃ gx, BoxAt V gx (prL z.2).toArray 58 /\ a' = { tmps := #[.slice A n c, .slice B m d, undef, undef, .pointer (some ⟨w.heap.size, 0, none⟩), .pointer (some ⟨w.heap.size + 1, 0, none⟩), .pointer (some ⟨w.heap.size + 1 + 1, 0, none⟩), .int .i64 z.1, .pointer (some ⟨gx, 0, none⟩), v9, v10, v11, v12, v13, .slice A n c, .func (.func 63) #[] #[.pointer (some ⟨gB, 0, none⟩)], .int .i64 z.1, prV z.2, undef, undef, undef, undef, undef, undef, undef, undef, undef, undef, undef, undef, undef], defers := [] })
    (fun k => SwIE.book hl0.le) (fun k V l o o' h hl hh ho => ⟨h.later.shut (Nat.le_trans hl0.le hl), h.b4.shut hh ho, h.b5.shut hh ho, h.b6.shut hh ho, h.told⟩) (fun k z a' V l o o' ⟨h1, gx, h2, h3⟩ hl hh ho => ⟨SwIE.book hl0.le V l o o' h1 hl hh ho, gx, h2.shut hh ho, h3⟩)
    (fun o o' h => h.on (((Later.refl wL).alloc o).alloc o')) hi0 ?assign ?body ?done ?stop
  case assign =>
    intro l k z V' K hz hi hK
    obtain ⟨j, x⟩ := z
    simp only [backV, prV]
    gi_wp2
    refine hK _ _ (KeepsFrom.later ((Later.refl V').alloc _) _) ?_ ⟨hi.on ((Later.refl V').alloc _), V'.heap.size, BoxAt.made V' (prL x).toArray 58, rfl⟩
    obtain ⟨A4, Au, c4, cu, ys, zs, bv, h⟩ := hi
    exact kpB_of h.ov.later (h.ov.later.trans ((Later.refl V').alloc _)) ((Later.refl V').alloc _).le h.bB (h.bB.alloc _)
  case body =>
    rintro l k ⟨j, x⟩ a' V' hz ⟨⟨A4, Au, c4, cu, ys, zs, bv, h⟩, gx, hbx, rfl⟩
    obtain ⟨hj, hat⟩ := rounds_at hz
    dsimp only at hj hat hbx ⊢
    have hok0 := HX.out.each x (List.mem_of_getElem? hat)
    have hatv := valsP_at hat
    have hzl := h.ou.size
    have hjn : j < n := by omega
    obtain ⟨gu, ou, q, rfl, hzq, _, _⟩ := h.ou.ps.get hjn
    have hyl : ys.length <= 65536 := by
      have h1 := (swapS_length h.told).1
      rw [valsP_length, valsP_length, HM.out.len] at h1
      omega
    have hltB := h.bB.lt
    have hgu := h.ou.lt gu rfl
    refine wpIn_block (wpIn_seq (swb_region rfl (by kernel_rfl) (by kernel_rfl) ⟨_, rfl, rfl, rfl, rfl, by kernel_rfl⟩ ⟨_, rfl, rfl, rfl, rfl, by kernel_rfl⟩ ⟨_, rfl, rfl, rfl, rfl, by kernel_rfl⟩ ⟨_, rfl, rfl, rfl, rfl, by kernel_rfl⟩ ⟨_, rfl, rfl, rfl, rfl, by kernel_rfl⟩ ⟨_, rfl, rfl, rfl, rfl, by kernel_rfl⟩ ⟨_, rfl, rfl, rfl, rfl, by kernel_rfl⟩ ⟨_, rfl, rfl, rfl, rfl, by kernel_rfl⟩ ⟨_, rfl, rfl, rfl, rfl, by kernel_rfl⟩ ⟨_, rfl, rfl, rfl, rfl, by kernel_rfl⟩ ⟨_, rfl, rfl, rfl, rfl, by kernel_rfl⟩ (of_decide_eq_true rfl) rfl rfl rfl rfl rfl h.b4 h.b5 h.b6 hbx (hok0.later h.ov.later) h.ov h.ou rfl (fun g hg => hok0.away (h.ov.block g hg)) hyl hjn hgu h.apart h.zv (fun z hz => (h.a3 z (List.mem_append.2 (.inr hz))).2.2) (fun ⟨_, _, h⟩ => h) (fun D a V'' so st => ?_)))
    obtain ⟨⟨V1, V2, s1, s2, s3⟩, s4, ⟨s5, s6, s7⟩, s8⟩ := st
    have k1 : KeepsFrom wL.heap.size V' V1 := KeepsFrom.grown s1 h.ov
    obtain ⟨_, cur, hcur, _⟩ := (h.ou.grownO s1 h.apart h.zv (h.ov.later.grown s1 h.ov.block)).at
    have k2 : KeepsFrom wL.heap.size V1 V2 := KeepsFrom.turn s2 (show BoxAt V1 gu cur _ from hcur)
    have bb : ∀ {g : Nat} {v0 : Value} {t : TypeId}, t ≠ 58 -> BoxAt V' g #[v0] t -> BoxAt V2 g #[v0] t := fun ht hb => (hb.grown s1 (fun e => h.ov.noBox hb ht e.symm)).other s2 (by have := h.ou.noBox hb ht; intro e; exact this (by rw [e]; rfl))
    have k3 : KeepsFrom wL.heap.size V2 V'' := KeepsFrom.turn s3 (bb (by decide) h.b6)
    have kf := (k1.trans k2).trans k3
    have c4' : BoxAt V'' w.heap.size #[.slice A4 ys.length c4] 28 := (bb (by decide) h.b4).other s3 (by omega)
    have c5' : BoxAt V'' (w.heap.size + 1) #[.slice (some ⟨gu, ou, none⟩) n cu] 28 := (bb (by decide) h.b5).other s3 (by omega)
    have cB' : BoxAt V'' gB #[.slice A n c] 28 := (bb (by decide) h.bB).other s3 (by omega)
    have hsz2 : V'.heap.size <= V''.heap.size := kf.size
    have ha := so.is
    simp only [List.foldl_cons, List.foldl_nil] at ha
    generalize a.eval (.tmp 19) = y19 at ha
    generalize a.eval (.tmp 20) = y20 at ha
    generalize a.eval (.tmp 21) = y21 at ha
    generalize a.eval (.tmp 22) = y22 at ha
    generalize a.eval (.tmp 23) = y23 at ha
    generalize a.eval (.tmp 18) = y18 at ha
    generalize a.eval (.tmp 24) = y24 at ha
    generalize a.eval (.tmp 25) = y25 at ha
    generalize a.eval (.tmp 26) = y26 at ha
    clear so
    subst ha
    simp only [Act.put, List.setIfInBounds_toArray, List.set_cons_zero, List.set_cons_succ]
    have d6 := s8.cell (i := 0) rfl
    simp only [List.getElem_toArray, List.getElem_cons_zero] at d6
    cases hr : swap1 x.v (valsP ys) with
    | none =>
      rw [hr] at s5
      simp only [Option.isSome_none] at s5
      rw [s5] at d6
      have HNO := Lib.hid (swapS_stop (by rw [show j + 1 = n - k by omega]; exact h.told) hatv hr)
      have d4 := c4'.cell (i := 0) rfl; have d5 := c5'.cell (i := 0) rfl; have e4 := c4'.frozen 0; have e5 := c5'.frozen 0; have e6 := s8.frozen 0
      have t4 := turned_set V'' w.heap.size 0 (.slice none 0 0)
      have t5 := turned_set (V''.setCell ⟨w.heap.size, 0, none⟩ (.slice none 0 0)) (w.heap.size + 1) 0 (.slice none 0 0)
      have t6 := turned_set ((V''.setCell ⟨w.heap.size, 0, none⟩ (.slice none 0 0)).setCell ⟨w.heap.size + 1, 0, none⟩ (.slice none 0 0)) (w.heap.size + 1 + 1) 0 (.bool false)
      have g4 := c4'.set 0 (.slice none 0 0)
      have g5 := (c5'.other t4 (by omega))
      have g6 := (s8.other t4 (by omega)).other t5 (by omega)
      have HB := Lib.hid (show SwX w (valsP ls) (valsP ms) (((V''.setCell ⟨w.heap.size, 0, none⟩ (.slice none 0 0)).setCell ⟨w.heap.size + 1, 0, none⟩ (.slice none 0 0)).setCell ⟨w.heap.size + 1 + 1, 0, none⟩ (.bool false)) from
        ⟨((s4.later.turn t4 (Nat.le_refl _)).turn t5 (by omega)).turn t6 (by omega), (g4.other t5 (by omega)).other t6 (by omega), (g5.set 0 (.slice none 0 0)).other t6 (by omega), g6.set 0 (.bool false), HNO.out⟩)
      have HK := Lib.hid (show KeepsFrom wL.heap.size V' (((V''.setCell ⟨w.heap.size, 0, none⟩ (.slice none 0 0)).setCell ⟨w.heap.size + 1, 0, none⟩ (.slice none 0 0)).setCell ⟨w.heap.size + 1 + 1, 0, none⟩ (.bool false)) from
        ((kf.trans (KeepsFrom.turn t4 c4')).trans (KeepsFrom.turn t5 g5)).trans (KeepsFrom.turn t6 g6))
      clear t4 t5 t6 g4 g5 g6 k1 k2 k3 kf bb s1 s2 s3 s4 s5 s6 s7 s8 h hz hat hatv hok0 HNO c4' c5' cB' hbx hcur hr
      gi_wp2
      exact ⟨HK.out, HB.out⟩
    | some p =>
      rw [hr] at s5
      simp only [Option.isSome_some] at s5
      rw [s5] at d6
      obtain ⟨q1, q2, q3, q4⟩ := s7 p hr
      have hls2 := q2.size
      have hjz : j < zs.length := by omega
      have HN := Lib.hid (show SwIE w gB A n c (valsP ls) (valsP ms) (k + 1) V'' from by
        refine ⟨A4, some ⟨gu, ou, none⟩, c4, cu, D.ys, zs.set j D.y, .bool D.t, ?_, c5', s8, cB', ?_, s4, ?_, ?_, ?_, ?_, ?_, ?_, ?_⟩
        · rw [hls2]; exact c4'
        · rw [hls2]; exact q2
        · rw [show n - (k + 1) = j by omega, set_drop_self hjz, swapS_step (p' := p.2) (m2 := p.1) (by rw [show j + 1 = n - k by omega]; exact h.told) hatv hr, ← q1, ← q3, show n - k = j + 1 by omega]
          rfl
        · intro g hg; rw [hls2] at hg; exact h.apart g hg
        · intro z hz g hg
          rw [hls2] at hg
          rcases List.mem_or_eq_of_mem_set hz with h1 | rfl
          · exact h.zv z h1 g hg
          · exact s6.away (h.ov.lt g hg)
        · intro y hy g hg
          cases hg
          exact (q4 y hy).away hgu
        · intro z hz
          have hlt6 := h.b6.lt
          rcases List.mem_append.1 hz with h1 | h1
          · exact (q4 z h1).away3 hlt6
          · rcases List.mem_or_eq_of_mem_set h1 with h2 | rfl
            · exact h.a3 z (List.mem_append.2 (.inr h2))
            · exact s6.away3 hlt6
        · intro y hy; exact (q4 y hy).base h.ov.later
        · intro z hz
          rw [show n - (k + 1) = j by omega, set_drop_self hjz] at hz
          rcases List.mem_cons.1 hz with rfl | h1
          · exact s6.base h.ov.later
          · exact h.fz z (by rw [show n - k = j + 1 by omega]; exact h1)
        )
      have HK := Lib.hid kf
      have HKP := Lib.hid (kpB_of h.ov.later s4.later hsz2 h.bB cB')
      clear k1 k2 k3 kf bb s1 s2 s3 s4 s5 s6 s7 s8 h hz hat hatv hok0 c4' c5' cB' hbx hcur hr q1 q2 q3 q4
      gi_wp2
      exact ⟨HK.out, HKP.out, HN.out⟩
  case done =>
    rintro Dd V' hD ⟨A4, Au, c4, cu, ys, zs, bv, h⟩ hd
    have told := h.told
    have fz := h.fz
    rw [rounds_length, hlen, Nat.sub_self, List.drop_zero, List.drop_zero] at told
    rw [rounds_length, hlen, Nat.sub_self, List.drop_zero] at fz
    have d4 := h.b4.cell (i := 0) rfl; have d5 := h.b5.cell (i := 0) rfl; have d6 := h.b6.cell (i := 0) rfl
    have e4 := h.b4.frozen 0; have e5 := h.b5.frozen 0; have e6 := h.b6.frozen 0
    simp only [List.getElem_toArray, List.getElem_cons_zero] at d4 d5 d6
    have HH := Lib.hid h; have HT := Lib.hid told; have HF := Lib.hid fz; have HD := Lib.hid hd
    clear h told fz hd
    have H := HH.out
    have t4 := turned_set V' w.heap.size 0 (.slice A4 ys.length c4)
    have t5 := turned_set (V'.setCell ⟨w.heap.size, 0, none⟩ (.slice A4 ys.length c4)) (w.heap.size + 1) 0 (.slice Au n cu)
    have t6 := turned_set ((V'.setCell ⟨w.heap.size, 0, none⟩ (.slice A4 ys.length c4)).setCell ⟨w.heap.size + 1, 0, none⟩ (.slice Au n cu)) (w.heap.size + 1 + 1) 0 (.bool true)
    have g4 := ((H.b4.set 0 (.slice A4 ys.length c4)).other t5 (by omega)).other t6 (by omega)
    have g5 := ((H.b5.other t4 (by omega)).set 0 (.slice Au n cu)).other t6 (by omega)
    have g6 := ((H.b6.other t4 (by omega)).other t5 (by omega)).set 0 (.bool true)
    have n4 := box_off HD.out rfl H.b4; have n5 := box_off HD.out rfl H.b5; have n6 := box_off HD.out rfl H.b6
    have hlt := (Array.getElem?_eq_some_iff.1 HD.out).1
    have h1 : (V'.setCell ⟨w.heap.size, 0, none⟩ (.slice A4 ys.length c4)).heap[Dd]? = some (.deferred (some [])) := (t4.block Dd hlt (by simp; omega)).trans HD.out
    have h2 := (t5.block Dd (Array.getElem?_eq_some_iff.1 h1).1 (by simp; omega)).trans h1
    have h3 := (t6.block Dd (Array.getElem?_eq_some_iff.1 h2).1 (by simp; omega)).trans h2
    have l4 := H.ov.later.turn t4 (Nat.le_refl _)
    have l5 := l4.turn t5 (by omega)
    have l6 := l5.turn t6 (by omega)
    have v4 := H.ov.other t4 (H.ov.noBox H.b4 (by decide)) (fun z hz => (H.a3 z (List.mem_append.2 (.inl hz))).1) l4
    have v5 := v4.other t5 (v4.noBox (H.b5.other t4 (by omega)) (by decide)) (fun z hz => (H.a3 z (List.mem_append.2 (.inl hz))).2.1) l5
    have v6 := v5.other t6 (v5.noBox ((H.b6.other t4 (by omega)).other t5 (by omega)) (by decide)) (fun z hz => (H.a3 z (List.mem_append.2 (.inl hz))).2.2) l6
    have u4 := H.ou.other t4 (H.ou.noBox H.b4 (by decide)) (fun z hz => (H.a3 z (List.mem_append.2 (.inr hz))).1) l4
    have u5 := u4.other t5 (u4.noBox (H.b5.other t4 (by omega)) (by decide)) (fun z hz => (H.a3 z (List.mem_append.2 (.inr hz))).2.1) l5
    have u6 := u5.other t6 (u5.noBox ((H.b6.other t4 (by omega)).other t5 (by omega)) (by decide)) (fun z hz => (H.a3 z (List.mem_append.2 (.inr hz))).2.2) l6
    have G4 := Lib.hid (g4.later (Later.refl _).drew); have G5 := Lib.hid (g5.later (Later.refl _).drew); have G6 := Lib.hid (g6.later (Later.refl _).drew); have G3 := Lib.hid ((show ∀ X : World, X.heap[Dd]? = some (Obj.deferred (some [])) -> X.drew.heap[Dd]? = some (Obj.deferred (some [])) from fun _ h => h) _ h3); have GL := Lib.hid l6.drew; have GV := Lib.hid (v6.on (Later.refl _).drew); have GU := Lib.hid (u6.on (Later.refl _).drew); have GF := Lib.hid H.fy; have GA := Lib.hid (show Apart2 (.slice A4 ys.length c4) (.slice Au n cu) ys zs from ⟨H.apart, H.yu, H.zv⟩)
    clear H t4 t5 t6 g4 g5 g6 n4 n5 n6 hlt h1 h2 h3 l4 l5 l6 v4 v5 v6 u4 u5 u6 HH
    go_wp2_with fail
    go_region
    go_wp2
    refine ⟨by simp, .inl ⟨_, _, rfl, run_takeDeferred G3.out, ?_⟩⟩
    refine ⟨_, results_cells rfl rfl _ _ w.heap.size _ _ _ rfl rfl rfl (G4.out.shut G3.out rfl) (G5.out.shut G3.out rfl) (G6.out.shut G3.out rfl), ?_⟩
    unfold GivesS
    rw [HT.out]
    exact ⟨GL.out.shut (Nat.le_trans hl0.le hD), _, _, ys, zs, rfl, GV.out.shut (Nat.le_trans hl0.le hD) G3.out rfl, GU.out.shut (Nat.le_trans hl0.le hD) G3.out rfl, rfl, rfl, GF.out, HF.out, GA.out⟩
  case stop =>
    rintro Dd k V' hD hk h hd
    refine ⟨by simp, .inl ⟨_, _, rfl, run_takeDeferred hd, ?_⟩⟩
    refine ⟨_, results_cells rfl rfl _ _ w.heap.size _ _ _ rfl rfl rfl (h.b4.shut hd rfl) (h.b5.shut hd rfl) (h.b6.shut hd rfl), ?_⟩
    unfold GivesS
    rw [h.told]
    exact ⟨h.later.shut (Nat.le_trans hl0.le hD), rfl⟩

end Go.Proofs.YtlnjhimbgckdcaaGreat
