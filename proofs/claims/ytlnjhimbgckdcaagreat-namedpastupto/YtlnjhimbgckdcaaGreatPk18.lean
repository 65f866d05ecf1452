import Derived.Test.YtlnjhimbgckdcaaGreatPk16
import Derived.Test.YtlnjhimbgckdcaaGreatPk17
import Derived.Test.YtlnjhimbgckdcaaGreatPk13
import Derived.Deep.LoopGhost
import Derived.Deep.QuietTactic
import Derived.BigQuiet
import Derived.Lib.Hide
import Derived.Test.YtlnjhimbgckdcaaGreatPk5
import Derived.Test.YtlnjhimbgckdcaaGreatPk7
import Derived.Test.YtlnjhimbgckdcaaGreatPk4

/-
  What named's Past comes to, as a call.
-/
namespace Go.Proofs.YtlnjhimbgckdcaaGreat
open Go.RowKit Go.Maps
attribute [local go_sem] Oper.semAt_some

def GivesPast (r : Option (Pa × List Pa)) (w : World) (e : Ending) (w' : World) : Prop :=
  Later w w' /\ match r with
  | none => e = .returned (.tuple #[paV zeroN, .slice none 0 0, .bool false])
  | some r => ∃ y v zs, e = .returned (.tuple #[paV y, v, .bool true]) /\ y.v = r.1 /\ PaOk w' y /\ FreshN w y /\ OwnNs 30 w w' v zs /\ valsN zs = r.2 /\ (∀ z ∈ zs, FreshN w z) /\ ∀ k, v.ownBlock = some k -> AwayN k y
def AwayN3 (g : Nat) (x : PaC) : Prop := AwayN g x /\ AwayN (g + 1) x /\ AwayN (g + 1 + 1) x
theorem FreshN.away3 {V : World} {x : PaC} {g : Nat} (h : FreshN V x) (hg : g + 2 < V.heap.size) : AwayN3 g x := ⟨h.away (by omega), h.away (by omega), h.away (by omega)⟩
structure PaI (w : World) (g gB : Nat) (A : Option Addr) (n c : Nat) (ls : List Pa) (q : Pa) (k : Nat) (V : World) (Au : Option Addr) (cu : Nat) (y : PaC) (zs : List PaC) (bv : Value) : Prop where
  b4 : BoxAt V g (paL y).toArray 30
  b5 : BoxAt V (g + 1) #[.slice Au n cu] 40
  b6 : BoxAt V (g + 1 + 1) #[bv] 4
  bB : BoxAt V gB #[.slice A n c] 40
  oy : PaOk V y
  fy : FreshN w y
  ay : AwayN3 g y
  yu : ∀ k, (Value.slice Au n cu).ownBlock = some k -> AwayN k y
  ou : OwnNs 30 w V (.slice Au n cu) zs
  ub : ∀ k, (Value.slice Au n cu).ownBlock = some k -> g + 2 < k
  told : pastN (ls.drop (n - k)) q = some (y.v, valsN (zs.drop (n - k)))
  a3 : ∀ z ∈ zs, AwayN3 g z
  fz : ∀ z ∈ zs.drop (n - k), FreshN w z
def PaIE (w : World) (g gB : Nat) (A : Option Addr) (n c : Nat) (ls : List Pa) (q : Pa) (k : Nat) (V : World) : Prop := ∃ Au cu y zs bv, PaI w g gB A n c ls q k V Au cu y zs bv
theorem PaIE.book {w : World} {g gB : Nat} {A : Option Addr} {n c : Nat} {ls : List Pa} {q : Pa} {k B : Nat} (hB : w.heap.size <= B) : Books B (PaIE w g gB A n c ls q k) := by
  rintro V l o o' ⟨Au, cu, y, zs, bv, h⟩ hl hh ho
  exact ⟨Au, cu, y, zs, bv, h.b4.shut hh ho, h.b5.shut hh ho, h.b6.shut hh ho, h.bB.shut hh ho, h.oy.off (shut_turned V l o') (h.oy.shutA hh ho), h.fy, h.ay, h.yu, h.ou.shut (by omega) hh ho, h.ub, h.told, h.a3, h.fz⟩
theorem PaIE.on {w V V' : World} {g gB : Nat} {A : Option Addr} {n c : Nat} {ls : List Pa} {q : Pa} {k : Nat} (h : PaIE w g gB A n c ls q k V) (hl : Later V V') : PaIE w g gB A n c ls q k V' := by
  obtain ⟨Au, cu, y, zs, bv, h⟩ := h
  exact ⟨Au, cu, y, zs, bv, h.b4.later hl, h.b5.later hl, h.b6.later hl, h.bB.later hl, h.oy.later hl, h.fy, h.ay, h.yu, h.ou.on hl, h.ub, h.told, h.a3, h.fz⟩
structure PaX (w : World) (g : Nat) (ls : List Pa) (q : Pa) (V : World) : Prop where
  later : Later w V
  b4 : BoxAt V g (paL zeroN).toArray 30
  b5 : BoxAt V (g + 1) #[.slice none 0 0] 40
  b6 : BoxAt V (g + 1 + 1) #[.bool false] 4
  told : pastN ls q = none
theorem results_past {P : Program} {fn : Func} (h : fn.results = #[.cell 4 30, .cell 5 40, .cell 6 4]) (hP : P = Tryz.prog) (tmps : Array Value) (w : World) (g : Nat) (y : PaC) (u b : Value) {t s r : TypeId}
    (h4 : tmps.getD 4 undef = .pointer (some ⟨g, 0, none⟩)) (h5 : tmps.getD 5 undef = .pointer (some ⟨g + 1, 0, none⟩)) (h6 : tmps.getD 6 undef = .pointer (some ⟨g + 1 + 1, 0, none⟩)) (c4 : BoxAt w g (paL y).toArray t) (c5 : BoxAt w (g + 1) #[u] s) (c6 : BoxAt w (g + 1 + 1) #[b] r) : (results fn tmps).run P w = .ok (.tuple #[paV y, u, b]) w := by
  subst hP
  have d5 := c5.cell (i := 0) rfl; have d6 := c6.cell (i := 0) rfl
  simp only [List.getElem_toArray, List.getElem_cons_zero] at d5 d6
  have p4 : tmps[4]?.getD undef = .pointer (some ⟨g, 0, none⟩) := by simpa using h4
  have p5 : tmps[5]?.getD undef = .pointer (some ⟨g + 1, 0, none⟩) := by simpa using h5
  have p6 : tmps[6]?.getD undef = .pointer (some ⟨g + 1 + 1, 0, none⟩) := by simpa using h6
  have d40 : w.cell? ⟨g, 0, none⟩ = some (.int .i64 y.v.id) := c4.cell rfl
  have d41 : w.cell? ⟨g, 1, none⟩ = some (.string y.v.note) := c4.cell rfl
  have d42 : w.cell? ⟨g, 2, none⟩ = some (.slice y.D y.nd y.cd) := c4.cell rfl
  have d43 : w.cell? ⟨g, 3, none⟩ = some (.slice y.L y.nl y.cl) := c4.cell rfl
  simp [results, h, p4, p5, p6, asAddr, go_sem, d40, d41, d42, d43, d5, d6, paV]

set_option maxRecDepth 100000 in
set_option maxHeartbeats 3200000 in
theorem past7_any (A : Option Addr) (n c : Nat) (ls : List PaC) (q : PaC) (w : World) (hls : NsOk w A n ls) (hqo : PaOk w q) (hn : n <= 65536) :
    Calls Tryz.prog 15 #[.slice A n c, paV q] w (GivesPast (pastN (valsN ls) q.v) w) := by
  have hlen := hls.len
  have HX := Lib.hid hls; have HQ := Lib.hid hqo
  clear hls hqo
  refine (callsIn_wide (n := 3)).1 (callsIn_of_wp_marks Tryz.func15 rfl trivial (wpIn_wide.2 ?_) rfl)
  unfold paV
  simp only [Tryz.ntmps15, List.size_toArray, List.length_cons, List.length_nil, Nat.reduceAdd, Nat.reduceSub, Array.replicate_succ, Array.replicate_zero, List.push_toArray, List.append_toArray, List.nil_append, List.cons_append]
  go_upto_region 1 with fail
  obtain ⟨b3, b4, b5, b6, hl0, hsz⟩ : BoxAt ((((w.alloc (.cells #[.int .i64 q.v.id, .string q.v.note, .slice q.D q.nd q.cd, .slice q.L q.nl q.cl] 30)).alloc (.cells #[.int .i64 0, .string ⟨#[]⟩, .slice none 0 0, .slice none 0 0] 30)).alloc (.cells #[.slice none 0 0] 40)).alloc (.cells #[.bool false] 4)) w.heap.size (paL q).toArray 30 /\ BoxAt ((((w.alloc (.cells #[.int .i64 q.v.id, .string q.v.note, .slice q.D q.nd q.cd, .slice q.L q.nl q.cl] 30)).alloc (.cells #[.int .i64 0, .string ⟨#[]⟩, .slice none 0 0, .slice none 0 0] 30)).alloc (.cells #[.slice none 0 0] 40)).alloc (.cells #[.bool false] 4)) (w.heap.size + 1) #[.int .i64 0, .string ⟨#[]⟩, .slice none 0 0, .slice none 0 0] 30 /\ BoxAt ((((w.alloc (.cells #[.int .i64 q.v.id, .string q.v.note, .slice q.D q.nd q.cd, .slice q.L q.nl q.cl] 30)).alloc (.cells #[.int .i64 0, .string ⟨#[]⟩, .slice none 0 0, .slice none 0 0] 30)).alloc (.cells #[.slice none 0 0] 40)).alloc (.cells #[.bool false] 4)) (w.heap.size + 1 + 1) #[.slice none 0 0] 40 /\ BoxAt ((((w.alloc (.cells #[.int .i64 q.v.id, .string q.v.note, .slice q.D q.nd q.cd, .slice q.L q.nl q.cl] 30)).alloc (.cells #[.int .i64 0, .string ⟨#[]⟩, .slice none 0 0, .slice none 0 0] 30)).alloc (.cells #[.slice none 0 0] 40)).alloc (.cells #[.bool false] 4)) (w.heap.size + 1 + 1 + 1) #[.bool false] 4 /\ Later w ((((w.alloc (.cells #[.int .i64 q.v.id, .string q.v.note, .slice q.D q.nd q.cd, .slice q.L q.nl q.cl] 30)).alloc (.cells #[.int .i64 0, .string ⟨#[]⟩, .slice none 0 0, .slice none 0 0] 30)).alloc (.cells #[.slice none 0 0] 40)).alloc (.cells #[.bool false] 4)) /\ ((((w.alloc (.cells #[.int .i64 q.v.id, .string q.v.note, .slice q.D q.nd q.cd, .slice q.L q.nl q.cl] 30)).alloc (.cells #[.int .i64 0, .string ⟨#[]⟩, .slice none 0 0, .slice none 0 0] 30)).alloc (.cells #[.slice none 0 0] 40)).alloc (.cells #[.bool false] 4)).heap.size = w.heap.size + 4 := by
    refine ⟨(((BoxAt.made w (paL q).toArray 30).alloc _).alloc _).alloc _, BoxAt.alloc (BoxAt.alloc ?_ _) _, BoxAt.alloc ?_ _, ?_, ((((Later.refl w).alloc _).alloc _).alloc _).alloc _, by simp⟩
    · have := BoxAt.made (w.alloc (.cells #[.int .i64 q.v.id, .string q.v.note, .slice q.D q.nd q.cd, .slice q.L q.nl q.cl] 30)) #[.int .i64 0, .string ⟨#[]⟩, .slice none 0 0, .slice none 0 0] 30
      rw [World.size_alloc] at this
      exact this
    · have := BoxAt.made ((w.alloc (.cells #[.int .i64 q.v.id, .string q.v.note, .slice q.D q.nd q.cd, .slice q.L q.nl q.cl] 30)).alloc (.cells #[.int .i64 0, .string ⟨#[]⟩, .slice none 0 0, .slice none 0 0] 30)) #[.slice none 0 0] 40
      rw [World.size_alloc, World.size_alloc] at this
      exact this
    · have := BoxAt.made (((w.alloc (.cells #[.int .i64 q.v.id, .string q.v.note, .slice q.D q.nd q.cd, .slice q.L q.nl q.cl] 30)).alloc (.cells #[.int .i64 0, .string ⟨#[]⟩, .slice none 0 0, .slice none 0 0] 30)).alloc (.cells #[.slice none 0 0] 40)) #[.bool false] 4
      rw [World.size_alloc, World.size_alloc, World.size_alloc] at this
      exact this
  generalize ((((w.alloc (.cells #[.int .i64 q.v.id, .string q.v.note, .slice q.D q.nd q.cd, .slice q.L q.nl q.cl] 30)).alloc (.cells #[.int .i64 0, .string ⟨#[]⟩, .slice none 0 0, .slice none 0 0] 30)).alloc (.cells #[.slice none 0 0] 40)).alloc (.cells #[.bool false] 4)) = wx at b3 b4 b5 b6 hl0 hsz ⊢
  generalize hg : w.heap.size + 1 = g at b4 b5 b6 ⊢
  refine paa_region rfl (by kernel_rfl) ⟨_, rfl, rfl, rfl, rfl, by kernel_rfl⟩ ⟨_, rfl, rfl, rfl, rfl, by kernel_rfl⟩ ⟨_, rfl, rfl, rfl, rfl, by kernel_rfl⟩ ⟨_, rfl, rfl, rfl, rfl, by kernel_rfl⟩ ⟨_, rfl, rfl, rfl, rfl, by kernel_rfl⟩ ⟨_, rfl, rfl, rfl, rfl, by kernel_rfl⟩ ⟨_, rfl, rfl, rfl, rfl, by kernel_rfl⟩ (of_decide_eq_true rfl) (g3 := w.heap.size) (q := q) rfl rfl rfl rfl hl0 (by omega) (by omega) HQ.out hn (by omega) (by omega) b3 b4 b5 b6 (fun D a V so st => ?_)
  obtain ⟨y0, u⟩ := D
  have ha := so.is
  simp only [List.foldl_cons, List.foldl_nil] at ha
  generalize a.eval (.tmp 9) = v9 at ha
  generalize a.eval (.tmp 10) = v10 at ha
  generalize a.eval (.tmp 11) = v11 at ha
  generalize a.eval (.tmp 12) = v12 at ha
  generalize a.eval (.tmp 13) = v13 at ha
  clear so
  subst ha
  simp only [Act.put, List.setIfInBounds_toArray, List.set_cons_zero, List.set_cons_succ]
  have HST := Lib.hid st
  clear b3 b4 b5 b6 hl0 st
  have HBK := Lib.hid (fun (w1 : World) => backN_any A n c w1)
  go_wp2_with fail
  refine (HBK.out _).mono ?_
  rintro e w1 ⟨rfl, rfl⟩
  clear HBK
  go_wp2_with fail
  have hlB : Later V (V.alloc (.cells #[.slice A n c] 40)) := (Later.refl V).alloc _
  have hbB : BoxAt (V.alloc (.cells #[.slice A n c] 40)) V.heap.size #[.slice A n c] 40 := BoxAt.made V _ _
  have hi0 : PaIE w g V.heap.size A n c (valsN ls) q.v 0 (V.alloc (.cells #[.slice A n c] 40)) := by
    have st := HST.out
    obtain ⟨o1, o2, o3⟩ := st.first (by decide)
    obtain ⟨o4, o5⟩ := st.second rfl
    have p0 := st.apart (by decide) rfl
    have x4 := st.x4; have x5 := st.x5; have x6 := st.x6
    simp only [if_true, show (2 : Nat) <= 3 by decide, Nat.le_refl] at x4 x5
    dsimp only at o1 o2 o3 o4 o5 p0 x4 x5
    clear st
    obtain ⟨Au, cu, hu, _, _⟩ := o4.row
    rw [List.length_replicate] at hu
    subst hu
    refine ⟨Au, cu, y0, List.replicate n zeroN, .bool false, x4.later hlB, x5.later hlB, x6.later hlB, hbB, o1.later hlB, o3.low (by omega), o3.away3 (by omega), p0, o4.on hlB, (fun k hk => by have := o5 k hk; omega), ?_, fun z hz => ?_, fun z hz => ?_⟩
    · rw [Nat.sub_zero, List.drop_of_length_le (by rw [valsN_length, hlen]; exact Nat.le_refl _), List.drop_of_length_le (by simp), o2]
      rfl
    · rw [List.eq_of_mem_replicate hz]; exact ⟨zeroN_away _, zeroN_away _, zeroN_away _⟩
    · rw [List.drop_of_length_le (by simp)] at hz
      cases hz
  have hl0 : Later w (V.alloc (.cells #[.slice A n c] 40)) := HST.out.later.trans hlB
  have hVs : g + 3 <= V.heap.size := by have := HST.out.size; omega
  clear HST
  generalize hgB : V.heap.size = gB at hbB hi0 hVs ⊢
  generalize V.alloc (.cells #[.slice A n c] 40) = wL at hlB hbB hi0 hl0 ⊢
  refine range_rows (zs := roundsN ls) (w0 := wL) rfl (enters_of Tryz.func53 (by kernel_rfl) rfl) (backN_hands 2 gB (by decide) A n c ls (by omega) w wL HX.out.row hl0 (hbB.cell rfl)) (Later.refl _) (fun _ => rfl) (fun h k => h.trans k) (fun V l o o' hl hh ho => KpB.book hl0.le V l o o' hl hh ho)
    (PaIE w g gB A n c (valsN ls) q.v) (fun _ => PaX w g (valsN ls) q.v)
    (fun k z a' V => PaIE w g gB A n c (valsN ls) q.v k V /\ ∃ gx, BoxAt V gx (paL z.2).toArray 30 /\ a' = { tmps := #[.slice A n c, .agg #[.int .i64 q.v.id, .string q.v.note, .slice q.D q.nd q.cd, .slice q.L q.nl q.cl], undef, .pointer (some ⟨w.heap.size, 0, none⟩), .pointer (some ⟨g, 0, none⟩), .pointer (some ⟨g + 1, 0, none⟩), .pointer (some ⟨g + 1 + 1, 0, none⟩), .int .i64 z.1, .pointer (some ⟨gx, 0, none⟩), v9, v10, v11, v12, v13, .slice A n c, .func (.func 53) #[] #[.pointer (some ⟨gB, 0, none⟩)], .int .i64 z.1, paV z.2, undef, undef, undef, undef, undef, undef, undef, undef, undef, undef, undef, undef, undef, undef, undef], defers := [] })
    (fun k => PaIE.book hl0.le) (fun k V l o o' h hl hh ho => ⟨h.later.shut (Nat.le_trans hl0.le hl), h.b4.shut hh ho, h.b5.shut hh ho, h.b6.shut hh ho, h.told⟩) (fun k z a' V l o o' ⟨h1, gx, h2, h3⟩ hl hh ho => ⟨PaIE.book hl0.le V l o o' h1 hl hh ho, gx, h2.shut hh ho, h3⟩)
    (fun o o' h => h.on (((Later.refl wL).alloc o).alloc o')) hi0 ?assign ?body ?done ?stop
  case assign =>
    intro l k z V' K hz hi hK
    obtain ⟨j, x⟩ := z
    simp only [backVN, paV]
    gi_wp2
    refine hK _ _ (KeepsFrom.later ((Later.refl V').alloc _) _) ?_ ⟨hi.on ((Later.refl V').alloc _), V'.heap.size, BoxAt.made V' (paL x).toArray 30, rfl⟩
    obtain ⟨Au, cu, y, zs, bv, h⟩ := hi
    exact kpB_of h.ou.later (h.ou.later.trans ((Later.refl V').alloc _)) ((Later.refl V').alloc _).le h.bB (h.bB.alloc _)
  case body =>
    rintro l k ⟨j, x⟩ a' V' hz ⟨⟨Au, cu, y, zs, bv, h⟩, gx, hbx, rfl⟩
    obtain ⟨hj, hat⟩ := roundsN_at hz
    dsimp only at hj hat hbx ⊢
    have hok0 := HX.out.each x (List.mem_of_getElem? hat)
    have hatv := valsN_at hat
    have hzl := h.ou.size
    have hjn : j < n := by omega
    obtain ⟨gu, ou, qz, rfl, hzq, _, _⟩ := h.ou.ns.get hjn
    have hltB := h.bB.lt
    have hgu := h.ou.lt gu rfl
    have hub := h.ub gu rfl
    have hlt6 := h.b6.lt
    refine wpIn_block (wpIn_seq (pab_region rfl (by kernel_rfl) (by kernel_rfl) ⟨_, rfl, rfl, rfl, rfl, by kernel_rfl⟩ ⟨_, rfl, rfl, rfl, rfl, by kernel_rfl⟩ ⟨_, rfl, rfl, rfl, rfl, by kernel_rfl⟩ ⟨_, rfl, rfl, rfl, rfl, by kernel_rfl⟩ ⟨_, rfl, rfl, rfl, rfl, by kernel_rfl⟩ ⟨_, rfl, rfl, rfl, rfl, by kernel_rfl⟩ ⟨_, rfl, rfl, rfl, rfl, by kernel_rfl⟩ ⟨_, rfl, rfl, rfl, rfl, by kernel_rfl⟩ ⟨_, rfl, rfl, rfl, rfl, by kernel_rfl⟩ ⟨_, rfl, rfl, rfl, rfl, by kernel_rfl⟩ ⟨_, rfl, rfl, rfl, rfl, by kernel_rfl⟩ ⟨_, rfl, rfl, rfl, rfl, by kernel_rfl⟩ ⟨_, rfl, rfl, rfl, rfl, by kernel_rfl⟩ (of_decide_eq_true rfl) (x := x) (q := y) rfl rfl rfl rfl rfl h.b4 h.b5 h.b6 hbx (hok0.later h.ou.later) h.oy h.ou rfl hjn (by omega) (by omega) hgu hub (fun z hz => (h.a3 z hz).1) (fun z hz => (h.a3 z hz).2.2) (fun ⟨_, _, h⟩ => h) (fun D a V'' so st => ?_)))
    obtain ⟨⟨V1, V2, V3, s1, s2, s3, s4⟩, s5, s6, s7, ⟨r1, r2, r3, r4⟩, s8⟩ := st
    have k1 : KeepsFrom wL.heap.size V' V1 := KeepsFrom.later s1 _
    have k2 : KeepsFrom wL.heap.size V1 V2 := KeepsFrom.turn s2 (h.b4.later s1)
    have hlV2 : Later w V2 := (h.ou.later.trans s1).turn s2 (by omega)
    have ou2 := (h.ou.on s1).other s2 (fun e => by have h9 : gu = g := Option.some.inj e; omega) (fun z hz => (h.a3 z hz).1) hlV2
    obtain ⟨_, cur, hcur, _⟩ := ou2.at
    have k3 : KeepsFrom wL.heap.size V2 V3 := KeepsFrom.turn s3 (show BoxAt V2 gu cur _ from hcur)
    have b6' : BoxAt V3 (g + 1 + 1) #[bv] 4 := ((h.b6.later s1).other s2 (by omega)).other s3 (by omega)
    have k4 : KeepsFrom wL.heap.size V3 V'' := KeepsFrom.turn s4 b6'
    have kf := ((k1.trans k2).trans k3).trans k4
    have hBu : gB ≠ gu := fun e => h.ou.noBox h.bB (by decide) (by rw [e]; rfl)
    have hB4 : gB ≠ g := by omega
    have hB6 : gB ≠ g + 1 + 1 := by omega
    have c5' : BoxAt V'' (g + 1) #[.slice (some ⟨gu, ou, none⟩) n cu] 40 := (((h.b5.later s1).other s2 (by omega)).other s3 (by omega)).other s4 (by omega)
    have cB' : BoxAt V'' gB #[.slice A n c] 40 := (((h.bB.later s1).other s2 hB4).other s3 hBu).other s4 hB6
    have hsz2 : V'.heap.size <= V''.heap.size := kf.size
    have ha := so.is
    simp only [List.foldl_cons, List.foldl_nil] at ha
    generalize a.eval (.tmp 19) = y19 at ha
    generalize a.eval (.tmp 20) = y20 at ha
    generalize a.eval (.tmp 21) = y21 at ha
    generalize a.eval (.tmp 22) = y22 at ha
    generalize a.eval (.tmp 23) = y23 at ha
    generalize a.eval (.tmp 18) = y18 at ha
    generalize a.eval (.tmp 24) = y24 at ha
    generalize a.eval (.tmp 25) = y25 at ha
    generalize a.eval (.tmp 26) = y26 at ha
    generalize a.eval (.tmp 27) = y27 at ha
    clear so
    subst ha
    simp only [Act.put, List.setIfInBounds_toArray, List.set_cons_zero, List.set_cons_succ]
    have d6 : V''.cell? ⟨g + 1 + 1, 0, none⟩ = some (.bool D.t) := s8.cell rfl
    cases hr : swapN x.v y.v with
    | none =>
      rw [hr] at r1
      simp only [Option.isSome_none] at r1
      rw [r1] at d6
      have HNO := Lib.hid (pastN_stop (by rw [show j + 1 = n - k by omega]; exact h.told) hatv hr)
      have d40 : V''.cell? ⟨g, 0, none⟩ = some (.int .i64 D.y.v.id) := s5.cell rfl
      have d41 : V''.cell? ⟨g, 1, none⟩ = some (.string D.y.v.note) := s5.cell rfl
      have d42 : V''.cell? ⟨g, 2, none⟩ = some (.slice D.y.D D.y.nd D.y.cd) := s5.cell rfl
      have d43 : V''.cell? ⟨g, 3, none⟩ = some (.slice D.y.L D.y.nl D.y.cl) := s5.cell rfl
      have e40 := s5.frozen 0; have e41 := s5.frozen 1; have e42 := s5.frozen 2; have e43 := s5.frozen 3
      have d5 := c5'.cell (i := 0) rfl; have e5 := c5'.frozen 0; have e6 := s8.frozen 0
      have t4 := turned_set4 V'' g (.int .i64 0) (.string ⟨#[]⟩) (.slice none 0 0) (.slice none 0 0)
      have t5 := turned_set ((((V''.setCell ⟨g, 0, none⟩ (.int .i64 0)).setCell ⟨g, 1, none⟩ (.string ⟨#[]⟩)).setCell ⟨g, 2, none⟩ (.slice none 0 0)).setCell ⟨g, 3, none⟩ (.slice none 0 0)) (g + 1) 0 (.slice none 0 0)
      have t6 := turned_set (((((V''.setCell ⟨g, 0, none⟩ (.int .i64 0)).setCell ⟨g, 1, none⟩ (.string ⟨#[]⟩)).setCell ⟨g, 2, none⟩ (.slice none 0 0)).setCell ⟨g, 3, none⟩ (.slice none 0 0)).setCell ⟨g + 1, 0, none⟩ (.slice none 0 0)) (g + 1 + 1) 0 (.bool false)
      have g4 : BoxAt ((((V''.setCell ⟨g, 0, none⟩ (.int .i64 0)).setCell ⟨g, 1, none⟩ (.string ⟨#[]⟩)).setCell ⟨g, 2, none⟩ (.slice none 0 0)).setCell ⟨g, 3, none⟩ (.slice none 0 0)) g (paL zeroN).toArray 30 := BoxAt.set4 s5 _ _ _ _
      have g5 := (c5'.other t4 (by omega))
      have g6 := (s8.other t4 (by omega)).other t5 (by omega)
      have HB := Lib.hid (show PaX w g (valsN ls) q.v ((((((V''.setCell ⟨g, 0, none⟩ (.int .i64 0)).setCell ⟨g, 1, none⟩ (.string ⟨#[]⟩)).setCell ⟨g, 2, none⟩ (.slice none 0 0)).setCell ⟨g, 3, none⟩ (.slice none 0 0)).setCell ⟨g + 1, 0, none⟩ (.slice none 0 0)).setCell ⟨g + 1 + 1, 0, none⟩ (.bool false)) from
        ⟨((s6.later.turn t4 (by omega)).turn t5 (by omega)).turn t6 (by omega), (g4.other t5 (by omega)).other t6 (by omega), (g5.set 0 (.slice none 0 0)).other t6 (by omega), g6.set 0 (.bool false), HNO.out⟩)
      have HK := Lib.hid (show KeepsFrom wL.heap.size V' ((((((V''.setCell ⟨g, 0, none⟩ (.int .i64 0)).setCell ⟨g, 1, none⟩ (.string ⟨#[]⟩)).setCell ⟨g, 2, none⟩ (.slice none 0 0)).setCell ⟨g, 3, none⟩ (.slice none 0 0)).setCell ⟨g + 1, 0, none⟩ (.slice none 0 0)).setCell ⟨g + 1 + 1, 0, none⟩ (.bool false)) from
        ((kf.trans (KeepsFrom.turn t4 s5)).trans (KeepsFrom.turn t5 g5)).trans (KeepsFrom.turn t6 g6))
      clear t4 t5 t6 g4 g5 g6 k1 k2 k3 k4 kf s1 s2 s3 s4 s5 s6 s7 s8 r1 r2 r3 r4 h hz hat hatv hok0 HNO c5' cB' hbx hcur ou2 hlV2 b6' hr
      gi_wp2
      exact ⟨HK.out, HB.out⟩
    | some p =>
      rw [hr] at r1
      simp only [Option.isSome_some] at r1
      rw [r1] at d6
      obtain ⟨q1, q2⟩ := r4 p hr
      have hjz : j < zs.length := by omega
      have HN := Lib.hid (show PaIE w g gB A n c (valsN ls) q.v (k + 1) V'' from by
        refine ⟨some ⟨gu, ou, none⟩, cu, D.y, zs.set j D.z, .bool D.t, s5, c5', s8, cB', s7, r2.base h.ou.later, r2.away3 (by omega), ?_, s6, h.ub, ?_, ?_, ?_⟩
        · intro k' hk'
          have h9 : gu = k' := Option.some.inj hk'
          subst h9
          exact r2.away hgu
        · rw [show n - (k + 1) = j by omega, set_drop_self hjz, pastN_step (a := p.1) (b := p.2) (by rw [show j + 1 = n - k by omega]; exact h.told) hatv hr, ← q1, ← q2, show n - k = j + 1 by omega]
          rfl
        · intro z hz
          rcases List.mem_or_eq_of_mem_set hz with h1 | rfl
          · exact h.a3 z h1
          · exact r3.away3 (by omega)
        · intro z hz
          rw [show n - (k + 1) = j by omega, set_drop_self hjz] at hz
          rcases List.mem_cons.1 hz with rfl | h1
          · exact r3.base h.ou.later
          · exact h.fz z (by rw [show n - k = j + 1 by omega]; exact h1))
      have HK := Lib.hid kf
      have HKP := Lib.hid (kpB_of h.ou.later s6.later hsz2 h.bB cB')
      clear k1 k2 k3 k4 kf s1 s2 s3 s4 s5 s6 s7 s8 r1 r2 r3 r4 h hz hat hatv hok0 c5' cB' hbx hcur ou2 hlV2 b6' hr q1 q2
      gi_wp2
      exact ⟨HK.out, HKP.out, HN.out⟩
  case done =>
    rintro Dd V' hD ⟨Au, cu, y, zs, bv, h⟩ hd
    have told := h.told
    have fz := h.fz
    rw [roundsN_length, hlen, Nat.sub_self, List.drop_zero, List.drop_zero] at told
    rw [roundsN_length, hlen, Nat.sub_self, List.drop_zero] at fz
    have d40 : V'.cell? ⟨g, 0, none⟩ = some (.int .i64 y.v.id) := h.b4.cell rfl
    have d41 : V'.cell? ⟨g, 1, none⟩ = some (.string y.v.note) := h.b4.cell rfl
    have d42 : V'.cell? ⟨g, 2, none⟩ = some (.slice y.D y.nd y.cd) := h.b4.cell rfl
    have d43 : V'.cell? ⟨g, 3, none⟩ = some (.slice y.L y.nl y.cl) := h.b4.cell rfl
    have e40 := h.b4.frozen 0; have e41 := h.b4.frozen 1; have e42 := h.b4.frozen 2; have e43 := h.b4.frozen 3
    have d5 : V'.cell? ⟨g + 1, 0, none⟩ = some (.slice Au n cu) := h.b5.cell rfl
    have d6 : V'.cell? ⟨g + 1 + 1, 0, none⟩ = some bv := h.b6.cell rfl
    have e5 := h.b5.frozen 0; have e6 := h.b6.frozen 0
    have HH := Lib.hid h; have HT := Lib.hid told; have HF := Lib.hid fz; have HD := Lib.hid hd
    clear h told fz hd
    have H := HH.out
    have t4 := turned_set4 V' g (.int .i64 y.v.id) (.string y.v.note) (.slice y.D y.nd y.cd) (.slice y.L y.nl y.cl)
    have t5 := turned_set ((((V'.setCell ⟨g, 0, none⟩ (.int .i64 y.v.id)).setCell ⟨g, 1, none⟩ (.string y.v.note)).setCell ⟨g, 2, none⟩ (.slice y.D y.nd y.cd)).setCell ⟨g, 3, none⟩ (.slice y.L y.nl y.cl)) (g + 1) 0 (.slice Au n cu)
    have t6 := turned_set (((((V'.setCell ⟨g, 0, none⟩ (.int .i64 y.v.id)).setCell ⟨g, 1, none⟩ (.string y.v.note)).setCell ⟨g, 2, none⟩ (.slice y.D y.nd y.cd)).setCell ⟨g, 3, none⟩ (.slice y.L y.nl y.cl)).setCell ⟨g + 1, 0, none⟩ (.slice Au n cu)) (g + 1 + 1) 0 (.bool true)
    have g4 : BoxAt (((((V'.setCell ⟨g, 0, none⟩ (.int .i64 y.v.id)).setCell ⟨g, 1, none⟩ (.string y.v.note)).setCell ⟨g, 2, none⟩ (.slice y.D y.nd y.cd)).setCell ⟨g, 3, none⟩ (.slice y.L y.nl y.cl)).setCell ⟨g + 1, 0, none⟩ (.slice Au n cu) |>.setCell ⟨g + 1 + 1, 0, none⟩ (.bool true)) g (paL y).toArray 30 := ((BoxAt.set4 H.b4 _ _ _ _).other t5 (by omega)).other t6 (by omega)
    have g5 := ((H.b5.other t4 (by omega)).set 0 (.slice Au n cu)).other t6 (by omega)
    have g6 := ((H.b6.other t4 (by omega)).other t5 (by omega)).set 0 (.bool true)
    have n4 := box_off HD.out rfl H.b4; have n5 := box_off HD.out rfl H.b5; have n6 := box_off HD.out rfl H.b6
    have hlt := (Array.getElem?_eq_some_iff.1 HD.out).1
    have h1 : ((((V'.setCell ⟨g, 0, none⟩ (.int .i64 y.v.id)).setCell ⟨g, 1, none⟩ (.string y.v.note)).setCell ⟨g, 2, none⟩ (.slice y.D y.nd y.cd)).setCell ⟨g, 3, none⟩ (.slice y.L y.nl y.cl)).heap[Dd]? = some (.deferred (some [])) := (t4.block Dd hlt (by simp; omega)).trans HD.out
    have h2 := (t5.block Dd (Array.getElem?_eq_some_iff.1 h1).1 (by simp; omega)).trans h1
    have h3 := (t6.block Dd (Array.getElem?_eq_some_iff.1 h2).1 (by simp; omega)).trans h2
    have l4 := H.ou.later.turn t4 (by omega)
    have l5 := l4.turn t5 (by omega)
    have l6 := l5.turn t6 (by omega)
    have u4 := H.ou.other t4 (fun e => by have := H.ub _ e; omega) (fun z hz => (H.a3 z hz).1) l4
    have u5 := u4.other t5 (fun e => by have := H.ub _ e; omega) (fun z hz => (H.a3 z hz).2.1) l5
    have u6 := u5.other t6 (fun e => by have := H.ub _ e; omega) (fun z hz => (H.a3 z hz).2.2) l6
    have y6 := ((H.oy.off t4 H.ay.1).off t5 H.ay.2.1).off t6 H.ay.2.2
    have G4 := Lib.hid (g4.later (Later.refl _).drew); have G5 := Lib.hid (g5.later (Later.refl _).drew); have G6 := Lib.hid (g6.later (Later.refl _).drew); have G3 := Lib.hid ((show ∀ X : World, X.heap[Dd]? = some (Obj.deferred (some [])) -> X.drew.heap[Dd]? = some (Obj.deferred (some [])) from fun _ h => h) _ h3); have GL := Lib.hid l6.drew; have GU := Lib.hid (u6.on (Later.refl _).drew); have GY := Lib.hid (y6.later (Later.refl _).drew); have GF := Lib.hid H.fy; have GA := Lib.hid H.yu
    clear H t4 t5 t6 g4 g5 g6 n4 n5 n6 hlt h1 h2 h3 l4 l5 l6 u4 u5 u6 y6 HH
    go_wp2_with fail
    go_region
    go_wp2
    refine ⟨by simp, .inl ⟨_, _, rfl, run_takeDeferred G3.out, ?_⟩⟩
    refine ⟨_, results_past rfl rfl _ _ g y _ _ rfl rfl rfl (G4.out.shut G3.out rfl) (G5.out.shut G3.out rfl) (G6.out.shut G3.out rfl), ?_⟩
    unfold GivesPast
    rw [HT.out]
    exact ⟨GL.out.shut (Nat.le_trans hl0.le hD), y, _, zs, rfl, rfl, GY.out.off (shut_turned _ Dd _) (GY.out.shutA G3.out rfl), GF.out, GU.out.shut (Nat.le_trans hl0.le hD) G3.out rfl, rfl, HF.out, GA.out⟩
  case stop =>
    rintro Dd k V' hD hk h hd
    refine ⟨by simp, .inl ⟨_, _, rfl, run_takeDeferred hd, ?_⟩⟩
    refine ⟨_, results_past rfl rfl _ _ g zeroN _ _ rfl rfl rfl (h.b4.shut hd rfl) (h.b5.shut hd rfl) (h.b6.shut hd rfl), ?_⟩
    unfold GivesPast
    rw [h.told]
    exact ⟨h.later.shut (Nat.le_trans hl0.le hD), rfl⟩

end Go.Proofs.YtlnjhimbgckdcaaGreat

/-
  What named's Group comes to, as a call.
-/
namespace Go.Proofs.YtlnjhimbgckdcaaGreat
open Go.RowKit Go.Maps

def ApartN (v u : Value) (ys zs : List PaC) : Prop := (∀ k, v.ownBlock = some k -> u.ownBlock ≠ some k) /\ (∀ y ∈ ys, ∀ k, u.ownBlock = some k -> AwayN k y) /\ ∀ z ∈ zs, ∀ k, v.ownBlock = some k -> AwayN k z
section
variable {e : TypeId} {w0 w w' : World} {v v' u : Value} {ys zs : List PaC} {x : PaC}
theorem ApartN.symm (h : ApartN v u ys zs) : ApartN u v zs ys := ⟨fun k h1 h2 => h.1 k h2 h1, h.2.2, h.2.1⟩
theorem OwnNs.grownO {r : Option Nat} (h : OwnNs e w0 w u zs) (hg : w.grownBy w' r) (hne : ∀ k, r = some k -> u.ownBlock ≠ some k) (haw : ∀ z ∈ zs, ∀ k, r = some k -> AwayN k z) (hl : Later w0 w') : OwnNs e w0 w' u zs := by
  cases r with
  | none => exact h.on ⟨hg.os, hg.tape, hg.output, hg.size, fun i hi => hg.block i hi (by simp)⟩
  | some k => exact h.other hg (hne k rfl) (fun z hz => haw z hz k rfl) hl
theorem grow_apart (hu : OwnNs e w0 w u zs) (hap : ApartN v u ys zs) (hx : ∀ k, u.ownBlock = some k -> AwayN k x) (hv' : OwnNs e w0 w' v' (ys ++ [x])) (hg : w.grownBy w' v.ownBlock) (hb : v'.ownBlock = v.ownBlock ∨ v'.ownBlock = some w.heap.size) : OwnNs e w0 w' u zs /\ ApartN v' u (ys ++ [x]) zs := by
  refine ⟨hu.grownO hg (fun k hk => hap.1 k hk) (fun z hz k hk => hap.2.2 z hz k hk) hv'.later, fun k hk => ?_, fun y hy k hk => ?_, fun z hz k hk => ?_⟩
  · rcases hb with hb | hb
    · rw [hb] at hk; exact hap.1 k hk
    · rw [hb] at hk
      cases hk
      intro h
      exact Nat.lt_irrefl _ (hu.lt _ h)
  · rcases List.mem_append.1 hy with h | h
    · exact hap.2.1 y h k hk
    · simp at h; subst h; exact hx k hk
  · rcases hb with hb | hb
    · rw [hb] at hk; exact hap.2.2 z hz k hk
    · rw [hb] at hk
      cases hk
      exact (hu.ok z hz).away (Nat.le_refl _)
end
theorem results_tmps2 {fn : Func} {t u : Tmp} (h : fn.results = #[.tmp t, .tmp u]) (tmps : Array Value) (P : Program) (w : World) : (results fn tmps).run P w = .ok (.tuple #[tmps.getD t undef, tmps.getD u undef]) w := by simp [results, h]
theorem valsN_append (a b : List PaC) : valsN (a ++ b) = valsN a ++ valsN b := by simp [valsN]
def GivesGr (r : List Pa × List Pa) (w : World) (e : Ending) (w' : World) : Prop := ∃ v u ys zs, e = .returned (.tuple #[v, u]) /\ OwnNs 30 w w' v ys /\ OwnNs 30 w w' u zs /\ valsN ys = r.1 /\ valsN zs = r.2

set_option maxRecDepth 100000 in
set_option maxHeartbeats 1600000 in
theorem group7_any (A : Option Addr) (n c : Nat) (ls : List PaC) (w : World) (hls : NsOk w A n ls) (hn : n <= 65536) :
    Calls Tryz.prog 20 #[.slice A n c] w (GivesGr (groupN (valsN ls)) w) := by
  have hlen := hls.len
  have HX := Lib.hid hls; clear hls
  obtain ⟨i0, hi, hz0, hz1, hz2⟩ := info_parts Tryz.patchInfo
  go_enter Tryz.func20, Tryz.ntmps20
  go_wp2
  go_loopg [2, 3, 11] (n + 1) (fun g s2 s3 s11 wr => ∃ (k : Nat) (v u : Value) (ys zs : List PaC), k <= n /\ n - k <= g /\ s11 = .int .i64 k /\ s2 = v /\ s3 = u /\ ys.length + zs.length = k /\ Hid (OwnNs 30 w wr v ys) /\ Hid (OwnNs 30 w wr u zs) /\ Hid (groupN ((valsN ls).take k) = (valsN ys, valsN zs)) /\ Hid (ApartN v u ys zs))
  case atStart => exact ⟨0, _, _, [], [], Nat.zero_le _, by omega, rfl, rfl, rfl, rfl, OwnNs.nil (Later.refl w), OwnNs.nil (Later.refl w), rfl, (fun k h => by cases h), (fun y h => by cases h), fun z h => by cases h⟩
  case round =>
    obtain ⟨k, v, u, ys, zs, hk, hg, rfl, hv, hu, hyz, hov, hou, hgr, hap⟩ := hrel
    obtain rfl := hv.symm
    obtain rfl := hu.symm
    clear hv hu
    by_cases hlt : k < n
    · obtain ⟨b, o, x, rfl, hz, hok, g0, g1, g2, g3⟩ := (HX.out.later hov.out.later).get hlt
      have hatv := valsN_at hz
      have HAT := Lib.hid hatv
      have HLB : Hid (Later wr (wr.alloc (.cells #[.int .i64 x.v.id, .string x.v.note, .slice x.D x.nd x.cd, .slice x.L x.nl x.cl] 30))) := (Later.refl wr).alloc _
      have HBX : Hid (BoxAt (wr.alloc (.cells #[.int .i64 x.v.id, .string x.v.note, .slice x.D x.nd x.cd, .slice x.L x.nl x.cl] 30)) wr.heap.size (paL x).toArray 30) := BoxAt.made wr (paL x).toArray 30
      have HOK := Lib.hid (hok.later HLB.out)
      have HV1 := Lib.hid (hov.out.on HLB.out); have HU1 := Lib.hid (hou.out.on HLB.out)
      clear hok hz hatv hov hou
      rcases Nat.eq_zero_or_pos k with h0 | h0
      · subst h0
        rw [Nat.zero_mul, Nat.add_zero] at g0 g1 g2 g3
        have HC := Lib.hid (clone7_any x _ HOK.out)
        have HEV : Hid (ys = [] /\ zs = []) := ⟨List.eq_nil_of_length_eq_zero (by omega), List.eq_nil_of_length_eq_zero (by omega)⟩
        unfold paV at HC
        go_wp2_with fail
        refine HC.out.mono ?_
        rintro e w2 ⟨y, rfl, hyv, oy, fy, hl2⟩
        have HA : Hid (ApartN v u ys zs) := hap
        have hl4 : Later w2 (w2.alloc (.cells #[.int .i64 y.v.id, .string y.v.note, .slice y.D y.nd y.cd, .slice y.L y.nl y.cl] 30)) := (Later.refl _).alloc _
        have HV2 := Lib.hid ((HV1.out.on hl2).on hl4); have HU2 := Lib.hid ((HU1.out.on hl2).on hl4)
        have HFX : Hid (∀ j, u.ownBlock = some j -> AwayN j y) := fun j hj => fy.away (HU1.out.lt j hj)
        have HFV : Hid (∀ z ∈ [y], ∀ j, v.ownBlock = some j -> AwayN j z) := by
          intro z hz j hj
          simp at hz; subst hz
          exact fy.away (HV1.out.lt j hj)
        have HOY := Lib.hid (oy.later hl4); have HYV := Lib.hid hyv
        clear hl4 oy fy hyv hl2 HC
        go_wp2_with (at_builtin; refine wpList_append_ns5 rfl _ _ 40 rfl i0 _ 72 Tryz.underlying40 hi hz0 hz1 hz2 rfl HV2.out rfl _ _ _ [y] rfl (rowN_one _ _ _) (fun z hz => by simp at hz; subst hz; exact HOY.out) HFV.out (by omega) (by omega) ?_; intro v4 w4 hown4 hg4 hb4; have HO4 := Lib.hid hown4; have HG4 := Lib.hid hg4; have HB4 := Lib.hid hb4; clear hown4 hg4 hb4)
        go_roundg (n - (0 + 1))
        case measure => omega
        case rel =>
          obtain ⟨e1, e2⟩ := HEV.out
          subst e1 e2
          obtain ⟨p1, p2⟩ := grow_apart HU2.out HA.out HFX.out HO4.out HG4.out HB4.out
          exact ⟨0 + 1, v4, u, [] ++ [y], [], by omega, by omega, by go_num, rfl, rfl, rfl, HO4, p1, by show groupN _ = _; rw [groupN_one HAT.out, ← HYV.out]; rfl, p2⟩
      · obtain ⟨Av, cv, hvv, -, hnv⟩ := HV1.out.row
        have hyl : ys.length <= 65536 := by omega
        have HP := Lib.hid (past7_any Av ys.length cv ys x _ hnv HOK.out hyl)
        rw [← hvv] at HP
        have HST := Lib.hid (groupN_step HAT.out h0)
        rw [hgr.out] at HST
        have h0' : (0 : Int) < (k : Int) := by omega
        unfold paV at HP
        clear hvv hnv hgr
        go_wp2_with fail
        refine HP.out.mono ?_
        rintro e w2 ⟨hl2, hr2⟩
        have HL2 := Lib.hid hl2
        clear HP hl2
        cases hp : pastN (valsN ys) x.v with
        | none =>
          rw [hp] at hr2
          subst hr2
          unfold paV zeroN zeroPa
          have hbx2 : BoxAt (w2.alloc (.cells #[.int .i64 0, .string ByteArray.empty, .slice none 0 0, .slice none 0 0] 30)) wr.heap.size (paL x).toArray 30 := (HBX.out.later HL2.out).alloc _
          have q0 : (w2.alloc (.cells #[.int .i64 0, .string ByteArray.empty, .slice none 0 0, .slice none 0 0] 30)).cell? ⟨wr.heap.size, 0, none⟩ = some (.int .i64 x.v.id) := hbx2.cell rfl
          have q1 : (w2.alloc (.cells #[.int .i64 0, .string ByteArray.empty, .slice none 0 0, .slice none 0 0] 30)).cell? ⟨wr.heap.size, 1, none⟩ = some (.string x.v.note) := hbx2.cell rfl
          have q2 : (w2.alloc (.cells #[.int .i64 0, .string ByteArray.empty, .slice none 0 0, .slice none 0 0] 30)).cell? ⟨wr.heap.size, 2, none⟩ = some (.slice x.D x.nd x.cd) := hbx2.cell rfl
          have q3 : (w2.alloc (.cells #[.int .i64 0, .string ByteArray.empty, .slice none 0 0, .slice none 0 0] 30)).cell? ⟨wr.heap.size, 3, none⟩ = some (.slice x.L x.nl x.cl) := hbx2.cell rfl
          have HL3 : Hid (Later (wr.alloc (.cells #[.int .i64 x.v.id, .string x.v.note, .slice x.D x.nd x.cd, .slice x.L x.nl x.cl] 30)) (w2.alloc (.cells #[.int .i64 0, .string ByteArray.empty, .slice none 0 0, .slice none 0 0] 30))) := HL2.out.alloc _
          have HC := Lib.hid (clone7_any x _ (HOK.out.later HL3.out))
          replace HV1 := Lib.hid (HV1.out.on HL3.out); replace HU1 := Lib.hid (HU1.out.on HL3.out)
          have HA : Hid (ApartN v u ys zs) := hap
          unfold paV at HC
          have HPN := Lib.hid hp
          clear hbx2 hp HL2
          go_wp2_with fail
          refine HC.out.mono ?_
          rintro e w3 ⟨y, rfl, hyv, oy, fy, hl2⟩
          clear q0 q1 q2 q3
          have hl4 : Later w3 (w3.alloc (.cells #[.int .i64 y.v.id, .string y.v.note, .slice y.D y.nd y.cd, .slice y.L y.nl y.cl] 30)) := (Later.refl _).alloc _
          have HV2 := Lib.hid ((HV1.out.on hl2).on hl4); have HU2 := Lib.hid ((HU1.out.on hl2).on hl4)
          have HFX : Hid (∀ j, u.ownBlock = some j -> AwayN j y) := fun j hj => fy.away (HU1.out.lt j hj)
          have HFV : Hid (∀ z ∈ [y], ∀ j, v.ownBlock = some j -> AwayN j z) := by
            intro z hz j hj
            simp at hz; subst hz
            exact fy.away (HV1.out.lt j hj)
          have HOY := Lib.hid (oy.later hl4); have HYV := Lib.hid hyv
          clear hl4 oy fy hyv hl2 HC
          go_wp2_with (at_builtin; refine wpList_append_ns5 rfl _ _ 40 rfl i0 _ 72 Tryz.underlying40 hi hz0 hz1 hz2 rfl HV2.out rfl _ _ _ [y] rfl (rowN_one _ _ _) (fun z hz => by simp at hz; subst hz; exact HOY.out) HFV.out (by omega) (by omega) ?_; intro v4 w4 hown4 hg4 hb4; have HO4 := Lib.hid hown4; have HG4 := Lib.hid hg4; have HB4 := Lib.hid hb4; clear hown4 hg4 hb4)
          go_roundg (n - (k + 1))
          case measure => omega
          case rel =>
            obtain ⟨p1, p2⟩ := grow_apart HU2.out HA.out HFX.out HO4.out HG4.out HB4.out
            refine ⟨k + 1, v4, u, ys ++ [y], zs, by omega, Nat.le_refl _, by go_num, rfl, rfl, by simp; omega, HO4, p1, ?_, p2⟩
            show groupN _ = _
            rw [HST.out, valsN_append]
            unfold groupStep
            rw [show ((valsN ys, valsN zs) : List Pa × List Pa).1 = valsN ys from rfl, HPN.out, show valsN [y] = [x.v] from by simp [valsN, HYV.out]]
        | some r =>
          rw [hp] at hr2
          obtain ⟨y, v2, zs2, rfl, hyv, oy, fy, ov, ev, fz, ay⟩ := hr2
          unfold paV
          have HB2 : Hid (BoxAt (w2.alloc (.cells #[.int .i64 y.v.id, .string y.v.note, .slice y.D y.nd y.cd, .slice y.L y.nl y.cl] 30)) w2.heap.size (paL y).toArray 30) := BoxAt.made w2 (paL y).toArray 30
          have hl3 : Later w2 ((w2.alloc (.cells #[.int .i64 y.v.id, .string y.v.note, .slice y.D y.nd y.cd, .slice y.L y.nl y.cl] 30)).alloc (.cells #[.int .i64 y.v.id, .string y.v.note, .slice y.D y.nd y.cd, .slice y.L y.nl y.cl] 30)) := ((Later.refl w2).alloc _).alloc _
          have HOY := Lib.hid (oy.later hl3)
          have HV2 := Lib.hid ((ov.base (HV1.out.later)).on hl3)
          have HU2 := Lib.hid ((HU1.out.on HL2.out).on hl3)
          have HAP : Hid (ApartN u v2 zs zs2) := ⟨fun j h1 h2 => by have := HU1.out.lt j h1; have := ov.block j h2; omega, (fun z hz j hj => (HU1.out.ok z hz).away (ov.block j hj)), fun z hz j hj => (fz z hz).away (HU1.out.lt j hj)⟩
          have HFU : Hid (∀ z ∈ [y], ∀ j, u.ownBlock = some j -> AwayN j z) := by
            intro z hz j hj
            simp at hz; subst hz
            exact fy.away (HU1.out.lt j hj)
          have HAY := Lib.hid ay; have HYV := Lib.hid hyv; have HEV := Lib.hid ev; have HPN := Lib.hid hp
          have hzl : zs.length <= 65536 := by omega
          have HZL : Hid (zs2.length = ys.length) := by
            have h1 := pastN_length (c := r.1) (rest := r.2) hp
            rw [← ev, valsN_length, valsN_length] at h1
            exact h1
          clear oy fy ov ev fz ay hyv hl3 hp
          have HROW : Hid (RowK 4 ((w2.alloc (.cells #[.int .i64 y.v.id, .string y.v.note, .slice y.D y.nd y.cd, .slice y.L y.nl y.cl] 30)).alloc (.cells #[.int .i64 y.v.id, .string y.v.note, .slice y.D y.nd y.cd, .slice y.L y.nl y.cl] 30)) (some ⟨w2.heap.size + 1, 0, none⟩) 1 ([y].map paL)) := by
            have := rowN_one (w2.alloc (.cells #[.int .i64 y.v.id, .string y.v.note, .slice y.D y.nd y.cd, .slice y.L y.nl y.cl] 30)) y 30
            rw [World.size_alloc] at this
            exact this
          go_wp2_with (at_builtin; (refine Hid.out ?_))
          refine Lib.hid ?_
          refine wpList_append_ns5 rfl _ _ 40 rfl i0 _ 72 Tryz.underlying40 hi hz0 hz1 hz2 rfl HU2.out rfl _ _ _ [y] rfl HROW.out (fun z hz => by simp at hz; subst hz; exact HOY.out) HFU.out (by omega) (by omega) ?_
          intro u4 w4 hown4 hg4 hb4
          have HO4 := Lib.hid hown4; have HG4 := Lib.hid hg4; have HB4 := Lib.hid hb4
          clear hown4 hg4 hb4
          go_wp2
          go_roundg (n - (k + 1))
          case measure => omega
          case rel =>
            obtain ⟨p1, p2⟩ := grow_apart HV2.out HAP.out HAY.out HO4.out HG4.out HB4.out
            refine ⟨k + 1, v2, u4, zs2, zs ++ [y], by omega, Nat.le_refl _, by go_num, rfl, rfl, by have := HZL.out; simp; omega, p1, HO4, ?_, p2.symm⟩
            show groupN _ = _
            rw [HST.out, valsN_append]
            unfold groupStep
            rw [show ((valsN ys, valsN zs) : List Pa × List Pa).1 = valsN ys from rfl, HPN.out, HEV.out, show valsN [y] = [r.1] from by simp [valsN, HYV.out]]
    · have HE : Hid (groupN (valsN ls) = (valsN ys, valsN zs)) := by
        have := hgr.out
        rw [List.take_of_length_le (by rw [valsN_length, hlen]; omega)] at this
        exact this
      go_wp2
      refine bodyPost_ret (results_tmps2 rfl _ _ _) rfl ?_
      rw [HE.out]
      exact ⟨v, u, ys, zs, rfl, hov.out, hou.out, rfl, rfl⟩

end Go.Proofs.YtlnjhimbgckdcaaGreat

/-
  What seq's Same comes to, as a call.
-/
namespace Go.Proofs.YtlnjhimbgckdcaaGreat
open Go.RowKit Go.Maps

set_option maxRecDepth 100000 in
set_option maxHeartbeats 1600000 in
theorem equalP_any (A B : Option Addr) (n c m d : Nat) (xs ys : List PrC) (w : World) (hx : PsOk w A n xs) (hy : PsOk w B m ys) (hn : n <= 65536) (hm : m <= 65536) :
    Calls Tryz.prog 56 #[.slice A n c, .slice B m d, .func (.func 57) #[] #[]] w (Says (sameS (valsP xs) (valsP ys)) w) := by
  have HX := Lib.hid hx; have HY := Lib.hid hy; clear hx hy
  by_cases hnm : n = m
  case neg =>
    have HE : Hid (sameS (valsP xs) (valsP ys) = false) := sameS_length (by rw [valsP_length, valsP_length, HX.out.len, HY.out.len]; exact hnm)
    rw [HE.out]
    have hne : ((n : Int) == (m : Int)) = false := by rw [beq_eq_false_iff_ne]; omega
    go_enter Tryz.func56, Tryz.ntmps56
    go_wp2
    go_ret
    exact ⟨rfl, Later.refl w⟩
  subst hnm
  go_enter Tryz.func56, Tryz.ntmps56
  go_wp2
  go_loopg [17] (n + 1) (fun g s7 wr => ∃ k : Nat, k <= n /\ n - k <= g /\ s7 = .int .i64 k /\ Hid (∀ j (p q : Pr), j < k -> (valsP xs)[j]? = some p -> (valsP ys)[j]? = some q -> sameP p q = true) /\ Hid (Later w wr))
  case atStart => exact ⟨0, Nat.zero_le _, by omega, rfl, fun j p q hj => by omega, Later.refl w⟩
  case round =>
    obtain ⟨k, hk, hg, rfl, hall, hwr⟩ := hrel
    by_cases hlt : k < n
    · obtain ⟨b, o, x, rfl, hz, hok, g0, g1, g2, g3, g4, g5⟩ := (HX.out.later hwr.out).get hlt
      obtain ⟨b', o', y, rfl, hz', hok', k0, k1, k2, k3, k4, k5⟩ := (HY.out.later hwr.out).get hlt
      have HLB : Hid (Later wr ((wr.alloc (.cells #[.int .i64 x.v.kind, .string x.v.name, .string x.v.to, .int .i64 x.v.place, .slice x.A x.n x.c, .slice x.B x.m x.d] 58)).alloc (.cells #[.int .i64 y.v.kind, .string y.v.name, .string y.v.to, .int .i64 y.v.place, .slice y.A y.n y.c, .slice y.B y.m y.d] 58))) := ((Later.refl wr).alloc _).alloc _
      have HAT := Lib.hid (valsP_at hz); have HAT' := Lib.hid (valsP_at hz')
      have HR := Lib.hid (primSame_any x y _ (hok.later HLB.out) (hok'.later HLB.out))
      clear hok hok' hz hz'
      have HL1 : Later wr (wr.alloc (.cells #[.int .i64 x.v.kind, .string x.v.name, .string x.v.to, .int .i64 x.v.place, .slice x.A x.n x.c, .slice x.B x.m x.d] 58)) := (Later.refl wr).alloc _
      have q0 := HL1.cell k0; have q1 := HL1.cell k1; have q2 := HL1.cell k2; have q3 := HL1.cell k3; have q4 := HL1.cell k4; have q5 := HL1.cell k5
      clear HL1 k0 k1 k2 k3 k4 k5
      unfold prV at HR
      cases hr : sameP x.v y.v
      · rw [hr] at HR
        have HNO : Hid (sameS (valsP xs) (valsP ys) = false) := sameS_at HAT.out HAT'.out hr
        rw [HNO.out]
        clear hr
        go_wp2_with fail
        refine HR.out.mono ?_
        rintro e w2 ⟨rfl, hl2⟩
        have HL2 := Lib.hid hl2
        clear hl2 HR
        go_wp2
        go_ret
        exact ⟨rfl, (hwr.out.trans HLB.out).trans HL2.out⟩
      · rw [hr] at HR
        have HNX : Hid (∀ j (p q : Pr), j < k + 1 -> (valsP xs)[j]? = some p -> (valsP ys)[j]? = some q -> sameP p q = true) := fun j p q hj h1 h2 => by
          by_cases e : j = k
          · subst e
            rw [HAT.out] at h1; rw [HAT'.out] at h2
            cases h1; cases h2
            exact hr
          · exact hall.out j p q (by omega) h1 h2
        clear hr
        go_wp2_with fail
        refine HR.out.mono ?_
        rintro e w2 ⟨rfl, hl2⟩
        have HL2 := Lib.hid hl2
        clear hl2 HR
        go_wp2
        go_roundg (n - (k + 1))
        case measure => omega
        case rel => exact ⟨k + 1, by omega, Nat.le_refl _, by go_num, HNX, (hwr.out.trans HLB.out).trans HL2.out⟩
    · have HE : Hid (sameS (valsP xs) (valsP ys) = true) := sameS_all (by rw [valsP_length, valsP_length, HX.out.len, HY.out.len]) fun j p q h1 h2 => hall.out j p q (by
        have := (List.getElem?_eq_some_iff.1 h1).1
        rw [valsP_length, HX.out.len] at this
        omega) h1 h2
      go_wp2
      go_ret
      exact ⟨by rw [HE.out]; rfl, hwr.out⟩

set_option maxRecDepth 100000 in
set_option maxHeartbeats 400000 in
theorem seqSame_any (A B : Option Addr) (n c m d : Nat) (xs ys : List PrC) (w : World) (hx : PsOk w A n xs) (hy : PsOk w B m ys) (hn : n <= 65536) (hm : m <= 65536) :
    Calls Tryz.prog 41 #[.slice A n c, .slice B m d] w (Says (sameS (valsP xs) (valsP ys)) w) := by
  have H := Lib.hid (equalP_any A B n c m d xs ys w hx hy hn hm)
  clear hx hy
  go_enter Tryz.func41, Tryz.ntmps41
  go_wp2_with fail
  refine H.out.mono ?_
  rintro e w1 ⟨rfl, hl⟩
  have HL := Lib.hid hl
  clear hl H
  go_wp2
  go_ret
  exact ⟨rfl, HL.out⟩

end Go.Proofs.YtlnjhimbgckdcaaGreat
