import Derived.Test.YtejkgkgjgojlkaaGreatDoorPk23
import Derived.Test.YtejkgkgjgojlkaaGreatDoorPk15
import Derived.Test.YtejkgkgjgojlkaaGreatDoorPk24
import Derived.Test.YtejkgkgjgojlkaaGreatDoorPk6
import Derived.Deep.LoopGhost
import Derived.Deep.QuietTactic
import Derived.BigQuiet
import Derived.Lib.Hide
import Derived.Test.YtejkgkgjgojlkaaGreatDoorPk22
import Derived.Test.YtejkgkgjgojlkaaGreatDoorPk3

/-
  What seq's Apply comes to, as a call.
-/
namespace Go.Proofs.YtejkgkgjgojlkaaGreatDoor
open Go.RowKit Go.Maps

attribute [local go_sem] Oper.semAt_some

theorem FilesAt.shut {V : World} {B l : Nat} {t : Tr} {o o' : Obj} (h : FilesAt V B t) (hB : B < l) (hl : V.heap[l]? = some o) (ho : o.isCells = false) : FilesAt (V.putObj l o') B t := by
  obtain ⟨z, hz, rfl⟩ := h
  exact ⟨z, hz.off (shut_turned V l o') (by omega) (fun f hf hne => by
    obtain ⟨A, n, c, hv, _, hr⟩ := hz.reads f hf
    rw [hv]
    exact hr.away_shut hl ho hne), rfl⟩
theorem TreeAt.shut {V : World} {p B l : Nat} {t : Tr} {o o' : Obj} (h : TreeAt V p B t) (hB : B < l) (hl : V.heap[l]? = some o) (ho : o.isCells = false) : TreeAt (V.putObj l o') p B t :=
  ⟨(shut_turned V l o').cell h.cell (cell_off hl ho h.cell), h.files.shut hB hl ho⟩
/-- Between two rounds of the undoing: j are over. -/
structure ApI (w : World) (p B : Nat) (t : Tr) (A : Option Addr) (kk c g2 gB : Nat) (xs : List PrC) (j : Nat) (V : World) (u : Tr) : Prop where
  ran : runS t ((valsP xs).take (kk - j)) = (u, 0)
  tree : TreeAt V p B u
  turned : Turned B w V
  b2 : BoxAt V g2 #[.pointer (some ⟨p, 0, none⟩)] 43
  bB : BoxAt V gB #[.slice A kk c] 25
theorem Turned.shut {w V : World} {B l : Nat} {o' : Obj} (h : Turned B w V) (hw : w.heap.size ≤ l) : Turned B w (V.putObj l o') :=
  ⟨h.os, h.tape, h.output, by simpa using h.size, fun i hi hne => (World.putObj_heap_other (by omega)).trans (h.block i hi hne)⟩
theorem take_back {l : List Pr} {i : Nat} {x : Pr} {t u : Tr} (ht : Rising t) (h : runS t (l.take (i + 1)) = (u, 0)) (hx : l[i]? = some x) : ∃ s, runS t (l.take i) = (s, 0) ∧ applyP u (invertP x) = (s, 0) := by
  obtain ⟨hi, rfl⟩ := List.getElem?_eq_some_iff.1 hx
  rw [List.take_succ_eq_append_getElem hi] at h
  obtain ⟨s, h1, h2⟩ := runS_append.1 h
  obtain ⟨s', h3, h4⟩ := runS_cons.1 h2
  simp only [runS, Prod.mk.injEq, and_true] at h4
  subst h4
  exact ⟨s, h1, apply_back (runS_rising ht h1) h3⟩
theorem linesS_take (l : List Pr) (i : Nat) : linesS (l.take i) ≤ linesS l := by
  have : linesS l = linesS (l.take i) + linesS (l.drop i) := by rw [← linesS_append, List.take_append_drop]
  omega
theorem linesS_at {l : List Pr} {i : Nat} {x : Pr} (h : l[i]? = some x) : linesS (l.take i) + (x.old.length + x.new.length) ≤ linesS l := by
  obtain ⟨hi, rfl⟩ := List.getElem?_eq_some_iff.1 h
  have h1 := linesS_take l (i + 1)
  rw [List.take_succ_eq_append_getElem hi, linesS_append, linesS_cons, linesS_nil] at h1
  omega

set_option maxRecDepth 100000 in
set_option maxHeartbeats 3200000 in
theorem seqApply_any (p B k h : Nat) (t : Tr) (A : Option Addr) (n c : Nat) (xs : List PrC) (w : World) (ht : TreeAt w p B t) (hx : PsOk w A n xs) (hs : Sized k h t) (hnc : n ≤ c) (hn : k + n ≤ 60000) (hh : h + 2 * linesS (valsP xs) ≤ 65536) :
    Calls Tryz.prog 29 #[.pointer (some ⟨p, 0, none⟩), .slice A n c] w (Does (applyS t (valsP xs)) p B w) := by
  have hlen := hx.len
  have hB := ht.files.lt
  have hp := ht.lt
  obtain ⟨es, em, hmap⟩ := ht.files.map
  have HX := Lib.hid hx; have HT := Lib.hid ht; have HS := Lib.hid hs; have HM := Lib.hid hmap
  have HB2 : Hid (BoxAt (w.alloc (.cells #[.pointer (some ⟨p, 0, none⟩)] 43)) w.heap.size #[.pointer (some ⟨p, 0, none⟩)] 43) := BoxAt.made w _ _
  clear hx ht hs hmap
  refine (callsIn_wide (n := 3)).1 (callsIn_of_wp_marks Tryz.func29 rfl trivial (wpIn_wide.2 ?_) rfl)
  simp only [Tryz.ntmps29, List.size_toArray, List.length_cons, List.length_nil, Nat.reduceAdd, Nat.reduceSub, Array.replicate_succ, Array.replicate_zero, List.push_toArray, List.append_toArray, List.nil_append, List.cons_append]
  go_wp2
  go_loopg [12] (n + 1) (fun g s12 wr => ∃ (kk : Nat) (u : Tr), kk ≤ n ∧ n - kk ≤ g ∧ s12 = .int .i64 kk ∧ Hid (runS t ((valsP xs).take kk) = (u, 0)) ∧ Hid (TreeAt wr p B u) ∧ Hid (Turned B w wr) ∧ Hid (BoxAt wr w.heap.size #[.pointer (some ⟨p, 0, none⟩)] 43))
  case atStart => exact ⟨0, t, Nat.zero_le _, by omega, rfl, by simp [Hid, runS], HT.out.later ((Later.refl w).alloc _), ((Later.refl w).alloc _).turned B, HB2.out⟩
  case round =>
    obtain ⟨kk, u, hk, hg, rfl, hran, htr, htu, hb2⟩ := hrel
    have hb2lt := hb2.out.lt
    by_cases hlt : kk < n
    · have hcl := htu.out.cells HM.out
      obtain ⟨b, o, x, rfl, hz, hok, g0, g1, g2, g3, g4, g5⟩ := (HX.out.cells hcl).get hlt
      have hatv := valsP_at hz
      have hsz := runS_sized (l := (valsP xs).take kk) HS.out
      rw [hran.out] at hsz
      have hln := linesS_at hatv
      have htl : ((valsP xs).take kk).length = kk := by rw [List.length_take, valsP_length, hlen]; omega
      rw [htl] at hsz
      have hnl := hok.new.len
      have HLB : Hid (Later wr (wr.alloc (.cells #[.int .i64 x.v.kind, .string x.v.name, .string x.v.to, .int .i64 x.v.place, .slice x.A x.n x.c, .slice x.B x.m x.d] 70))) := (Later.refl wr).alloc _
      have HC := Lib.hid (apply_any x p B _ _ u _ (htr.out.later HLB.out) (hok.later HLB.out) hsz (by omega) (by omega))
      have c2 := (hb2.out.later HLB.out).cell (i := 0) rfl
      have HATV := Lib.hid hatv; have HSZ := Lib.hid hsz; have HCL := Lib.hid hcl
      clear hok hz hatv hsz hcl htl
      unfold prV at HC
      cases hr : decide ((applyP u x.v).2 = 0)
      · have he : (applyP u x.v).2 ≠ 0 := of_decide_eq_false hr
        have herr : (applyP u x.v).1 = u := apply_errS he
        have HAS : Hid (applyS t (valsP xs) = (t, (applyP u x.v).2)) := by
          show _ = _
          have e1 : valsP xs = (valsP xs).take kk ++ x.v :: (valsP xs).drop (kk + 1) := by
            obtain ⟨hi, hxi⟩ := List.getElem?_eq_some_iff.1 HATV.out
            rw [← hxi, ← List.drop_eq_getElem_cons hi, List.take_append_drop]
          rw [e1]
          exact applyS_err hran.out he
        have hne : ((applyP u x.v).2 == 0) = false := by rw [beq_eq_false_iff_ne]; exact he
        have HHR := Lib.hid herr
        clear he hr herr
        go_wp2_with fail
        refine HC.out.mono ?_
        rintro e w2 ⟨rfl, htw, htu2⟩
        rw [HHR.out] at htw
        generalize (applyP u x.v).2 = er at *
        obtain ⟨es1, em1, hm1⟩ := (htr.out.later HLB.out).files.map
        have HBX := Lib.hid ((hb2.out.later HLB.out).turnS htu2 hm1)
        have HTU := Lib.hid ((htu.out.trans (HLB.out.turned B)).trans htu2); have HTW := Lib.hid htw
        have HBK := Lib.hid (fun (A1 : Option Addr) (n1 c1 : Nat) (w1 : World) => back_any A1 n1 c1 w1)
        clear HC c2 g0 g1 g2 g3 g4 g5 htw htu2 hm1
        go_wp2_with fail
        refine (HBK.out _ _ _ _).mono ?_
        rintro e w3 ⟨rfl, rfl⟩
        clear HBK
        go_wp2_with fail
        have hl3 : Later w2 (w2.alloc (.cells #[.slice (some ⟨b, o, none⟩) kk c] 25)) := (Later.refl w2).alloc _
        have hbB : BoxAt (w2.alloc (.cells #[.slice (some ⟨b, o, none⟩) kk c] 25)) w2.heap.size #[.slice (some ⟨b, o, none⟩) kk c] 25 := BoxAt.made w2 _ _
        have hrow : RowK 6 w (some ⟨b, o, none⟩) kk ((xs.take kk).map prL) := by
          refine ⟨by simp [hlen]; omega, (fun cs hcs => by obtain ⟨y, _, rfl⟩ := List.mem_map.1 hcs; rfl), fun hkk => ?_⟩
          obtain ⟨b', o', e', hc'⟩ := HX.out.row.2.2 (by omega)
          refine ⟨b', o', e', fun j i cs v h1 h2 => hc' j i cs v ?_ h2⟩
          rw [List.getElem?_map, List.getElem?_take] at h1
          split at h1
          · rw [List.getElem?_map]; exact h1
          · simp at h1
        have hi0 : ∃ u', ApI w p B t (some ⟨b, o, none⟩) kk c w.heap.size w2.heap.size xs 0 (w2.alloc (.cells #[.slice (some ⟨b, o, none⟩) kk c] 25)) u' := ⟨u, hran.out, HTW.out.later hl3, HTU.out.trans (hl3.turned B), HBX.out.later hl3, hbB⟩
        have hcw : Cells w (w2.alloc (.cells #[.slice (some ⟨b, o, none⟩) kk c] 25)) := (HTU.out.cells HM.out).later hl3
        have hszL : w.heap.size ≤ (w2.alloc (.cells #[.slice (some ⟨b, o, none⟩) kk c] 25)).heap.size := Nat.le_trans HTU.out.size hl3.le
        generalize w2.heap.size = gB at hbB hi0 ⊢
        generalize w2.alloc (.cells #[.slice (some ⟨b, o, none⟩) kk c] 25) = wL at hl3 hbB hi0 hcw hszL ⊢
        refine range_rows (zs := rounds (xs.take kk)) (w0 := wL) rfl (enters_of Tryz.func90 (by kernel_rfl) rfl) (back_handsC 2 gB (by decide) (some ⟨b, o, none⟩) kk c (xs.take kk) (by omega) w wL hrow hcw (hbB.cell rfl)) (Later.refl _) (fun _ => rfl) (fun h k => h.trans k) (fun V l o o' _ hh ho => KpC.book V l o o' hh ho)
          (fun j V => ∃ u', ApI w p B t (some ⟨b, o, none⟩) kk c w.heap.size gB xs j V u') (fun _ _ => False)
          (fun j z a' V => (∃ u', ApI w p B t (some ⟨b, o, none⟩) kk c w.heap.size gB xs j V u') ∧ ∃ gx, BoxAt V gx (prL z.2).toArray 70 ∧ a' = { tmps := #[.pointer (some ⟨p, 0, none⟩), .slice (some ⟨b, o, none⟩) n c, .pointer (some ⟨w.heap.size, 0, none⟩), undef, u4, .int .i64 kk, .pointer (some ⟨wr.heap.size, 0, none⟩), .int .i64 er, undef, .pointer (some ⟨gx, 0, none⟩), .slice (some ⟨b, o, none⟩) n c, .int .i64 n, .int .i64 kk, .bool true, .int .i64 kk, .pointer (some ⟨b, o + kk * 6, none⟩), .agg #[.int .i64 x.v.kind, .string x.v.name, .string x.v.to, .int .i64 x.v.place, .slice x.A x.n x.c, .slice x.B x.m x.d], .pointer (some ⟨p, 0, none⟩), .agg #[.int .i64 x.v.kind, .string x.v.name, .string x.v.to, .int .i64 x.v.place, .slice x.A x.n x.c, .slice x.B x.m x.d], .int .i64 er, .int .i64 er, .bool false, .slice (some ⟨b, o, none⟩) n c, .int .i64 kk, .slice (some ⟨b, o, none⟩) kk c, .func (.func 90) #[] #[.pointer (some ⟨gB, 0, none⟩)], .int .i64 z.1, prV z.2, u28, u29, u30, u31, u32, u33], defers := [] })
          (fun j V l o' o'' ⟨u', q⟩ hl hh ho => ⟨u', q.ran, q.tree.shut (by omega) hh ho, q.turned.shut (by omega), q.b2.shut hh ho, q.bB.shut hh ho⟩) (fun j V l o o' h => h.elim) (fun j z a' V l o' o'' ⟨⟨u', q⟩, gx, h2, h3⟩ hl hh ho => ⟨⟨u', q.ran, q.tree.shut (by omega) hh ho, q.turned.shut (by omega), q.b2.shut hh ho, q.bB.shut hh ho⟩, gx, h2.shut hh ho, h3⟩)
          (fun o' o'' ⟨u', q⟩ => ⟨u', q.ran, q.tree.later (((Later.refl wL).alloc o').alloc o''), q.turned.trans ((((Later.refl wL).alloc o').alloc o'').turned B), q.b2.later (((Later.refl wL).alloc o').alloc o''), q.bB.later (((Later.refl wL).alloc o').alloc o'')⟩) hi0 ?assign ?body ?done ?stop
        case assign =>
          rintro l j ⟨i, y⟩ V K hz ⟨u', q⟩ hK
          simp only [backV, prV]
          gi_wp2
          have hlv : Later V (V.alloc (.cells (prL y).toArray 70)) := (Later.refl V).alloc _
          exact hK _ _ (KeepsFrom.later hlv _) (KpC.of hlv.cells) ⟨⟨u', q.ran, q.tree.later hlv, q.turned.trans (hlv.turned B), q.b2.later hlv, q.bB.later hlv⟩, V.heap.size, BoxAt.made V (prL y).toArray 70, rfl⟩
        case body =>
          rintro l j ⟨i, y⟩ a' V hz ⟨⟨u', q⟩, gx, hbx, rfl⟩
          obtain ⟨hj, hat⟩ := rounds_at hz
          dsimp only at hj hat hbx ⊢
          have hkl : (xs.take kk).length = kk := by rw [List.length_take, hlen]; omega
          have hik : i < kk := by omega
          rw [List.getElem?_take, if_pos hik] at hat
          have hatv := valsP_at hat
          have hok := (HX.out.each y (List.mem_of_getElem? hat)).cells (q.turned.cells HM.out)
          have hran' := q.ran
          rw [show kk - j = i + 1 by omega] at hran'
          obtain ⟨s', hs1, hs2⟩ := take_back HT.out.files.rise hran' hatv
          have hsz := runS_sized (l := (valsP xs).take (i + 1)) HS.out
          rw [hran'] at hsz
          have hln := linesS_take (valsP xs) (i + 1)
          have hln2 := linesS_at hatv
          have hinv := invert_lines y.v
          have hlen1 : ((valsP xs).take (i + 1)).length ≤ n := by rw [List.length_take, valsP_length, hlen]; omega
          obtain ⟨es2, em2, hm2⟩ := q.tree.files.map
          refine wpIn_block (ap_region rfl (by kernel_rfl) (by kernel_rfl) ⟨_, rfl, rfl, rfl, rfl, by kernel_rfl⟩ ⟨_, rfl, rfl, rfl, rfl, by kernel_rfl⟩ ⟨_, rfl, rfl, rfl, rfl, by kernel_rfl⟩ ⟨_, rfl, rfl, rfl, rfl, by kernel_rfl⟩ (of_decide_eq_true rfl) rfl rfl q.b2 hbx hok q.tree hsz (by omega) (by omega) (fun ⟨_, _, h⟩ => h) (fun D a V' so st => ?_))
          rw [hs2] at st
          obtain ⟨s1, s2⟩ := st
          exact ⟨KeepsFrom.of_grownBy s2 (fun j e => by cases e; omega), KpC.of (s2.cells hm2), s', by rw [show kk - (j + 1) = i by omega]; exact hs1, s1, q.turned.trans s2, q.b2.turnS s2 hm2, q.bB.turnS s2 hm2⟩
        case done =>
          rintro Dd V hD ⟨u', q⟩ hd
          have hq := q.ran
          rw [rounds_length, List.length_take, hlen, Nat.min_eq_left (by omega), Nat.sub_self, List.take_zero] at hq
          simp only [runS, Prod.mk.injEq, and_true] at hq
          subst hq
          have HQ := Lib.hid q; have HD := Lib.hid hd
          clear q hd
          go_wp2
          refine ⟨by simp, .inl ⟨_, _, rfl, run_takeDeferred HD.out, ?_⟩⟩
          refine ⟨_, results_tmp rfl _ _ _, ?_⟩
          rw [HAS.out]
          exact ⟨rfl, HQ.out.tree.shut (by omega) HD.out rfl, HQ.out.turned.shut (by omega)⟩
        case stop =>
          rintro Dd j V _ _ h _
          exact h.elim
      · have he : (applyP u x.v).2 = 0 := of_decide_eq_true hr
        have HEQ := Lib.hid he
        have HNX : Hid (runS t ((valsP xs).take (kk + 1)) = ((applyP u x.v).1, 0)) := by
          show _ = _
          obtain ⟨hi, hxi⟩ := List.getElem?_eq_some_iff.1 HATV.out
          rw [List.take_succ_eq_append_getElem hi, hxi, runS_snoc hran.out, Prod.ext_iff]
          exact ⟨rfl, he⟩
        clear hr he
        go_wp2_with fail
        refine HC.out.mono ?_
        rintro e w2 ⟨rfl, htw, htu2⟩
        obtain ⟨es1, em1, hm1⟩ := (htr.out.later HLB.out).files.map
        have HBX := Lib.hid ((hb2.out.later HLB.out).turnS htu2 hm1)
        have HTU := Lib.hid ((htu.out.trans (HLB.out.turned B)).trans htu2); have HTW := Lib.hid htw
        clear HC c2 g0 g1 g2 g3 g4 g5 htw htu2 hm1
        rw [HEQ.out]
        generalize (applyP u x.v).1 = u' at HTW HNX
        clear HEQ
        go_wp2
        go_roundg (n - (kk + 1))
        case measure => omega
        case rel => exact ⟨kk + 1, _, by omega, Nat.le_refl _, by go_num, HNX, HTW, HTU, HBX⟩
    · obtain rfl : kk = n := by omega
      have HE : Hid (applyS t (valsP xs) = (u, 0)) := by
        have := hran.out
        rw [List.take_of_length_le (by rw [valsP_length, hlen]; omega)] at this
        exact applyS_ok.2 this
      go_wp2
      refine ⟨_, results_tmp rfl _ _ _, ?_⟩
      rw [HE.out]
      exact ⟨rfl, htr.out, htu.out⟩

end Go.Proofs.YtejkgkgjgojlkaaGreatDoor

/-
  Rows of prims as values, beside trees.
-/
namespace Go.Proofs.YtejkgkgjgojlkaaGreatDoor
open Go.RowKit Go.Maps

section
variable {w w' : World} {v u : Value} {l m : List Pr}
theorem RowK.turnS {k : Nat} {A : Option Addr} {n : Nat} {css : List (List Value)} {B : Nat} (h : RowK k w A n css) (hg : Turned B w w') {es : Array MapEntry} {c : Nat} (hm : w.heap[B]? = some (.map es c)) : RowK k w' A n css := by
  refine ⟨h.1, h.2.1, fun h0 => ?_⟩
  obtain ⟨b, o, e, hc⟩ := h.2.2 h0
  refine ⟨b, o, e, fun j i cs u hj hi => ?_⟩
  have h1 := hc j i cs u hj hi
  by_cases hb : b = B
  · subst hb
    unfold World.cell? at h1
    simp [hm] at h1
  · exact hg.cell h1 hb
theorem PsAt.turnS {B : Nat} (h : PsAt w v l) (hg : Turned B w w') {es : Array MapEntry} {c : Nat} (hm : w.heap[B]? = some (.map es c)) : PsAt w' v l := by
  obtain ⟨A, n, c, xs, rfl, hc, hp, hv⟩ := h
  exact ⟨A, n, c, xs, rfl, hc, ⟨hp.row.turnS hg hm, fun x hx => (hp.each x hx).turnS hg hm⟩, hv⟩
theorem apply_s {p B k h : Nat} {t : Tr} (ht : TreeAt w p B t) (hx : PsAt w v l) (hs : Sized k h t) (hn : k + l.length ≤ 60000) (hh : h + 2 * linesS l ≤ 65536) :
    Calls Tryz.prog 29 #[.pointer (some ⟨p, 0, none⟩), v] w (Does (applyS t l) p B w) := by
  obtain ⟨A, c, xs, rfl, hc, hp, rfl⟩ := hx.open
  exact seqApply_any p B k h t A _ c xs w ht hp hs hc hn hh
end

end Go.Proofs.YtejkgkgjgojlkaaGreatDoor

/-
  The statements' own example of layer 5: what it is made of.
-/
namespace Go.Proofs.YtejkgkgjgojlkaaGreatDoor
open Go.RowKit Go.Maps

def e5L : Pr := ⟨0, ⟨#[97]⟩, ⟨#[]⟩, 0, [⟨#[120]⟩], []⟩
def e5M : Pr := ⟨0, ⟨#[97]⟩, ⟨#[]⟩, 5, [⟨#[121]⟩], [⟨#[122]⟩]⟩
def e5R : Pr := ⟨0, ⟨#[97]⟩, ⟨#[]⟩, 4, [⟨#[121]⟩], [⟨#[122]⟩]⟩
def e5A : Pr := ⟨1, ⟨#[97]⟩, ⟨#[]⟩, 0, [], []⟩
def e5B : Pr := ⟨2, ⟨#[98]⟩, ⟨#[]⟩, 0, [], []⟩
theorem e5_rebase : rebaseS [e5M] [e5L] = some [e5R] := by kernel_rfl
theorem e5_split : splitS (fun k => k == 1) 0 ([], []) [e5L, e5R] = ([e5M], [e5L]) := by kernel_rfl
theorem e5_swap : swapS [e5L] [e5R] = some ([e5M], [e5L]) := by kernel_rfl
theorem e5_apply : applyS [] [e5A, e5B] = ([], 31) := by kernel_rfl
theorem e5_sameM : sameS [e5M] [e5M] = true := by kernel_rfl
theorem e5_sameL : sameS [e5L] [e5L] = true := by kernel_rfl
theorem e5_right : [e5L].all rightP = true := by kernel_rfl
theorem e5_names : namesS [e5L] = [⟨#[97]⟩] := by
  unfold namesS
  have h : (allNames [e5L]).map bytes = [[97]] := by kernel_rfl
  have k : (Lib.compact [([97] : List UInt8)]).map txt = [⟨#[97]⟩] := by kernel_rfl
  rw [h, List.mergeSort_singleton, k]
theorem e5_touchA : touchesB (namesS [e5L]) ⟨#[97]⟩ = true := by rw [e5_names]; kernel_rfl
theorem e5_touchB : touchesB (namesS [e5L]) ⟨#[98]⟩ = false := by rw [e5_names]; kernel_rfl
theorem e5_text : txt (textT []) = ⟨#[]⟩ := by kernel_rfl
theorem size1 {s : ByteArray} (h : s.size ≤ 100) : ∀ x ∈ [s], x.size ≤ maxLen := fun x hx => by simp at hx; subst hx; simp only [maxLen]; omega
theorem bare5 (w : World) (k : Int) {a b : ByteArray} (ha : a.size ≤ 100) (hb : b.size ≤ 100) : PrOk w ⟨⟨k, a, b, 0, [], []⟩, none, 0, 0, none, 0, 0⟩ :=
  ⟨Row.none, Row.none, Nat.le_refl _, Nat.le_refl _, Nat.zero_le _, Nat.zero_le _, (by simp only [maxLen]; omega), (by simp only [maxLen]; omega), by simp, by simp, (fun s hs => by simp at hs), (fun s hs => by simp at hs)⟩
theorem e5L_ok {w : World} {b : Nat} (h : Row w (some ⟨b, 0, none⟩) 1 [⟨#[120]⟩]) : PrOk w ⟨e5L, some ⟨b, 0, none⟩, 1, 1, none, 0, 0⟩ :=
  ⟨h, Row.none, Nat.le_refl _, Nat.le_refl _, (by show 1 ≤ 65536; omega), Nat.zero_le _, of_decide_eq_true rfl, of_decide_eq_true rfl, (by show (-9223372036854775808 : Int) ≤ 0; omega), (by show (0 : Int) ≤ 9223372036854775807; omega), size1 (of_decide_eq_true rfl), (fun s hs => by cases hs)⟩
theorem e5M_ok {w : World} {b c : Nat} (h : Row w (some ⟨b, 0, none⟩) 1 [⟨#[121]⟩]) (k : Row w (some ⟨c, 0, none⟩) 1 [⟨#[122]⟩]) : PrOk w ⟨e5M, some ⟨b, 0, none⟩, 1, 1, some ⟨c, 0, none⟩, 1, 1⟩ :=
  ⟨h, k, Nat.le_refl _, Nat.le_refl _, (by show 1 ≤ 65536; omega), (by show 1 ≤ 65536; omega), of_decide_eq_true rfl, of_decide_eq_true rfl, (by show (-9223372036854775808 : Int) ≤ 5; omega), (by show (5 : Int) ≤ 9223372036854775807; omega), size1 (of_decide_eq_true rfl), size1 (of_decide_eq_true rfl)⟩
theorem e5_first (w : World) : PsOk (((((w.alloc (.cells #[.string ⟨#[120]⟩] 9)).alloc (.cells #[.int .i64 0, .string ⟨#[97]⟩, .string ⟨#[]⟩, .int .i64 0, .slice (some ⟨w.heap.size, 0, none⟩) 1 1, .slice none 0 0] 70)).alloc (.cells #[.string ⟨#[121]⟩] 9)).alloc (.cells #[.string ⟨#[122]⟩] 9)).alloc (.cells #[.int .i64 0, .string ⟨#[97]⟩, .string ⟨#[]⟩, .int .i64 5, .slice (some ⟨w.heap.size + 1 + 1, 0, none⟩) 1 1, .slice (some ⟨w.heap.size + 1 + 1 + 1, 0, none⟩) 1 1] 70)) (some ⟨w.heap.size + 1, 0, none⟩) 1 [(⟨e5L, some ⟨w.heap.size, 0, none⟩, 1, 1, none, 0, 0⟩ : PrC)] ∧ PsAt (((((w.alloc (.cells #[.string ⟨#[120]⟩] 9)).alloc (.cells #[.int .i64 0, .string ⟨#[97]⟩, .string ⟨#[]⟩, .int .i64 0, .slice (some ⟨w.heap.size, 0, none⟩) 1 1, .slice none 0 0] 70)).alloc (.cells #[.string ⟨#[121]⟩] 9)).alloc (.cells #[.string ⟨#[122]⟩] 9)).alloc (.cells #[.int .i64 0, .string ⟨#[97]⟩, .string ⟨#[]⟩, .int .i64 5, .slice (some ⟨w.heap.size + 1 + 1, 0, none⟩) 1 1, .slice (some ⟨w.heap.size + 1 + 1 + 1, 0, none⟩) 1 1] 70)) (.slice (some ⟨w.heap.size + 1, 0, none⟩) 1 1) [e5L] ∧ PsAt (((((w.alloc (.cells #[.string ⟨#[120]⟩] 9)).alloc (.cells #[.int .i64 0, .string ⟨#[97]⟩, .string ⟨#[]⟩, .int .i64 0, .slice (some ⟨w.heap.size, 0, none⟩) 1 1, .slice none 0 0] 70)).alloc (.cells #[.string ⟨#[121]⟩] 9)).alloc (.cells #[.string ⟨#[122]⟩] 9)).alloc (.cells #[.int .i64 0, .string ⟨#[97]⟩, .string ⟨#[]⟩, .int .i64 5, .slice (some ⟨w.heap.size + 1 + 1, 0, none⟩) 1 1, .slice (some ⟨w.heap.size + 1 + 1 + 1, 0, none⟩) 1 1] 70)) (.slice (some ⟨w.heap.size + 1 + 1 + 1 + 1, 0, none⟩) 1 1) [e5M] ∧ Later w (((((w.alloc (.cells #[.string ⟨#[120]⟩] 9)).alloc (.cells #[.int .i64 0, .string ⟨#[97]⟩, .string ⟨#[]⟩, .int .i64 0, .slice (some ⟨w.heap.size, 0, none⟩) 1 1, .slice none 0 0] 70)).alloc (.cells #[.string ⟨#[121]⟩] 9)).alloc (.cells #[.string ⟨#[122]⟩] 9)).alloc (.cells #[.int .i64 0, .string ⟨#[97]⟩, .string ⟨#[]⟩, .int .i64 5, .slice (some ⟨w.heap.size + 1 + 1, 0, none⟩) 1 1, .slice (some ⟨w.heap.size + 1 + 1 + 1, 0, none⟩) 1 1] 70)) := by
  have hX : Row (((((w.alloc (.cells #[.string ⟨#[120]⟩] 9)).alloc (.cells #[.int .i64 0, .string ⟨#[97]⟩, .string ⟨#[]⟩, .int .i64 0, .slice (some ⟨w.heap.size, 0, none⟩) 1 1, .slice none 0 0] 70)).alloc (.cells #[.string ⟨#[121]⟩] 9)).alloc (.cells #[.string ⟨#[122]⟩] 9)).alloc (.cells #[.int .i64 0, .string ⟨#[97]⟩, .string ⟨#[]⟩, .int .i64 5, .slice (some ⟨w.heap.size + 1 + 1, 0, none⟩) 1 1, .slice (some ⟨w.heap.size + 1 + 1 + 1, 0, none⟩) 1 1] 70)) (some ⟨w.heap.size, 0, none⟩) 1 [⟨#[120]⟩] := (Row.lit w [⟨#[120]⟩] 9).later ((((Later.refl _).alloc _).alloc _).alloc _ |>.alloc _)
  have hY : Row (((((w.alloc (.cells #[.string ⟨#[120]⟩] 9)).alloc (.cells #[.int .i64 0, .string ⟨#[97]⟩, .string ⟨#[]⟩, .int .i64 0, .slice (some ⟨w.heap.size, 0, none⟩) 1 1, .slice none 0 0] 70)).alloc (.cells #[.string ⟨#[121]⟩] 9)).alloc (.cells #[.string ⟨#[122]⟩] 9)).alloc (.cells #[.int .i64 0, .string ⟨#[97]⟩, .string ⟨#[]⟩, .int .i64 5, .slice (some ⟨w.heap.size + 1 + 1, 0, none⟩) 1 1, .slice (some ⟨w.heap.size + 1 + 1 + 1, 0, none⟩) 1 1] 70)) (some ⟨w.heap.size + 1 + 1, 0, none⟩) 1 [⟨#[121]⟩] := by
    have := Row.lit ((w.alloc (.cells #[.string ⟨#[120]⟩] 9)).alloc (.cells #[.int .i64 0, .string ⟨#[97]⟩, .string ⟨#[]⟩, .int .i64 0, .slice (some ⟨w.heap.size, 0, none⟩) 1 1, .slice none 0 0] 70)) [⟨#[121]⟩] 9
    rw [show ((w.alloc (.cells #[.string ⟨#[120]⟩] 9)).alloc (.cells #[.int .i64 0, .string ⟨#[97]⟩, .string ⟨#[]⟩, .int .i64 0, .slice (some ⟨w.heap.size, 0, none⟩) 1 1, .slice none 0 0] 70)).heap.size = w.heap.size + 1 + 1 from by simp] at this
    exact this.later (((Later.refl _).alloc _).alloc _)
  have hZ : Row (((((w.alloc (.cells #[.string ⟨#[120]⟩] 9)).alloc (.cells #[.int .i64 0, .string ⟨#[97]⟩, .string ⟨#[]⟩, .int .i64 0, .slice (some ⟨w.heap.size, 0, none⟩) 1 1, .slice none 0 0] 70)).alloc (.cells #[.string ⟨#[121]⟩] 9)).alloc (.cells #[.string ⟨#[122]⟩] 9)).alloc (.cells #[.int .i64 0, .string ⟨#[97]⟩, .string ⟨#[]⟩, .int .i64 5, .slice (some ⟨w.heap.size + 1 + 1, 0, none⟩) 1 1, .slice (some ⟨w.heap.size + 1 + 1 + 1, 0, none⟩) 1 1] 70)) (some ⟨w.heap.size + 1 + 1 + 1, 0, none⟩) 1 [⟨#[122]⟩] := by
    have := Row.lit (((w.alloc (.cells #[.string ⟨#[120]⟩] 9)).alloc (.cells #[.int .i64 0, .string ⟨#[97]⟩, .string ⟨#[]⟩, .int .i64 0, .slice (some ⟨w.heap.size, 0, none⟩) 1 1, .slice none 0 0] 70)).alloc (.cells #[.string ⟨#[121]⟩] 9)) [⟨#[122]⟩] 9
    rw [show (((w.alloc (.cells #[.string ⟨#[120]⟩] 9)).alloc (.cells #[.int .i64 0, .string ⟨#[97]⟩, .string ⟨#[]⟩, .int .i64 0, .slice (some ⟨w.heap.size, 0, none⟩) 1 1, .slice none 0 0] 70)).alloc (.cells #[.string ⟨#[121]⟩] 9)).heap.size = w.heap.size + 1 + 1 + 1 from by simp] at this
    exact this.later ((Later.refl _).alloc _)
  have rL : RowK 6 (((((w.alloc (.cells #[.string ⟨#[120]⟩] 9)).alloc (.cells #[.int .i64 0, .string ⟨#[97]⟩, .string ⟨#[]⟩, .int .i64 0, .slice (some ⟨w.heap.size, 0, none⟩) 1 1, .slice none 0 0] 70)).alloc (.cells #[.string ⟨#[121]⟩] 9)).alloc (.cells #[.string ⟨#[122]⟩] 9)).alloc (.cells #[.int .i64 0, .string ⟨#[97]⟩, .string ⟨#[]⟩, .int .i64 5, .slice (some ⟨w.heap.size + 1 + 1, 0, none⟩) 1 1, .slice (some ⟨w.heap.size + 1 + 1 + 1, 0, none⟩) 1 1] 70)) (some ⟨w.heap.size + 1, 0, none⟩) 1 ([(⟨e5L, some ⟨w.heap.size, 0, none⟩, 1, 1, none, 0, 0⟩ : PrC)].map prL) := by
    have := row_one (w.alloc (.cells #[.string ⟨#[120]⟩] 9)) (⟨e5L, some ⟨w.heap.size, 0, none⟩, 1, 1, none, 0, 0⟩ : PrC) 70
    rw [show (w.alloc (.cells #[.string ⟨#[120]⟩] 9)).heap.size = w.heap.size + 1 from by simp] at this
    exact this.later ((((Later.refl _).alloc _).alloc _).alloc _)
  have rM : RowK 6 (((((w.alloc (.cells #[.string ⟨#[120]⟩] 9)).alloc (.cells #[.int .i64 0, .string ⟨#[97]⟩, .string ⟨#[]⟩, .int .i64 0, .slice (some ⟨w.heap.size, 0, none⟩) 1 1, .slice none 0 0] 70)).alloc (.cells #[.string ⟨#[121]⟩] 9)).alloc (.cells #[.string ⟨#[122]⟩] 9)).alloc (.cells #[.int .i64 0, .string ⟨#[97]⟩, .string ⟨#[]⟩, .int .i64 5, .slice (some ⟨w.heap.size + 1 + 1, 0, none⟩) 1 1, .slice (some ⟨w.heap.size + 1 + 1 + 1, 0, none⟩) 1 1] 70)) (some ⟨w.heap.size + 1 + 1 + 1 + 1, 0, none⟩) 1 ([(⟨e5M, some ⟨w.heap.size + 1 + 1, 0, none⟩, 1, 1, some ⟨w.heap.size + 1 + 1 + 1, 0, none⟩, 1, 1⟩ : PrC)].map prL) := by
    have := row_one ((((w.alloc (.cells #[.string ⟨#[120]⟩] 9)).alloc (.cells #[.int .i64 0, .string ⟨#[97]⟩, .string ⟨#[]⟩, .int .i64 0, .slice (some ⟨w.heap.size, 0, none⟩) 1 1, .slice none 0 0] 70)).alloc (.cells #[.string ⟨#[121]⟩] 9)).alloc (.cells #[.string ⟨#[122]⟩] 9)) (⟨e5M, some ⟨w.heap.size + 1 + 1, 0, none⟩, 1, 1, some ⟨w.heap.size + 1 + 1 + 1, 0, none⟩, 1, 1⟩ : PrC) 70
    rw [show ((((w.alloc (.cells #[.string ⟨#[120]⟩] 9)).alloc (.cells #[.int .i64 0, .string ⟨#[97]⟩, .string ⟨#[]⟩, .int .i64 0, .slice (some ⟨w.heap.size, 0, none⟩) 1 1, .slice none 0 0] 70)).alloc (.cells #[.string ⟨#[121]⟩] 9)).alloc (.cells #[.string ⟨#[122]⟩] 9)).heap.size = w.heap.size + 1 + 1 + 1 + 1 from by simp] at this
    exact this
  have oL : PsOk (((((w.alloc (.cells #[.string ⟨#[120]⟩] 9)).alloc (.cells #[.int .i64 0, .string ⟨#[97]⟩, .string ⟨#[]⟩, .int .i64 0, .slice (some ⟨w.heap.size, 0, none⟩) 1 1, .slice none 0 0] 70)).alloc (.cells #[.string ⟨#[121]⟩] 9)).alloc (.cells #[.string ⟨#[122]⟩] 9)).alloc (.cells #[.int .i64 0, .string ⟨#[97]⟩, .string ⟨#[]⟩, .int .i64 5, .slice (some ⟨w.heap.size + 1 + 1, 0, none⟩) 1 1, .slice (some ⟨w.heap.size + 1 + 1 + 1, 0, none⟩) 1 1] 70)) (some ⟨w.heap.size + 1, 0, none⟩) 1 [(⟨e5L, some ⟨w.heap.size, 0, none⟩, 1, 1, none, 0, 0⟩ : PrC)] := ⟨rL, fun x hx => by simp at hx; subst hx; exact e5L_ok hX⟩
  have oM : PsOk (((((w.alloc (.cells #[.string ⟨#[120]⟩] 9)).alloc (.cells #[.int .i64 0, .string ⟨#[97]⟩, .string ⟨#[]⟩, .int .i64 0, .slice (some ⟨w.heap.size, 0, none⟩) 1 1, .slice none 0 0] 70)).alloc (.cells #[.string ⟨#[121]⟩] 9)).alloc (.cells #[.string ⟨#[122]⟩] 9)).alloc (.cells #[.int .i64 0, .string ⟨#[97]⟩, .string ⟨#[]⟩, .int .i64 5, .slice (some ⟨w.heap.size + 1 + 1, 0, none⟩) 1 1, .slice (some ⟨w.heap.size + 1 + 1 + 1, 0, none⟩) 1 1] 70)) (some ⟨w.heap.size + 1 + 1 + 1 + 1, 0, none⟩) 1 [(⟨e5M, some ⟨w.heap.size + 1 + 1, 0, none⟩, 1, 1, some ⟨w.heap.size + 1 + 1 + 1, 0, none⟩, 1, 1⟩ : PrC)] := ⟨rM, fun x hx => by simp at hx; subst hx; exact e5M_ok hY hZ⟩
  exact ⟨oL, ⟨_, _, _, _, rfl, Nat.le_refl _, oL, rfl⟩, ⟨_, _, _, _, rfl, Nat.le_refl _, oM, rfl⟩, ((((((Later.refl w).alloc _).alloc _).alloc _).alloc _).alloc _)⟩
theorem e5_two (w : World) : PsAt (w.alloc (.cells #[.int .i64 1, .string ⟨#[97]⟩, .string ⟨#[]⟩, .int .i64 0, .slice none 0 0, .slice none 0 0, .int .i64 2, .string ⟨#[98]⟩, .string ⟨#[]⟩, .int .i64 0, .slice none 0 0, .slice none 0 0] 70)) (.slice (some ⟨w.heap.size, 0, none⟩) 2 2) [e5A, e5B] := by
  refine ⟨_, _, _, [⟨e5A, none, 0, 0, none, 0, 0⟩, ⟨e5B, none, 0, 0, none, 0, 0⟩], rfl, Nat.le_refl _, ⟨⟨rfl, fun cs hcs => ?_, fun _ => ⟨_, _, rfl, fun j i cs v hj hi => ?_⟩⟩, fun z hz => ?_⟩, rfl⟩
  · simp at hcs
    rcases hcs with rfl | rfl <;> rfl
  · have hb : (w.alloc (.cells #[.int .i64 1, .string ⟨#[97]⟩, .string ⟨#[]⟩, .int .i64 0, .slice none 0 0, .slice none 0 0, .int .i64 2, .string ⟨#[98]⟩, .string ⟨#[]⟩, .int .i64 0, .slice none 0 0, .slice none 0 0] 70)).heap[w.heap.size]? = some (.cells #[.int .i64 1, .string ⟨#[97]⟩, .string ⟨#[]⟩, .int .i64 0, .slice none 0 0, .slice none 0 0, .int .i64 2, .string ⟨#[98]⟩, .string ⟨#[]⟩, .int .i64 0, .slice none 0 0, .slice none 0 0] 70 (0, 0)) := heap_alloc_new w _
    have key : ∀ (k : Nat) v, (prL ⟨e5A, none, 0, 0, none, 0, 0⟩ ++ prL ⟨e5B, none, 0, 0, none, 0, 0⟩)[k]? = some v → (w.alloc (.cells #[.int .i64 1, .string ⟨#[97]⟩, .string ⟨#[]⟩, .int .i64 0, .slice none 0 0, .slice none 0 0, .int .i64 2, .string ⟨#[98]⟩, .string ⟨#[]⟩, .int .i64 0, .slice none 0 0, .slice none 0 0] 70)).cell? ⟨w.heap.size, k, none⟩ = some v := fun k v hk => by
      simp only [World.cell?, hb]
      show (prL ⟨e5A, none, 0, 0, none, 0, 0⟩ ++ prL ⟨e5B, none, 0, 0, none, 0, 0⟩).toArray[k]? = some v
      rw [List.getElem?_toArray]
      exact hk
    match j, hj with
    | 0, hj =>
      simp at hj; subst hj
      have hil : i < (prL ⟨e5A, none, 0, 0, none, 0, 0⟩).length := (List.getElem?_eq_some_iff.1 hi).1
      rw [Nat.zero_mul, Nat.zero_add]
      exact key i v (by rw [List.getElem?_append_left hil]; exact hi)
    | 1, hj =>
      simp at hj; subst hj
      rw [Nat.one_mul, Nat.zero_add]
      exact key (6 + i) v (by rw [List.getElem?_append_right (by show 6 ≤ 6 + i; omega), show 6 + i - (prL ⟨e5A, none, 0, 0, none, 0, 0⟩).length = i from by show 6 + i - 6 = i; omega]; exact hi)
  · simp at hz
    rcases hz with rfl | rfl
    · exact bare5 _ 1 (of_decide_eq_true rfl) (of_decide_eq_true rfl)
    · exact bare5 _ 2 (of_decide_eq_true rfl) (of_decide_eq_true rfl)
theorem own_empty (w : World) (t : TypeId) : OwnPs t w (w.alloc (.cells #[] t)) (.slice (some ⟨w.heap.size, 0, none⟩) 0 0) [] :=
  ⟨⟨⟨rfl, .inr ⟨_, 0, #[], rfl, Nat.le_refl _, heap_alloc_new w _, Nat.le_refl _, Nat.zero_le _, rfl, rfl⟩⟩, (fun _ h => by cases h), (Later.refl w).alloc _⟩, (fun x hx => by cases hx), fun x hx => by cases hx⟩

set_option maxRecDepth 100000 in
set_option maxHeartbeats 400000 in
theorem aliveFn_any (k : Nat) (y : PrC) (w : World) : Calls Tryz.prog 45 #[.int .i64 (k : Nat), prV y] w (Says (k == 1) w) := by
  unfold prV
  have hl : Later w (w.alloc (.cells #[.int .i64 y.v.kind, .string y.v.name, .string y.v.to, .int .i64 y.v.place, .slice y.A y.n y.c, .slice y.B y.m y.d] 70)) := (Later.refl w).alloc _
  have HL := Lib.hid hl; clear hl
  have HB : Hid (decide ((k : Int) = 1) = (k == 1)) := Lib.hid (by rw [Bool.eq_iff_iff]; simp; omega)
  go_enter Tryz.func45, Tryz.ntmps45
  go_wp2
  go_ret
  exact ⟨by rw [← HB.out]; rfl, HL.out⟩

end Go.Proofs.YtejkgkgjgojlkaaGreatDoor
