import Derived.Test.YtlnjhimbgckdcaaGreatPk40
import Derived.Test.YtlnjhimbgckdcaaGreatPk38
import Derived.Test.YtlnjhimbgckdcaaGreatPk18
import Derived.Test.YtlnjhimbgckdcaaGreatPk39
import Derived.Deep.LoopGhost
import Derived.Deep.QuietTactic
import Derived.BigQuiet
import Derived.Lib.Hide
import Derived.Test.YtlnjhimbgckdcaaGreatPk41

/-
  What the document's own Past of patches comes to, as a call.
-/
namespace Go.Proofs.YtlnjhimbgckdcaaGreat
open Go.RowKit Go.Maps

def GivesRp (ls : List PaC) (q : PaC) (r : Option (Pa × List Pa)) (w : World) (e : Ending) (w' : World) : Prop :=
  ∃ (y : PaC) (v : Value) (zs : List PaC), e = .returned (.tuple #[paV y, v, .bool r.isSome]) /\ PaOk w' y /\ OwnNs 25 w w' v zs /\ (r = none -> y = zeroN /\ v = .slice none 0 0 /\ zs = []) /\ (∀ c, r = some c -> y.v = c.1 /\ valsN zs = c.2) /\ ∀ k, k < w.heap.size -> (∀ x ∈ ls, AwayN k x) -> AwayN k q -> AwayN k y /\ ∀ z ∈ zs, AwayN k z
theorem results_rpast {P : Program} {fn : Func} (h : fn.results = #[.cell 4 25, .tmp 5, .tmp 6]) (hP : P = Tryz.prog) (tmps : Array Value) (w : World) (g4 : Nat) (y : PaC) (u b : Value) {t : TypeId}
    (h4 : tmps.getD 4 undef = .pointer (some ⟨g4, 0, none⟩)) (h5 : tmps.getD 5 undef = u) (h6 : tmps.getD 6 undef = b) (c4 : BoxAt w g4 (paL y).toArray t) : (results fn tmps).run P w = .ok (.tuple #[paV y, u, b]) w := by
  subst hP
  have p4 : tmps[4]?.getD undef = .pointer (some ⟨g4, 0, none⟩) := by simpa using h4
  have p5 : tmps[5]?.getD undef = u := by simpa using h5
  have p6 : tmps[6]?.getD undef = b := by simpa using h6
  have r4 := run_loadVar_row (P := Tryz.prog) w g4 t 25 (paL y).toArray (0, 0) _ c4 Tryz.underlying25 rfl Tryz.rpatchSize
  simp [results, h, p4, p5, p6, asAddr, r4, paV, paL]
theorem wpList_store_boxN {ops : Array Oper} {rest : List Oper} {op : Oper} {a : Act} {w : World} {Q : Exit -> Act -> World -> Prop} (hgd : op.guard = none) (hd : op.dst = none) (T : TypeId) (j k : Tmp) (ho : op.op = .store T (.tmp j) (.tmp k)) (hi : (Tryz.prog.info? T).map (·.size) = some 4) (g : Nat) (x : PaC) (hj : a.eval (.tmp j) = .pointer (some ⟨g, 0, none⟩)) (hv : a.eval (.tmp k) = paV x)
    {cs : Array Value} {t : TypeId} (hb : BoxAt w g cs t) (hs : cs.size = 4) (h : ∀ w', BoxAt w' g (paL x).toArray t -> Turned g w w' -> wpList Tryz.prog ops Q rest a w') : wpList Tryz.prog ops Q (op :: rest) a w := by
  refine wpList_store_row hgd T (.tmp j) (.tmp k) ho g (paL x).toArray hj (hv.trans (paV_is x)) t cs hb hi hs (paL_one x) ?_
  rw [hd, put_none]
  refine h _ ?_ ?_
  · exact setRow_heap w g cs _ t _ hb
  · exact ⟨rfl, rfl, rfl, by simp, fun i hi hne => setRow_other w g i _ (fun e => hne (by rw [e]))⟩
structure RpI (w : World) (ls : List PaC) (q : PaC) (i : Nat) (V : World) (v : Value) (y : PaC) (zs : List PaC) : Prop where
  b3 : BoxAt V w.heap.size (paL y).toArray 25
  b4 : BoxAt V (w.heap.size + 1) #[.int .i64 0, .string ⟨#[]⟩, .slice none 0 0, .slice none 0 0] 25
  oy : PaOk V y
  ov : OwnNs 25 w V v zs
  ub : ∀ k, v.ownBlock = some k -> w.heap.size + 1 < k
  told : pastN ((valsN ls).drop i) q.v = some (y.v, valsN zs)
  len : zs.length + i = ls.length
  mix : ∀ k, k < w.heap.size + 2 -> (∀ x ∈ ls, AwayN k x) -> AwayN k q -> AwayN k y /\ ∀ z ∈ zs, AwayN k z
theorem rpastN_step {ls : List Pa} {q y : Pa} {zs : List Pa} {i : Nat} {x : Pa} (h : pastN (ls.drop (i + 1)) q = some (y, zs)) (hx : ls[i]? = some x) : pastN (ls.drop i) q = (swapN x y).map fun r => (r.1, r.2 :: zs) := by
  have hlt := (List.getElem?_eq_some_iff.1 hx).1
  have he := (List.getElem?_eq_some_iff.1 hx).2
  rw [List.drop_eq_getElem_cons hlt, he]
  simp only [pastN, h, Option.bind_some]
theorem rpastN_none {q : Pa} : ∀ {A B : List Pa}, pastN B q = none -> pastN (A ++ B) q = none
  | [], _, h => h
  | p :: A, B, h => by simp only [List.cons_append, pastN, rpastN_none (A := A) h, Option.bind_none]

set_option maxRecDepth 100000 in
set_option maxHeartbeats 1600000 in
theorem refPast7_any (A : Option Addr) (n c : Nat) (ls : List PaC) (q : PaC) (w : World) (hls : NsOk w A n ls) (hqo : PaOk w q) (hn : n <= 65536) :
    Calls Tryz.prog 17 #[.slice A n c, paV q] w (GivesRp ls q (pastN (valsN ls) q.v) w) := by
  have hlen := hls.len
  have HX := Lib.hid hls; have HQ := Lib.hid hqo
  have hlb : Later w ((w.alloc (.cells #[.int .i64 q.v.id, .string q.v.note, .slice q.D q.nd q.cd, .slice q.L q.nl q.cl] 25)).alloc (.cells #[.int .i64 0, .string ⟨#[]⟩, .slice none 0 0, .slice none 0 0] 25)) := ((Later.refl w).alloc _).alloc _
  have hb3 : BoxAt ((w.alloc (.cells #[.int .i64 q.v.id, .string q.v.note, .slice q.D q.nd q.cd, .slice q.L q.nl q.cl] 25)).alloc (.cells #[.int .i64 0, .string ⟨#[]⟩, .slice none 0 0, .slice none 0 0] 25)) w.heap.size (paL q).toArray 25 := (BoxAt.made w (paL q).toArray 25).alloc _
  have hb4 : BoxAt ((w.alloc (.cells #[.int .i64 q.v.id, .string q.v.note, .slice q.D q.nd q.cd, .slice q.L q.nl q.cl] 25)).alloc (.cells #[.int .i64 0, .string ⟨#[]⟩, .slice none 0 0, .slice none 0 0] 25)) (w.heap.size + 1) #[.int .i64 0, .string ⟨#[]⟩, .slice none 0 0, .slice none 0 0] 25 := by
    have := BoxAt.made (w.alloc (.cells #[.int .i64 q.v.id, .string q.v.note, .slice q.D q.nd q.cd, .slice q.L q.nl q.cl] 25)) #[.int .i64 0, .string ⟨#[]⟩, .slice none 0 0, .slice none 0 0] 25
    rw [World.size_alloc] at this
    exact this
  have hi0 : Hid (RpI w ls q n ((w.alloc (.cells #[.int .i64 q.v.id, .string q.v.note, .slice q.D q.nd q.cd, .slice q.L q.nl q.cl] 25)).alloc (.cells #[.int .i64 0, .string ⟨#[]⟩, .slice none 0 0, .slice none 0 0] 25)) (.slice none 0 0) q []) := by
    refine ⟨hb3, hb4, hqo.later hlb, OwnNs.nil hlb, (fun k h => by cases h), ?_, by simp [hlen], fun k _ _ h => ⟨h, fun z hz => by cases hz⟩⟩
    rw [List.drop_of_length_le (by rw [valsN_length, hlen]; exact Nat.le_refl _)]
    rfl
  clear hls hqo hlb hb3 hb4
  obtain ⟨i0, hi, hz0, hz1, hz2⟩ := info_parts Tryz.rpatchInfo
  unfold paV
  go_enter Tryz.func17, Tryz.ntmps17
  go_wp2
  go_loopg [7, 8] (n + 1) (fun g s7 s8 wr => ∃ (i : Nat) (y : PaC) (v : Value) (zs : List PaC), i <= n /\ i <= g /\ s8 = .int .i64 ((i : Int) - 1) /\ s7 = v /\ Hid (RpI w ls q i wr v y zs))
  case atStart => exact ⟨n, q, _, [], Nat.le_refl _, by omega, rfl, rfl, hi0⟩
  case round =>
    obtain ⟨i, y, v, zs, hin, hig, rfl, hv, hI⟩ := hrel
    obtain rfl := hv.symm
    clear hv
    rcases i with _ | i
    · rw [show ((0 : Nat) : Int) - 1 = -1 from rfl]
      have H := hI.out
      have d30 : wr.cell? ⟨w.heap.size, 0, none⟩ = some (.int .i64 y.v.id) := H.b3.cell rfl
      have d31 : wr.cell? ⟨w.heap.size, 1, none⟩ = some (.string y.v.note) := H.b3.cell rfl
      have d32 : wr.cell? ⟨w.heap.size, 2, none⟩ = some (.slice y.D y.nd y.cd) := H.b3.cell rfl
      have d33 : wr.cell? ⟨w.heap.size, 3, none⟩ = some (.slice y.L y.nl y.cl) := H.b3.cell rfl
      have HB4 := Lib.hid H.b4
      clear H
      go_wp2_with (with_reducible show wpList _ _ _ ({ dst := none, op := Op.store 25 _ _, type := _, pos := _, after := _, guard := _ } :: _) _ _; refine Hid.out ?_)
      refine Lib.hid (wpList_store_boxN rfl rfl 25 _ _ rfl Tryz.rpatchSize (w.heap.size + 1) y rfl rfl HB4.out rfl ?_)
      clear d30 d31 d32 d33
      intro w6 hb6 ht6
      have HB6 := Lib.hid hb6; have HT6 := Lib.hid ht6
      clear hb6 ht6 HB4
      go_wp2
      refine bodyPost_ret (results_rpast rfl rfl _ _ (w.heap.size + 1) y _ _ rfl rfl rfl HB6.out) rfl ?_
      have H := hI.out
      have told := H.told
      rw [List.drop_zero] at told
      have haw : ∀ x ∈ ls, AwayN (w.heap.size + 1) x := fun x hx => (HX.out.each x hx).away (by omega)
      have hm := H.mix (w.heap.size + 1) (by omega) haw (HQ.out.away (by omega))
      unfold GivesRp
      rw [told]
      exact ⟨y, v, zs, rfl, H.oy.off HT6.out hm.1, H.ov.other HT6.out (fun e => by have := H.ub _ e; omega) (fun z hz => hm.2 z hz) (H.ov.later.turn HT6.out (by omega)), (fun e => by cases e), (fun c e => by cases e; exact ⟨rfl, rfl⟩), fun k hk h1 h2 => H.mix k (by omega) h1 h2⟩
    · rw [show (((i + 1 : Nat) : Int) - 1) = (i : Nat) from by omega]
      obtain ⟨b, o, x, rfl, hz, hok, g0, g1, g2, g3⟩ := (HX.out.later hI.out.ov.later).get (show i < n by omega)
      clear g0 g1 g2 g3
      have hxv : (valsN ls)[i]? = some x.v := valsN_at hz
      have hst := rpastN_step hI.out.told hxv
      have hrow := (HX.out.later hI.out.ov.later).row
      have H := hI.out
      generalize hsw : swapN x.v y.v = r at hst
      go_upto_region 5 with fail
      refine rpast_region (r := r) (xs := ls) (x := x) (q := y) (k := i) rfl (by kernel_rfl) ⟨_, rfl, rfl, rfl, rfl, by kernel_rfl⟩ ⟨_, rfl, rfl, rfl, rfl, by kernel_rfl⟩ ⟨_, rfl, rfl, rfl, rfl, by kernel_rfl⟩ ⟨_, rfl, rfl, rfl, rfl, by kernel_rfl⟩ ⟨_, rfl, rfl, rfl, rfl, by kernel_rfl⟩ ⟨_, rfl, rfl, rfl, rfl, by kernel_rfl⟩ ⟨_, rfl, rfl, rfl, rfl, by kernel_rfl⟩ ⟨_, rfl, rfl, rfl, rfl, by kernel_rfl⟩ ⟨_, rfl, rfl, rfl, rfl, by kernel_rfl⟩ ⟨_, rfl, rfl, rfl, rfl, by kernel_rfl⟩ ⟨_, rfl, rfl, rfl, rfl, by kernel_rfl⟩ ⟨_, rfl, rfl, rfl, rfl, by kernel_rfl⟩ ⟨_, rfl, rfl, rfl, rfl, by kernel_rfl⟩ ⟨_, rfl, rfl, rfl, rfl, by kernel_rfl⟩ ⟨_, rfl, rfl, rfl, rfl, by kernel_rfl⟩ (of_decide_eq_true rfl) rfl rfl rfl hrow (by omega) hz H.b3 hok H.oy hsw (fun D a V so e9 e10 e11 st => ?_)
      obtain ⟨hb8, hb9⟩ := st.boxes
      have hg8 := (st.b8 rfl).1; have hg9 := (st.b9 rfl).1
      have hne := st.ne rfl rfl
      obtain ⟨oa, ob, ht, hno, hyes⟩ := st.sw (by decide)
      have hmix := st.m (by decide)
      have ha := so.is
      simp only [List.foldl_cons, List.foldl_nil] at ha
      rw [e9, e10, e11, ht] at ha
      generalize a.eval (.tmp 20) = y20 at ha
      generalize a.eval (.tmp 21) = y21 at ha
      generalize a.eval (.tmp 22) = y22 at ha
      generalize a.eval (.tmp 23) = y23 at ha
      generalize a.eval (.tmp 24) = y24 at ha
      generalize a.eval (.tmp 25) = y25 at ha
      generalize a.eval (.tmp 19) = y19 at ha
      generalize a.eval (.tmp 26) = y26 at ha
      generalize a.eval (.tmp 27) = y27 at ha
      generalize a.eval (.tmp 28) = y28 at ha
      have hlt3 := H.b3.lt; have hlt4 := H.b4.lt
      have HL := Lib.hid st.later
      have ax3 := (HX.out.each x (List.mem_of_getElem? hz)).away (Nat.le_refl w.heap.size); have ax4 := (HX.out.each x (List.mem_of_getElem? hz)).away (show w.heap.size <= w.heap.size + 1 by omega)
      have hm3 := H.mix w.heap.size (by omega) (fun x hx => (HX.out.each x hx).away (by omega)) (HQ.out.away (by omega))
      have hm4 := H.mix (w.heap.size + 1) (by omega) (fun x hx => (HX.out.each x hx).away (by omega)) (HQ.out.away (by omega))
      clear so e9 e10 e11
      subst ha
      simp only [Act.put, List.setIfInBounds_toArray, List.set_cons_zero, List.set_cons_succ]
      cases r with
      | none =>
        have HN := Lib.hid (rpastN_none (A := (valsN ls).take i) (B := (valsN ls).drop i) hst)
        rw [List.take_append_drop] at HN
        have HB4 := Lib.hid (H.b4.later HL.out)
        have HW := Lib.hid (H.ov.later.trans HL.out)
        clear hst hsw hok hz hxv hrow H hI oa ob ht hno hyes hmix hb8 hb9 st ax3 ax4 hm3 hm4
        go_wp2_with (with_reducible show wpList _ _ _ ({ dst := none, op := Op.store 25 _ _, type := _, pos := _, after := _, guard := _ } :: _) _ _; refine Hid.out ?_)
        refine Lib.hid (wpList_store_boxN rfl rfl 25 _ _ rfl Tryz.rpatchSize (w.heap.size + 1) zeroN rfl rfl HB4.out rfl ?_)
        intro w6 hb6 ht6
        have HB6 := Lib.hid hb6; have HT6 := Lib.hid ht6
        clear hb6 ht6
        go_wp2
        refine bodyPost_ret (results_rpast rfl rfl _ _ (w.heap.size + 1) zeroN _ _ rfl rfl rfl HB6.out) rfl ?_
        unfold GivesRp
        rw [HN.out]
        exact ⟨zeroN, _, [], rfl, zeroN_ok _, OwnNs.nil (HW.out.turn HT6.out (by omega)), (fun _ => ⟨rfl, rfl, rfl⟩), (fun c e => by cases e), fun k _ _ _ => ⟨zeroN_away k, fun z hz => by cases hz⟩⟩
      | some r =>
        obtain ⟨hy1, hy2⟩ := hyes r rfl
        have ha3 := hmix w.heap.size hlt3 ax3 hm3.1; have ha4 := hmix (w.heap.size + 1) hlt4 ax4 hm4.1
        have HB8 := Lib.hid hb8; have HB9 := Lib.hid hb9; have HOA := Lib.hid oa; have HOB := Lib.hid ob
        have HB3 := Lib.hid (H.b3.later HL.out); have HB4 := Lib.hid (H.b4.later HL.out); have HOV := Lib.hid (H.ov.on HL.out)
        have HST := Lib.hid hst; have HM := Lib.hid hmix; have HA3 := Lib.hid ha3; have HA4 := Lib.hid ha4; have HM3 := Lib.hid hm3.2; have HM4 := Lib.hid hm4.2; have HY1 := Lib.hid hy1; have HY2 := Lib.hid hy2
        have HUB := Lib.hid H.ub; have HLEN := Lib.hid H.len; have HMX := Lib.hid H.mix; have HXM := Lib.hid (List.mem_of_getElem? hz)
        have HZL : Hid (Later w wr) := H.ov.later
        clear hst hsw hok hz hxv hrow H hI oa ob ht hno hyes hmix hb8 hb9 st ax3 ax4 hm3 hm4 ha3 ha4 hy1 hy2
        have d80 : V.cell? ⟨D.g8, 0, none⟩ = some (.int .i64 D.y.v.id) := HB8.out.cell rfl
        have d81 : V.cell? ⟨D.g8, 1, none⟩ = some (.string D.y.v.note) := HB8.out.cell rfl
        have d82 : V.cell? ⟨D.g8, 2, none⟩ = some (.slice D.y.D D.y.nd D.y.cd) := HB8.out.cell rfl
        have d83 : V.cell? ⟨D.g8, 3, none⟩ = some (.slice D.y.L D.y.nl D.y.cl) := HB8.out.cell rfl
        go_wp2_with (with_reducible show wpList _ _ _ ({ dst := none, op := Op.store 25 _ _, type := _, pos := _, after := _, guard := _ } :: _) _ _; refine Hid.out ?_)
        refine Lib.hid (wpList_store_boxN rfl rfl 25 _ _ rfl Tryz.rpatchSize w.heap.size D.y rfl rfl HB3.out rfl ?_)
        clear d80 d81 d82 d83
        intro w6 hb6 ht6
        have HB6 := Lib.hid hb6; have HT6 := Lib.hid ht6
        have H94 := Lib.hid (HB9.out.other ht6 (by omega)); have H44 := Lib.hid (HB4.out.other ht6 (by omega)); have HOA6 := Lib.hid (HOA.out.off ht6 HA3.out.1); have HOB6 := Lib.hid (HOB.out.off ht6 HA3.out.2)
        have HOV6 := Lib.hid (HOV.out.other ht6 (fun e => by have := HUB.out _ e; omega) (fun z hz => HM3.out z hz) (HOV.out.later.turn ht6 (by omega)))
        have hs6 : w.heap.size + 1 < w6.heap.size := by have h1 := ht6.le; have h2 := HL.out.le; omega
        clear hb6 ht6 HB8 HB9 HB3 HB4 HOA HOB HOV
        obtain ⟨Av, cv, rfl, hcv, hnv⟩ := HOV6.out.row
        have HNV := Lib.hid hnv
        have hlz : zs.length <= 65536 := by have := HLEN.out; omega
        have HO1 := Lib.hid (OwnNs.one (e := 25) (w0 := w) HOV6.out.later HOB6.out)
        unfold paL at HO1
        have HBLK : Hid (∀ k, (Value.slice (some ⟨w6.heap.size, 0, none⟩) 1 1).ownBlock = some k -> k = w6.heap.size) := fun k e => by simp only [Value.ownBlock, Option.some.injEq] at e; exact e.symm
        clear hcv hnv
        have d90 : w6.cell? ⟨D.g9, 0, none⟩ = some (.int .i64 D.z.v.id) := H94.out.cell rfl
        have d91 : w6.cell? ⟨D.g9, 1, none⟩ = some (.string D.z.v.note) := H94.out.cell rfl
        have d92 : w6.cell? ⟨D.g9, 2, none⟩ = some (.slice D.z.D D.z.nd D.z.cd) := H94.out.cell rfl
        have d93 : w6.cell? ⟨D.g9, 3, none⟩ = some (.slice D.z.L D.z.nl D.z.cl) := H94.out.cell rfl
        go_wp2_with (at_builtin; refine wpList_append_ns5 rfl _ _ 39 rfl i0 _ 72 Tryz.underlying39 hi hz0 hz1 hz2 rfl HO1.out rfl _ _ _ zs rfl (HNV.out.later ((Later.refl _).alloc _)).row (HNV.out.later ((Later.refl _).alloc _)).each (fun z hz g hg => by have := HBLK.out g hg; exact (HNV.out.each z hz).away (by omega)) (by simp; omega) (by omega) ?_; intro v7 w7 hown7 hg7 hb7; have HO7 := Lib.hid hown7; have HG7 := Lib.hid hg7; have HB7 := Lib.hid hb7; clear hown7 hg7 hb7)
        clear d90 d91 d92 d93
        go_roundg i
        case measure => omega
        case rel =>
          have hl67 : Later w6 w7 := ((Later.refl w6).alloc _).turn (B := w6.heap.size) HG7.out (Nat.le_refl _)
          refine ⟨i, D.y, v7, _, by omega, Nat.le_refl _, rfl, rfl, HB6.out.later hl67, H44.out.later hl67, HOA6.out.later hl67, HO7.out, ?_, ?_, ?_, ?_⟩
          · intro k hk
            rcases HB7.out with h | h
            · have := HBLK.out k (by rw [← h]; exact hk); omega
            · rw [h] at hk; cases hk; simp only [World.size_alloc]; omega
          · rw [HST.out]
            simp only [Option.map_some, List.singleton_append, valsN, List.map_cons]
            rw [HY1.out, HY2.out]
          · simp only [List.length_append, List.length_singleton]
            have := HLEN.out
            omega
          · intro k hk h1 h2
            have hm := HMX.out k hk h1 h2
            have := HM.out k (by have := HZL.out.le; omega) (h1 _ HXM.out) hm.1
            refine ⟨this.1, fun z hz => ?_⟩
            rcases List.mem_append.1 hz with h | h
            · simp at h; subst h; exact this.2
            · exact hm.2 z h

end Go.Proofs.YtlnjhimbgckdcaaGreat

/-
  What the law NamedPast comes to, as a call.
-/
namespace Go.Proofs.YtlnjhimbgckdcaaGreat
open Go.RowKit Go.Maps

set_option maxRecDepth 100000 in
set_option maxHeartbeats 1600000 in
theorem namedPast_walk (A : Option Addr) (n c : Nat) (xs : List PaC) (q : PaC) (w : World) (hx : CameNs w A n c xs) (hq : CameN w q) (hwt : weightNs xs + n + weightN q + 1 <= 1048576) : Calls Tryz.prog 4 #[.slice A n c, paV q] w (Says true w) := by
  have hl1 : Later w (w.alloc (.cells #[.int .i64 q.v.id, .string q.v.note, .slice q.D q.nd q.cd, .slice q.L q.nl q.cl] 25)) := (Later.refl w).alloc _
  have HB3 : Hid (BoxAt (w.alloc (.cells #[.int .i64 q.v.id, .string q.v.note, .slice q.D q.nd q.cd, .slice q.L q.nl q.cl] 25)) w.heap.size (paL q).toArray 25) := BoxAt.made w (paL q).toArray 25
  have HX := Lib.hid hx; have HQ := Lib.hid hq; have HL1 := Lib.hid hl1
  have hxl := hx.len
  have HWT := Lib.hid hwt
  clear hx hq hl1 hwt
  unfold paV
  go_enter Tryz.func4, Tryz.ntmps4
  go_upto_region 1 with fail
  refine nmPs1 rfl (by kernel_rfl) ⟨_, rfl, rfl, rfl, rfl, by kernel_rfl⟩ ⟨_, rfl, rfl, rfl, rfl, by kernel_rfl⟩ ⟨_, rfl, rfl, rfl, rfl, by kernel_rfl⟩ ⟨_, rfl, rfl, rfl, rfl, by kernel_rfl⟩ ⟨_, rfl, rfl, rfl, rfl, by kernel_rfl⟩ ⟨_, rfl, rfl, rfl, rfl, by kernel_rfl⟩ ⟨_, rfl, rfl, rfl, rfl, by kernel_rfl⟩ ⟨_, rfl, rfl, rfl, rfl, by kernel_rfl⟩ ⟨_, rfl, rfl, rfl, rfl, by kernel_rfl⟩ ⟨_, rfl, rfl, rfl, rfl, by kernel_rfl⟩ ⟨_, rfl, rfl, rfl, rfl, by kernel_rfl⟩ (of_decide_eq_true rfl) (A := A) (n := n) (c := c) (xs := xs) (q := q) rfl rfl (HX.out.later HL1.out) (HQ.out.later HL1.out) HWT.out HB3.out (fun a w2 so hl2 er => ?_)
  have ha := so.is
  simp only [List.foldl_cons, List.foldl_nil] at ha
  rw [er] at ha
  generalize a.eval (.tmp 11) = y11 at ha
  generalize a.eval (.tmp 12) = y12 at ha
  generalize a.eval (.tmp 13) = y13 at ha
  generalize a.eval (.tmp 14) = y14 at ha
  generalize a.eval (.tmp 15) = y15 at ha
  generalize a.eval (.tmp 16) = y16 at ha
  generalize a.eval (.tmp 17) = y17 at ha
  generalize a.eval (.tmp 18) = y18 at ha
  generalize a.eval (.tmp 19) = y19 at ha
  generalize a.eval (.tmp 20) = y20 at ha
  replace HB3 := Lib.hid (HB3.out.later hl2); replace HL1 := Lib.hid (HL1.out.trans hl2)
  clear so er hl2
  subst ha
  simp only [Act.put, List.setIfInBounds_toArray, List.set_cons_zero, List.set_cons_succ]
  cases hf : fewNs (n + 1) (xs ++ [q]) with
  | false =>
    have HA := Lib.hid (alive7_any w2)
    clear hf
    go_wp2_with fail
    refine HA.out.mono ?_
    rintro e m2 ⟨rfl, hl⟩
    have HL2 := Lib.hid (HL1.out.trans hl)
    clear hl HA
    go_wp2
    go_ret
    exact ⟨rfl, HL2.out⟩
  | true =>
    obtain ⟨hn12, _, hw6⟩ := fewNs_parts hf
    simp only [weightNs, List.map_append, List.sum_append, List.map_cons, List.map_nil, List.sum_cons, List.sum_nil] at hw6
    have HOX := Lib.hid (HX.out.ok (by unfold weightNs; omega)); have HOQ := Lib.hid (HQ.out.ok (by omega))
    have hn0 : n <= 65536 := by omega
    clear hf HX HQ HWT hw6 hn12
    generalize hr : pastN (valsN xs) q.v = r
    have HR := Lib.hid hr
    go_upto_region 3 with fail
    refine nmPs3 rfl (by kernel_rfl) ⟨_, rfl, rfl, rfl, rfl, by kernel_rfl⟩ ⟨_, rfl, rfl, rfl, rfl, by kernel_rfl⟩ ⟨_, rfl, rfl, rfl, rfl, by kernel_rfl⟩ ⟨_, rfl, rfl, rfl, rfl, by kernel_rfl⟩ ⟨_, rfl, rfl, rfl, rfl, by kernel_rfl⟩ ⟨_, rfl, rfl, rfl, rfl, by kernel_rfl⟩ ⟨_, rfl, rfl, rfl, rfl, by kernel_rfl⟩ ⟨_, rfl, rfl, rfl, rfl, by kernel_rfl⟩ ⟨_, rfl, rfl, rfl, rfl, by kernel_rfl⟩ ⟨_, rfl, rfl, rfl, rfl, by kernel_rfl⟩ ⟨_, rfl, rfl, rfl, rfl, by kernel_rfl⟩ ⟨_, rfl, rfl, rfl, rfl, by kernel_rfl⟩ ⟨_, rfl, rfl, rfl, rfl, by kernel_rfl⟩ (of_decide_eq_true rfl) (A := A) (n := n) (cx := c) (xs := xs) (q := q) (r := r) rfl rfl (HOX.out.later HL1.out) hn0 (HOQ.out.later HL1.out) HB3.out hr (fun G a w1 w5 so l1 hG h6 h7 h5 g5 e5 G5 t5 b5 => ?_)
    obtain ⟨_, _, _, _, _, e7, _⟩ := h7
    obtain ⟨q0, ua, _, _, ql, ea, oa, -, na, ya, aa⟩ := h5
    obtain ⟨q1, _, vz, zs, ql', ez, -, oz, nz, yz, az⟩ := h6
    rw [ea] at b5
    have hg5 := hG g5 G5
    have HL5 := Lib.hid (l1.turn t5 hg5.1)
    have HOA := Lib.hid ((oa.later ql).off t5 (aa g5 G5).1)
    have HOZ := Lib.hid ((oz.on ql').other t5 (az g5 G5).2.1 (az g5 G5).2.2 HL5.out)
    have HB5 : Hid (BoxAt w5 g5 (paL ua).toArray 30) := b5
    have HNA : Hid (r = none -> ua.v = zeroPa /\ valsN zs = []) := fun h => ⟨by rw [(na h).1]; rfl, by rw [(nz h).2]; rfl⟩
    have HYA : Hid (∀ c, r = some c -> ua.v = c.1 /\ valsN zs = c.2) := fun c h => ⟨(ya c h).1, (yz c h).2⟩
    have ha := so.is
    simp only [List.foldl_cons, List.foldl_nil] at ha
    rw [e5, e7, ez] at ha
    generalize a.eval (.tmp 24) = y24 at ha
    generalize a.eval (.tmp 25) = y25 at ha
    generalize a.eval (.tmp 26) = y26 at ha
    generalize a.eval (.tmp 27) = y27 at ha
    generalize a.eval (.tmp 28) = y28 at ha
    generalize a.eval (.tmp 23) = y23 at ha
    generalize a.eval (.tmp 29) = y29 at ha
    generalize a.eval (.tmp 30) = y30 at ha
    generalize a.eval (.tmp 31) = y31 at ha
    replace HB3 := Lib.hid (HB3.out.later HL5.out)
    replace HL1 := Lib.hid (HL1.out.trans HL5.out)
    clear so l1 hG e7 ql ea oa na ya aa ql' ez oz nz yz az b5 hg5 e5 G5 t5 hr
    subst ha
    simp only [Act.put, List.setIfInBounds_toArray, List.set_cons_zero, List.set_cons_succ]
    obtain ⟨Az, cz, rfl, hcz, hnz⟩ := HOZ.out.row
    have HNZ := Lib.hid hnz
    clear hcz hnz HOZ HL5
    have HC := Lib.hid (refPast7_any A n c xs q w5 (HOX.out.later HL1.out) (HOQ.out.later HL1.out) hn0)
    rw [HR.out] at HC
    have q30 : w5.cell? ⟨w.heap.size, 0, none⟩ = some (.int .i64 q.v.id) := HB3.out.cell rfl
    have q31 : w5.cell? ⟨w.heap.size, 1, none⟩ = some (.string q.v.note) := HB3.out.cell rfl
    have q32 : w5.cell? ⟨w.heap.size, 2, none⟩ = some (.slice q.D q.nd q.cd) := HB3.out.cell rfl
    have q33 : w5.cell? ⟨w.heap.size, 3, none⟩ = some (.slice q.L q.nl q.cl) := HB3.out.cell rfl
    unfold paV at HC
    go_wp2_with fail
    refine HC.out.mono ?_
    rintro e w6 ⟨uc, vd, dz, rfl, oc, od, nc, yc, -⟩
    clear HC q30 q31 q32 q33
    unfold paV
    have HL7 : Hid (Later w6 (w6.alloc (.cells #[.int .i64 uc.v.id, .string uc.v.note, .slice uc.D uc.nd uc.cd, .slice uc.L uc.nl uc.cl] 25))) := (Later.refl _).alloc _
    have HB8 : Hid (BoxAt (w6.alloc (.cells #[.int .i64 uc.v.id, .string uc.v.note, .slice uc.D uc.nd uc.cd, .slice uc.L uc.nl uc.cl] 25)) w6.heap.size (paL uc).toArray 25) := BoxAt.made w6 (paL uc).toArray 25
    have HOC := Lib.hid (oc.later HL7.out)
    obtain ⟨Ad, cd, rfl, -, hnd⟩ := od.row
    have HND := Lib.hid (hnd.later HL7.out)
    replace HL7 := Lib.hid (od.later.trans HL7.out)
    have HAC : Hid (ua.v = uc.v /\ valsN zs = valsN dz) := by
      cases r with
      | none =>
        obtain ⟨h1, h2⟩ := HNA.out rfl
        obtain ⟨h3, _, h4⟩ := nc rfl
        exact ⟨by rw [h1, h3]; rfl, by rw [h2, h4]; rfl⟩
      | some c =>
        obtain ⟨h1, h2⟩ := HYA.out c rfl
        obtain ⟨h3, h4⟩ := yc c rfl
        exact ⟨h1.trans h3.symm, h2.trans h4.symm⟩
    have hlz : zs.length = dz.length := by have := congrArg List.length HAC.out.2; rwa [valsN_length, valsN_length] at this
    have hlz2 : zs.length <= 65536 := by
      cases hrr : r with
      | none => have := congrArg List.length (HNA.out hrr).2; rw [valsN_length] at this; simp only [List.length_nil] at this; omega
      | some c =>
        have h1 := congrArg List.length (HYA.out c hrr).2
        rw [valsN_length] at h1
        have h2 := pastN_length (c := c.1) (rest := c.2) (by rw [HR.out, hrr])
        rw [valsN_length, hxl] at h2
        omega
    have hld2 : dz.length <= 65536 := by omega
    clear oc hnd od nc yc hlz
    generalize zs.length = mz at *
    generalize dz.length = md at *
    cases r with
    | none =>
      go_upto_region 5 with fail
      refine nmPs5n rfl (by kernel_rfl) ⟨_, rfl, rfl, rfl, rfl, by kernel_rfl⟩ ⟨_, rfl, rfl, rfl, rfl, by kernel_rfl⟩ ⟨_, rfl, rfl, rfl, rfl, by kernel_rfl, by kernel_rfl⟩ ⟨_, rfl, rfl, rfl, rfl, by kernel_rfl, by kernel_rfl⟩ ⟨_, rfl, rfl, rfl, rfl, by kernel_rfl, by kernel_rfl⟩ ⟨_, rfl, rfl, rfl, rfl, by kernel_rfl⟩ ⟨_, rfl, rfl, rfl, rfl, by kernel_rfl⟩ ⟨_, rfl, rfl, rfl, rfl, by kernel_rfl, by kernel_rfl⟩ ⟨_, rfl, rfl, rfl, rfl, by kernel_rfl, by kernel_rfl⟩ ⟨_, rfl, rfl, rfl, rfl, by kernel_rfl, by kernel_rfl⟩ ⟨_, rfl, rfl, rfl, rfl, by kernel_rfl, by kernel_rfl⟩ ⟨_, rfl, rfl, rfl, rfl, by kernel_rfl, by kernel_rfl⟩ ⟨_, rfl, rfl, rfl, rfl, by kernel_rfl, by kernel_rfl⟩ ⟨_, rfl, rfl, rfl, rfl, by kernel_rfl, by kernel_rfl⟩ ⟨_, rfl, rfl, rfl, rfl, by kernel_rfl, by kernel_rfl⟩ ⟨_, rfl, rfl, rfl, rfl, by kernel_rfl⟩ ⟨_, rfl, rfl, rfl, rfl, by kernel_rfl⟩ ⟨_, rfl, rfl, rfl, rfl, by kernel_rfl, by kernel_rfl⟩ ⟨_, rfl, rfl, rfl, rfl, by kernel_rfl, by kernel_rfl⟩ ⟨_, rfl, rfl, rfl, rfl, by kernel_rfl, by kernel_rfl⟩ ⟨_, rfl, rfl, rfl, rfl, by kernel_rfl, by kernel_rfl⟩ ⟨_, rfl, rfl, rfl, rfl, by kernel_rfl⟩ ⟨_, rfl, rfl, rfl, rfl, by kernel_rfl⟩ (of_decide_eq_true rfl) (A6 := Az) (m6 := mz) (c6 := cz) (xs6 := zs) (A9 := Ad) (m9 := md) (c9 := cd) (xs9 := dz) rfl rfl rfl rfl (HNZ.out.later HL7.out) hlz2 HND.out hld2 HAC.out.2 (fun a w8 so hl8 er => ?_)
      have HLN := Lib.hid ((HL1.out.trans HL7.out).trans hl8)
      clear hl8 HL1 HL7
      go_wp2
      refine bodyPost_ret (results_tmp rfl _ _ _) so.defers ?_
      exact ⟨congrArg Ending.returned er, HLN.out⟩
    | some cc =>
      go_upto_region 5 with fail
      refine nmPs5y rfl (by kernel_rfl) ⟨_, rfl, rfl, rfl, rfl, by kernel_rfl⟩ ⟨_, rfl, rfl, rfl, rfl, by kernel_rfl⟩ ⟨_, rfl, rfl, rfl, rfl, by kernel_rfl, by kernel_rfl⟩ ⟨_, rfl, rfl, rfl, rfl, by kernel_rfl, by kernel_rfl⟩ ⟨_, rfl, rfl, rfl, rfl, by kernel_rfl, by kernel_rfl⟩ ⟨_, rfl, rfl, rfl, rfl, by kernel_rfl⟩ ⟨_, rfl, rfl, rfl, rfl, by kernel_rfl⟩ ⟨_, rfl, rfl, rfl, rfl, by kernel_rfl, by kernel_rfl⟩ ⟨_, rfl, rfl, rfl, rfl, by kernel_rfl, by kernel_rfl⟩ ⟨_, rfl, rfl, rfl, rfl, by kernel_rfl, by kernel_rfl⟩ ⟨_, rfl, rfl, rfl, rfl, by kernel_rfl, by kernel_rfl⟩ ⟨_, rfl, rfl, rfl, rfl, by kernel_rfl, by kernel_rfl⟩ ⟨_, rfl, rfl, rfl, rfl, by kernel_rfl, by kernel_rfl⟩ ⟨_, rfl, rfl, rfl, rfl, by kernel_rfl, by kernel_rfl⟩ ⟨_, rfl, rfl, rfl, rfl, by kernel_rfl, by kernel_rfl⟩ ⟨_, rfl, rfl, rfl, rfl, by kernel_rfl⟩ ⟨_, rfl, rfl, rfl, rfl, by kernel_rfl⟩ ⟨_, rfl, rfl, rfl, rfl, by kernel_rfl, by kernel_rfl⟩ ⟨_, rfl, rfl, rfl, rfl, by kernel_rfl, by kernel_rfl⟩ ⟨_, rfl, rfl, rfl, rfl, by kernel_rfl, by kernel_rfl⟩ ⟨_, rfl, rfl, rfl, rfl, by kernel_rfl, by kernel_rfl⟩ ⟨_, rfl, rfl, rfl, rfl, by kernel_rfl⟩ ⟨_, rfl, rfl, rfl, rfl, by kernel_rfl⟩ (of_decide_eq_true rfl) (ua := ua) (uc := uc) (A6 := Az) (m6 := mz) (c6 := cz) (xs6 := zs) (A9 := Ad) (m9 := md) (c9 := cd) (xs9 := dz) rfl rfl rfl rfl (HNZ.out.later HL7.out) hlz2 HND.out hld2 HAC.out.2 rfl rfl (HOA.out.later HL7.out) HOC.out (HB5.out.later HL7.out) HB8.out HAC.out.1 (fun a w8 so hl8 er => ?_)
      have HLN := Lib.hid ((HL1.out.trans HL7.out).trans hl8)
      clear hl8 HL1 HL7
      go_wp2
      refine bodyPost_ret (results_tmp rfl _ _ _) so.defers ?_
      exact ⟨congrArg Ending.returned er, HLN.out⟩

end Go.Proofs.YtlnjhimbgckdcaaGreat
