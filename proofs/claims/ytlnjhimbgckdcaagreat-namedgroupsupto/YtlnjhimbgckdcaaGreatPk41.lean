import Derived.Test.YtlnjhimbgckdcaaGreatPk40
import Derived.Test.YtlnjhimbgckdcaaGreatPk39
import Derived.Test.YtlnjhimbgckdcaaGreatPk17
import Derived.Test.YtlnjhimbgckdcaaGreatPk24
import Derived.Test.YtlnjhimbgckdcaaGreatPk26
import Derived.Deep.LoopGhost
import Derived.Deep.QuietTactic
import Derived.BigQuiet
import Derived.Lib.Hide
import Derived.Test.YtlnjhimbgckdcaaGreatPk22
import Derived.Test.YtlnjhimbgckdcaaGreatPk25
import Derived.Test.YtlnjhimbgckdcaaGreatPk12

/-
  What the document's own Past of patches comes to, as a call.
-/
namespace Go.Proofs.YtlnjhimbgckdcaaGreat
open Go.RowKit Go.Maps

def GivesRp (ls : List PaC) (q : PaC) (r : Option (Pa × List Pa)) (w : World) (e : Ending) (w' : World) : Prop :=
  ∃ (y : PaC) (v : Value) (zs : List PaC), e = .returned (.tuple #[paV y, v, .bool r.isSome]) ∧ PaOk w' y ∧ OwnNs 25 w w' v zs ∧ (r = none → y = zeroN ∧ v = .slice none 0 0 ∧ zs = []) ∧ (∀ c, r = some c → y.v = c.1 ∧ valsN zs = c.2) ∧ ∀ k, k < w.heap.size → (∀ x ∈ ls, AwayN k x) → AwayN k q → AwayN k y ∧ ∀ z ∈ zs, AwayN k z
theorem results_rpast {P : Program} {fn : Func} (h : fn.results = #[.cell 4 25, .tmp 5, .tmp 6]) (hP : P = Tryz.prog) (tmps : Array Value) (w : World) (g4 : Nat) (y : PaC) (u b : Value) {t : TypeId}
    (h4 : tmps.getD 4 undef = .pointer (some ⟨g4, 0, none⟩)) (h5 : tmps.getD 5 undef = u) (h6 : tmps.getD 6 undef = b) (c4 : BoxAt w g4 (paL y).toArray t) : (results fn tmps).run P w = .ok (.tuple #[paV y, u, b]) w := by
  subst hP
  have p4 : tmps[4]?.getD undef = .pointer (some ⟨g4, 0, none⟩) := by simpa using h4
  have p5 : tmps[5]?.getD undef = u := by simpa using h5
  have p6 : tmps[6]?.getD undef = b := by simpa using h6
  have r4 := run_loadVar_row (P := Tryz.prog) w g4 t 25 (paL y).toArray (0, 0) _ c4 Tryz.underlying25 rfl Tryz.rpatchSize
  simp [results, h, p4, p5, p6, asAddr, r4, paV, paL]
theorem wpList_store_boxN {ops : Array Oper} {rest : List Oper} {op : Oper} {a : Act} {w : World} {Q : Exit → Act → World → Prop} (hgd : op.guard = none) (hd : op.dst = none) (T : TypeId) (j k : Tmp) (ho : op.op = .store T (.tmp j) (.tmp k)) (hi : (Tryz.prog.info? T).map (·.size) = some 4) (g : Nat) (x : PaC) (hj : a.eval (.tmp j) = .pointer (some ⟨g, 0, none⟩)) (hv : a.eval (.tmp k) = paV x)
    {cs : Array Value} {t : TypeId} (hb : BoxAt w g cs t) (hs : cs.size = 4) (h : ∀ w', BoxAt w' g (paL x).toArray t → Turned g w w' → wpList Tryz.prog ops Q rest a w') : wpList Tryz.prog ops Q (op :: rest) a w := by
  refine wpList_store_row hgd T (.tmp j) (.tmp k) ho g (paL x).toArray hj (hv.trans (paV_is x)) t cs hb hi hs (paL_one x) ?_
  rw [hd, put_none]
  refine h _ ?_ ?_
  · exact setRow_heap w g cs _ t _ hb
  · exact ⟨rfl, rfl, rfl, by simp, fun i hi hne => setRow_other w g i _ (fun e => hne (by rw [e]))⟩
structure RpI (w : World) (ls : List PaC) (q : PaC) (i : Nat) (V : World) (v : Value) (y : PaC) (zs : List PaC) : Prop where
  b3 : BoxAt V w.heap.size (paL y).toArray 25
  b4 : BoxAt V (w.heap.size + 1) #[.int .i64 0, .string ⟨#[]⟩, .slice none 0 0, .slice none 0 0] 25
  oy : PaOk V y
  ov : OwnNs 25 w V v zs
  ub : ∀ k, v.ownBlock = some k → w.heap.size + 1 < k
  told : pastN ((valsN ls).drop i) q.v = some (y.v, valsN zs)
  len : zs.length + i = ls.length
  mix : ∀ k, k < w.heap.size + 2 → (∀ x ∈ ls, AwayN k x) → AwayN k q → AwayN k y ∧ ∀ z ∈ zs, AwayN k z
theorem rpastN_step {ls : List Pa} {q y : Pa} {zs : List Pa} {i : Nat} {x : Pa} (h : pastN (ls.drop (i + 1)) q = some (y, zs)) (hx : ls[i]? = some x) : pastN (ls.drop i) q = (swapN x y).map fun r => (r.1, r.2 :: zs) := by
  have hlt := (List.getElem?_eq_some_iff.1 hx).1
  have he := (List.getElem?_eq_some_iff.1 hx).2
  rw [List.drop_eq_getElem_cons hlt, he]
  simp only [pastN, h, Option.bind_some]
theorem rpastN_none {q : Pa} : ∀ {A B : List Pa}, pastN B q = none → pastN (A ++ B) q = none
  | [], _, h => h
  | p :: A, B, h => by simp only [List.cons_append, pastN, rpastN_none (A := A) h, Option.bind_none]

set_option maxRecDepth 100000 in
set_option maxHeartbeats 1600000 in
theorem refPast7_any (A : Option Addr) (n c : Nat) (ls : List PaC) (q : PaC) (w : World) (hls : NsOk w A n ls) (hqo : PaOk w q) (hn : n ≤ 65536) :
    Calls Tryz.prog 17 #[.slice A n c, paV q] w (GivesRp ls q (pastN (valsN ls) q.v) w) := by
  have hlen := hls.len
  have HX := Lib.hid hls; have HQ := Lib.hid hqo
  have hlb : Later w ((w.alloc (.cells #[.int .i64 q.v.id, .string q.v.note, .slice q.D q.nd q.cd, .slice q.L q.nl q.cl] 25)).alloc (.cells #[.int .i64 0, .string ⟨#[]⟩, .slice none 0 0, .slice none 0 0] 25)) := ((Later.refl w).alloc _).alloc _
  have hb3 : BoxAt ((w.alloc (.cells #[.int .i64 q.v.id, .string q.v.note, .slice q.D q.nd q.cd, .slice q.L q.nl q.cl] 25)).alloc (.cells #[.int .i64 0, .string ⟨#[]⟩, .slice none 0 0, .slice none 0 0] 25)) w.heap.size (paL q).toArray 25 := (BoxAt.made w (paL q).toArray 25).alloc _
  have hb4 : BoxAt ((w.alloc (.cells #[.int .i64 q.v.id, .string q.v.note, .slice q.D q.nd q.cd, .slice q.L q.nl q.cl] 25)).alloc (.cells #[.int .i64 0, .string ⟨#[]⟩, .slice none 0 0, .slice none 0 0] 25)) (w.heap.size + 1) #[.int .i64 0, .string ⟨#[]⟩, .slice none 0 0, .slice none 0 0] 25 := by
    have := BoxAt.made (w.alloc (.cells #[.int .i64 q.v.id, .string q.v.note, .slice q.D q.nd q.cd, .slice q.L q.nl q.cl] 25)) #[.int .i64 0, .string ⟨#[]⟩, .slice none 0 0, .slice none 0 0] 25
    rw [World.size_alloc] at this
    exact this
  have hi0 : Hid (RpI w ls q n ((w.alloc (.cells #[.int .i64 q.v.id, .string q.v.note, .slice q.D q.nd q.cd, .slice q.L q.nl q.cl] 25)).alloc (.cells #[.int .i64 0, .string ⟨#[]⟩, .slice none 0 0, .slice none 0 0] 25)) (.slice none 0 0) q []) := by
    refine ⟨hb3, hb4, hqo.later hlb, OwnNs.nil hlb, (fun k h => by cases h), ?_, by simp [hlen], fun k _ _ h => ⟨h, fun z hz => by cases hz⟩⟩
    rw [List.drop_of_length_le (by rw [valsN_length, hlen]; exact Nat.le_refl _)]
    rfl
  clear hls hqo hlb hb3 hb4
  obtain ⟨i0, hi, hz0, hz1, hz2⟩ := info_parts Tryz.rpatchInfo
  unfold paV
  go_enter Tryz.func17, Tryz.ntmps17
  go_wp2
  go_loopg [7, 8] (n + 1) (fun g s7 s8 wr => ∃ (i : Nat) (y : PaC) (v : Value) (zs : List PaC), i ≤ n ∧ i ≤ g ∧ s8 = .int .i64 ((i : Int) - 1) ∧ s7 = v ∧ Hid (RpI w ls q i wr v y zs))
  case atStart => exact ⟨n, q, _, [], Nat.le_refl _, by omega, rfl, rfl, hi0⟩
  case round =>
    obtain ⟨i, y, v, zs, hin, hig, rfl, hv, hI⟩ := hrel
    obtain rfl := hv.symm
    clear hv
    rcases i with _ | i
    · rw [show ((0 : Nat) : Int) - 1 = -1 from rfl]
      have H := hI.out
      have d30 : wr.cell? ⟨w.heap.size, 0, none⟩ = some (.int .i64 y.v.id) := H.b3.cell rfl
      have d31 : wr.cell? ⟨w.heap.size, 1, none⟩ = some (.string y.v.note) := H.b3.cell rfl
      have d32 : wr.cell? ⟨w.heap.size, 2, none⟩ = some (.slice y.D y.nd y.cd) := H.b3.cell rfl
      have d33 : wr.cell? ⟨w.heap.size, 3, none⟩ = some (.slice y.L y.nl y.cl) := H.b3.cell rfl
      have HB4 := Lib.hid H.b4
      clear H
      go_wp2_with (with_reducible show wpList _ _ _ ({ dst := none, op := Op.store 25 _ _, type := _, pos := _, after := _, guard := _ } :: _) _ _; refine Hid.out ?_)
      refine Lib.hid (wpList_store_boxN rfl rfl 25 _ _ rfl Tryz.rpatchSize (w.heap.size + 1) y rfl rfl HB4.out rfl ?_)
      clear d30 d31 d32 d33
      intro w6 hb6 ht6
      have HB6 := Lib.hid hb6; have HT6 := Lib.hid ht6
      clear hb6 ht6 HB4
      go_wp2
      refine bodyPost_ret (results_rpast rfl rfl _ _ (w.heap.size + 1) y _ _ rfl rfl rfl HB6.out) rfl ?_
      have H := hI.out
      have told := H.told
      rw [List.drop_zero] at told
      have haw : ∀ x ∈ ls, AwayN (w.heap.size + 1) x := fun x hx => (HX.out.each x hx).away (by omega)
      have hm := H.mix (w.heap.size + 1) (by omega) haw (HQ.out.away (by omega))
      unfold GivesRp
      rw [told]
      exact ⟨y, v, zs, rfl, H.oy.off HT6.out hm.1, H.ov.other HT6.out (fun e => by have := H.ub _ e; omega) (fun z hz => hm.2 z hz) (H.ov.later.turn HT6.out (by omega)), (fun e => by cases e), (fun c e => by cases e; exact ⟨rfl, rfl⟩), fun k hk h1 h2 => H.mix k (by omega) h1 h2⟩
    · rw [show (((i + 1 : Nat) : Int) - 1) = (i : Nat) from by omega]
      obtain ⟨b, o, x, rfl, hz, hok, g0, g1, g2, g3⟩ := (HX.out.later hI.out.ov.later).get (show i < n by omega)
      clear g0 g1 g2 g3
      have hxv : (valsN ls)[i]? = some x.v := valsN_at hz
      have hst := rpastN_step hI.out.told hxv
      have hrow := (HX.out.later hI.out.ov.later).row
      have H := hI.out
      generalize hsw : swapN x.v y.v = r at hst
      go_upto_region 5 with fail
      refine rpast_region (r := r) (xs := ls) (x := x) (q := y) (k := i) rfl (by kernel_rfl) ⟨_, rfl, rfl, rfl, rfl, by kernel_rfl⟩ ⟨_, rfl, rfl, rfl, rfl, by kernel_rfl⟩ ⟨_, rfl, rfl, rfl, rfl, by kernel_rfl⟩ ⟨_, rfl, rfl, rfl, rfl, by kernel_rfl⟩ ⟨_, rfl, rfl, rfl, rfl, by kernel_rfl⟩ ⟨_, rfl, rfl, rfl, rfl, by kernel_rfl⟩ ⟨_, rfl, rfl, rfl, rfl, by kernel_rfl⟩ ⟨_, rfl, rfl, rfl, rfl, by kernel_rfl⟩ ⟨_, rfl, rfl, rfl, rfl, by kernel_rfl⟩ ⟨_, rfl, rfl, rfl, rfl, by kernel_rfl⟩ ⟨_, rfl, rfl, rfl, rfl, by kernel_rfl⟩ ⟨_, rfl, rfl, rfl, rfl, by kernel_rfl⟩ ⟨_, rfl, rfl, rfl, rfl, by kernel_rfl⟩ ⟨_, rfl, rfl, rfl, rfl, by kernel_rfl⟩ ⟨_, rfl, rfl, rfl, rfl, by kernel_rfl⟩ (of_decide_eq_true rfl) rfl rfl rfl hrow (by omega) hz H.b3 hok H.oy hsw (fun D a V so e9 e10 e11 st => ?_)
      obtain ⟨hb8, hb9⟩ := st.boxes
      have hg8 := (st.b8 rfl).1; have hg9 := (st.b9 rfl).1
      have hne := st.ne rfl rfl
      obtain ⟨oa, ob, ht, hno, hyes⟩ := st.sw (by decide)
      have hmix := st.m (by decide)
      have ha := so.is
      simp only [List.foldl_cons, List.foldl_nil] at ha
      rw [e9, e10, e11, ht] at ha
      generalize a.eval (.tmp 20) = y20 at ha
      generalize a.eval (.tmp 21) = y21 at ha
      generalize a.eval (.tmp 22) = y22 at ha
      generalize a.eval (.tmp 23) = y23 at ha
      generalize a.eval (.tmp 24) = y24 at ha
      generalize a.eval (.tmp 25) = y25 at ha
      generalize a.eval (.tmp 19) = y19 at ha
      generalize a.eval (.tmp 26) = y26 at ha
      generalize a.eval (.tmp 27) = y27 at ha
      generalize a.eval (.tmp 28) = y28 at ha
      have hlt3 := H.b3.lt; have hlt4 := H.b4.lt
      have HL := Lib.hid st.later
      have ax3 := (HX.out.each x (List.mem_of_getElem? hz)).away (Nat.le_refl w.heap.size); have ax4 := (HX.out.each x (List.mem_of_getElem? hz)).away (show w.heap.size ≤ w.heap.size + 1 by omega)
      have hm3 := H.mix w.heap.size (by omega) (fun x hx => (HX.out.each x hx).away (by omega)) (HQ.out.away (by omega))
      have hm4 := H.mix (w.heap.size + 1) (by omega) (fun x hx => (HX.out.each x hx).away (by omega)) (HQ.out.away (by omega))
      clear so e9 e10 e11
      subst ha
      simp only [Act.put, List.setIfInBounds_toArray, List.set_cons_zero, List.set_cons_succ]
      cases r with
      | none =>
        have HN := Lib.hid (rpastN_none (A := (valsN ls).take i) (B := (valsN ls).drop i) hst)
        rw [List.take_append_drop] at HN
        have HB4 := Lib.hid (H.b4.later HL.out)
        have HW := Lib.hid (H.ov.later.trans HL.out)
        clear hst hsw hok hz hxv hrow H hI oa ob ht hno hyes hmix hb8 hb9 st ax3 ax4 hm3 hm4
        go_wp2_with (with_reducible show wpList _ _ _ ({ dst := none, op := Op.store 25 _ _, type := _, pos := _, after := _, guard := _ } :: _) _ _; refine Hid.out ?_)
        refine Lib.hid (wpList_store_boxN rfl rfl 25 _ _ rfl Tryz.rpatchSize (w.heap.size + 1) zeroN rfl rfl HB4.out rfl ?_)
        intro w6 hb6 ht6
        have HB6 := Lib.hid hb6; have HT6 := Lib.hid ht6
        clear hb6 ht6
        go_wp2
        refine bodyPost_ret (results_rpast rfl rfl _ _ (w.heap.size + 1) zeroN _ _ rfl rfl rfl HB6.out) rfl ?_
        unfold GivesRp
        rw [HN.out]
        exact ⟨zeroN, _, [], rfl, zeroN_ok _, OwnNs.nil (HW.out.turn HT6.out (by omega)), (fun _ => ⟨rfl, rfl, rfl⟩), (fun c e => by cases e), fun k _ _ _ => ⟨zeroN_away k, fun z hz => by cases hz⟩⟩
      | some r =>
        obtain ⟨hy1, hy2⟩ := hyes r rfl
        have ha3 := hmix w.heap.size hlt3 ax3 hm3.1; have ha4 := hmix (w.heap.size + 1) hlt4 ax4 hm4.1
        have HB8 := Lib.hid hb8; have HB9 := Lib.hid hb9; have HOA := Lib.hid oa; have HOB := Lib.hid ob
        have HB3 := Lib.hid (H.b3.later HL.out); have HB4 := Lib.hid (H.b4.later HL.out); have HOV := Lib.hid (H.ov.on HL.out)
        have HST := Lib.hid hst; have HM := Lib.hid hmix; have HA3 := Lib.hid ha3; have HA4 := Lib.hid ha4; have HM3 := Lib.hid hm3.2; have HM4 := Lib.hid hm4.2; have HY1 := Lib.hid hy1; have HY2 := Lib.hid hy2
        have HUB := Lib.hid H.ub; have HLEN := Lib.hid H.len; have HMX := Lib.hid H.mix; have HXM := Lib.hid (List.mem_of_getElem? hz)
        have HZL : Hid (Later w wr) := H.ov.later
        clear hst hsw hok hz hxv hrow H hI oa ob ht hno hyes hmix hb8 hb9 st ax3 ax4 hm3 hm4 ha3 ha4 hy1 hy2
        have d80 : V.cell? ⟨D.g8, 0, none⟩ = some (.int .i64 D.y.v.id) := HB8.out.cell rfl
        have d81 : V.cell? ⟨D.g8, 1, none⟩ = some (.string D.y.v.note) := HB8.out.cell rfl
        have d82 : V.cell? ⟨D.g8, 2, none⟩ = some (.slice D.y.D D.y.nd D.y.cd) := HB8.out.cell rfl
        have d83 : V.cell? ⟨D.g8, 3, none⟩ = some (.slice D.y.L D.y.nl D.y.cl) := HB8.out.cell rfl
        go_wp2_with (with_reducible show wpList _ _ _ ({ dst := none, op := Op.store 25 _ _, type := _, pos := _, after := _, guard := _ } :: _) _ _; refine Hid.out ?_)
        refine Lib.hid (wpList_store_boxN rfl rfl 25 _ _ rfl Tryz.rpatchSize w.heap.size D.y rfl rfl HB3.out rfl ?_)
        clear d80 d81 d82 d83
        intro w6 hb6 ht6
        have HB6 := Lib.hid hb6; have HT6 := Lib.hid ht6
        have H94 := Lib.hid (HB9.out.other ht6 (by omega)); have H44 := Lib.hid (HB4.out.other ht6 (by omega)); have HOA6 := Lib.hid (HOA.out.off ht6 HA3.out.1); have HOB6 := Lib.hid (HOB.out.off ht6 HA3.out.2)
        have HOV6 := Lib.hid (HOV.out.other ht6 (fun e => by have := HUB.out _ e; omega) (fun z hz => HM3.out z hz) (HOV.out.later.turn ht6 (by omega)))
        have hs6 : w.heap.size + 1 < w6.heap.size := by have h1 := ht6.le; have h2 := HL.out.le; omega
        clear hb6 ht6 HB8 HB9 HB3 HB4 HOA HOB HOV
        obtain ⟨Av, cv, rfl, hcv, hnv⟩ := HOV6.out.row
        have HNV := Lib.hid hnv
        have hlz : zs.length ≤ 65536 := by have := HLEN.out; omega
        have HO1 := Lib.hid (OwnNs.one (e := 25) (w0 := w) HOV6.out.later HOB6.out)
        unfold paL at HO1
        have HBLK : Hid (∀ k, (Value.slice (some ⟨w6.heap.size, 0, none⟩) 1 1).ownBlock = some k → k = w6.heap.size) := fun k e => by simp only [Value.ownBlock, Option.some.injEq] at e; exact e.symm
        clear hcv hnv
        have d90 : w6.cell? ⟨D.g9, 0, none⟩ = some (.int .i64 D.z.v.id) := H94.out.cell rfl
        have d91 : w6.cell? ⟨D.g9, 1, none⟩ = some (.string D.z.v.note) := H94.out.cell rfl
        have d92 : w6.cell? ⟨D.g9, 2, none⟩ = some (.slice D.z.D D.z.nd D.z.cd) := H94.out.cell rfl
        have d93 : w6.cell? ⟨D.g9, 3, none⟩ = some (.slice D.z.L D.z.nl D.z.cl) := H94.out.cell rfl
        go_wp2_with (at_builtin; refine wpList_append_ns5 rfl _ _ 39 rfl i0 _ 72 Tryz.underlying39 hi hz0 hz1 hz2 rfl HO1.out rfl _ _ _ zs rfl (HNV.out.later ((Later.refl _).alloc _)).row (HNV.out.later ((Later.refl _).alloc _)).each (fun z hz g hg => by have := HBLK.out g hg; exact (HNV.out.each z hz).away (by omega)) (by simp; omega) (by omega) ?_; intro v7 w7 hown7 hg7 hb7; have HO7 := Lib.hid hown7; have HG7 := Lib.hid hg7; have HB7 := Lib.hid hb7; clear hown7 hg7 hb7)
        clear d90 d91 d92 d93
        go_roundg i
        case measure => omega
        case rel =>
          have hl67 : Later w6 w7 := ((Later.refl w6).alloc _).turn (B := w6.heap.size) HG7.out (Nat.le_refl _)
          refine ⟨i, D.y, v7, _, by omega, Nat.le_refl _, rfl, rfl, HB6.out.later hl67, H44.out.later hl67, HOA6.out.later hl67, HO7.out, ?_, ?_, ?_, ?_⟩
          · intro k hk
            rcases HB7.out with h | h
            · have := HBLK.out k (by rw [← h]; exact hk); omega
            · rw [h] at hk; cases hk; simp only [World.size_alloc]; omega
          · rw [HST.out]
            simp only [Option.map_some, List.singleton_append, valsN, List.map_cons]
            rw [HY1.out, HY2.out]
          · simp only [List.length_append, List.length_singleton]
            have := HLEN.out
            omega
          · intro k hk h1 h2
            have hm := HMX.out k hk h1 h2
            have := HM.out k (by have := HZL.out.le; omega) (h1 _ HXM.out) hm.1
            refine ⟨this.1, fun z hz => ?_⟩
            rcases List.mem_append.1 hz with h | h
            · simp at h; subst h; exact this.2
            · exact hm.2 z h

end Go.Proofs.YtlnjhimbgckdcaaGreat

/-
  What the document's own Group of patches comes to, as a call.
-/
namespace Go.Proofs.YtlnjhimbgckdcaaGreat
open Go.RowKit Go.Maps

def GivesRg (ls : List PaC) (r : List Pa × List Pa) (w : World) (e : Ending) (w' : World) : Prop :=
  ∃ v u ys zs, e = .returned (.tuple #[v, u]) ∧ OwnNs 25 w w' v ys ∧ OwnNs 25 w w' u zs ∧ valsN ys = r.1 ∧ valsN zs = r.2 ∧ ∀ k, k < w.heap.size → (∀ x ∈ ls, AwayN k x) → (∀ y ∈ ys, AwayN k y) ∧ ∀ z ∈ zs, AwayN k z
structure RgI (w : World) (ls : List PaC) (k : Nat) (V : World) (v u : Value) (ys zs : List PaC) : Prop where
  ov : OwnNs 25 w V v ys
  ou : OwnNs 25 w V u zs
  gr : groupN ((valsN ls).take k) = (valsN ys, valsN zs)
  ne : ∀ j, u.ownBlock = some j → v.ownBlock ≠ some j
  ap : ∀ y ∈ ys, ∀ j, u.ownBlock = some j → AwayN j y
  mix : ∀ j, j < w.heap.size → (∀ x ∈ ls, AwayN j x) → (∀ y ∈ ys, AwayN j y) ∧ ∀ z ∈ zs, AwayN j z
  len : ys.length + zs.length = k
  pos : 0 < ys.length

set_option maxRecDepth 100000 in
set_option maxHeartbeats 1600000 in
theorem refGroup7_any (A : Option Addr) (n c : Nat) (ls : List PaC) (w : World) (hls : NsOk w A n ls) (hn : n ≤ 65536) :
    Calls Tryz.prog 21 #[.slice A n c] w (GivesRg ls (groupN (valsN ls)) w) := by
  have hlen := hls.len
  obtain ⟨i0, hi, hz0, hz1, hz2⟩ := info_parts Tryz.rpatchInfo
  rcases Nat.eq_zero_or_pos n with h0 | h0
  · subst h0
    obtain rfl : ls = [] := List.eq_nil_of_length_eq_zero hlen
    go_enter Tryz.func21, Tryz.ntmps21
    go_wp2
    refine bodyPost_ret (results_tmps2 rfl _ _ _) rfl ?_
    exact ⟨_, _, [], [], rfl, OwnNs.nil (Later.refl w), OwnNs.nil (Later.refl w), rfl, rfl, fun k _ _ => ⟨(fun y hy => by cases hy), fun y hy => by cases hy⟩⟩
  have HX := Lib.hid hls
  obtain ⟨b, o, x0, rfl, hz, hok, g0, g1, g2, g3⟩ := hls.get h0
  rw [Nat.zero_mul, Nat.add_zero] at g0 g1 g2 g3
  have hi1 : Hid (RgI w ls 1 (w.alloc (.cells (paL x0).toArray 25)) (.slice (some ⟨w.heap.size, 0, none⟩) 1 1) (.slice none 0 0) [x0] []) := by
    refine ⟨OwnNs.one (Later.refl w) hok, OwnNs.nil ((Later.refl w).alloc _), ?_, (fun j e => by cases e), (fun y _ j e => by cases e), fun j _ h => ⟨fun y hy => ?_, fun z hz => by cases hz⟩, rfl, by simp⟩
    · rw [groupN_one (valsN_at hz)]; rfl
    · simp at hy; subst hy; exact h _ (List.mem_of_getElem? hz)
  unfold paL at hi1
  have hb0 : ((n : Int) == 0) = false := by simp; omega
  clear hls hok hz
  go_enter Tryz.func21, Tryz.ntmps21
  go_wp2
  go_loopg [4, 5, 6] (n + 1) (fun g s4 s5 s6 wr => ∃ (k : Nat) (v u : Value) (ys zs : List PaC), 1 ≤ k ∧ k ≤ n ∧ n - k ≤ g ∧ s6 = .int .i64 (k : Nat) ∧ s4 = v ∧ s5 = u ∧ Hid (RgI w ls k wr v u ys zs))
  case atStart => exact ⟨1, _, _, [x0], [], Nat.le_refl _, h0, by omega, rfl, rfl, rfl, hi1⟩
  case round =>
    obtain ⟨k, v, u, ys, zs, hk1, hk, hg, rfl, hv, hu, hI⟩ := hrel
    obtain rfl := hv.symm
    obtain rfl := hu.symm
    clear hv hu hi1 g0 g1 g2 g3
    by_cases hlt : k < n
    · have HW := HX.out.later hI.out.ov.later
      obtain ⟨b', o', x, hA, hz, hok, g0, g1, g2, g3⟩ := HW.get hlt
      cases hA
      have HST := Lib.hid (groupN_step (valsN_at hz) (show 0 < k by omega))
      rw [hI.out.gr] at HST
      obtain ⟨Av, cv, hvv, hcv, hnv⟩ := hI.out.ov.row
      have hyl : ys.length ≤ 65536 := by have := hI.out.len; omega
      have HP := Lib.hid (refPast7_any Av ys.length cv ys x wr hnv hok hyl)
      rw [← hvv] at HP
      have HVV := Lib.hid hvv; have HNV := Lib.hid hnv; have HOK := Lib.hid hok; have HZ := Lib.hid hz; have HROW := Lib.hid HW.row
      clear hvv hnv hok hz HW hcv
      unfold paV at HP
      go_wp2_with fail
      refine HP.out.mono ?_
      rintro e w2 ⟨y, v2, zs2, rfl, oy, ov2, hno, hyes, hmx⟩
      clear HP g0 g1 g2 g3
      have HL2 := Lib.hid ov2.later
      have HX1 : Hid (∀ j, j < wr.heap.size → w.heap.size ≤ j → AwayN j x) := fun j _ h2 => (HX.out.each x (List.mem_of_getElem? HZ.out)).away h2
      cases hp : pastN (valsN ys) x.v with
      | none =>
        obtain ⟨rfl, rfl, rfl⟩ := hno hp
        have HPN := Lib.hid hp
        clear oy ov2 hno hyes hmx hp
        have HL3 : Hid (Later wr (w2.alloc (.cells #[.int .i64 0, .string ByteArray.empty, .slice none 0 0, .slice none 0 0] 25))) := HL2.out.alloc _
        have hysok := HNV.out.later HL3.out
        have hrow3 := HROW.out.later HL3.out
        have hok3 := HOK.out.later HL3.out
        unfold zeroN paV zeroPa
        rw [HVV.out]
        go_upto_region 12 with fail
        refine rgroup_region (ys := ys) (xs := ls) (x := x) (k := k) rfl (by kernel_rfl) ⟨_, rfl, rfl, rfl, rfl, by kernel_rfl⟩ ⟨_, rfl, rfl, rfl, rfl, by kernel_rfl⟩ ⟨_, rfl, rfl, rfl, rfl, by kernel_rfl⟩ ⟨_, rfl, rfl, rfl, rfl, by kernel_rfl⟩ ⟨_, rfl, rfl, rfl, rfl, by kernel_rfl⟩ ⟨_, rfl, rfl, rfl, rfl, by kernel_rfl⟩ ⟨_, rfl, rfl, rfl, rfl, by kernel_rfl⟩ ⟨_, rfl, rfl, rfl, rfl, by kernel_rfl⟩ ⟨_, rfl, rfl, rfl, rfl, by kernel_rfl⟩ ⟨_, rfl, rfl, rfl, rfl, by kernel_rfl⟩ (of_decide_eq_true rfl) rfl rfl rfl hysok hI.out.pos hyl hrow3 hlt HZ.out hok3 (fun v' a w' so e4 ov' => ?_)
        have ha := so.is
        unfold rgrD at ha
        simp only [List.foldl_cons, List.foldl_nil] at ha
        rw [e4] at ha
        generalize a.eval (.tmp 39) = y39 at ha
        generalize a.eval (.tmp 40) = y40 at ha
        generalize a.eval (.tmp 41) = y41 at ha
        generalize a.eval (.tmp 42) = y42 at ha
        generalize a.eval (.tmp 43) = y43 at ha
        generalize a.eval (.tmp 44) = y44 at ha
        generalize a.eval (.tmp 45) = y45 at ha
        generalize a.eval (.tmp 46) = y46 at ha
        generalize a.eval (.tmp 47) = y47 at ha
        have HO := Lib.hid ov'
        clear so e4 ov' hysok hrow3 hok3
        subst ha
        simp only [Act.put, List.setIfInBounds_toArray, List.set_cons_zero, List.set_cons_succ]
        go_wp2
        go_roundg (n - (k + 1))
        case measure => omega
        case rel =>
          have H := hI.out
          refine ⟨k + 1, v', u, ys ++ [x], zs, by omega, by omega, Nat.le_refl _, by go_num, rfl, rfl, HO.out.base (H.ov.later.trans HL3.out), (H.ou.on HL3.out).on HO.out.later, ?_, ?_, ?_, ?_, ?_, ?_⟩
          · rw [HST.out, valsN_append]
            unfold groupStep
            rw [show ((valsN ys, valsN zs) : List Pa × List Pa).1 = valsN ys from rfl, HPN.out]
            rfl
          · intro j hj hv'
            have h1 := HO.out.block j hv'
            have h2 := H.ou.lt j hj
            have := HL3.out.le
            omega
          · intro z hz j hj
            rcases List.mem_append.1 hz with h | h
            · exact H.ap z h j hj
            · simp at h; subst h; exact HX1.out j (H.ou.lt j hj) (H.ou.block j hj)
          · intro j hj hx
            refine ⟨fun z hz => ?_, (H.mix j hj hx).2⟩
            rcases List.mem_append.1 hz with h | h
            · exact (H.mix j hj hx).1 z h
            · simp at h; subst h; exact hx _ (List.mem_of_getElem? HZ.out)
          · have := H.len; simp only [List.length_append, List.length_singleton]; omega
          · simp only [List.length_append, List.length_singleton]; omega
      | some r =>
        obtain ⟨hy1, hy2⟩ := hyes r hp
        have HPN := Lib.hid hp
        have HZL : Hid (zs2.length = ys.length) := by
          have h1 := pastN_length (c := r.1) (rest := r.2) hp
          rw [← hy2, valsN_length, valsN_length] at h1
          exact h1
        have hl3 : Later w2 ((w2.alloc (.cells #[.int .i64 y.v.id, .string y.v.note, .slice y.D y.nd y.cd, .slice y.L y.nl y.cl] 25)).alloc (.cells #[.int .i64 y.v.id, .string y.v.note, .slice y.D y.nd y.cd, .slice y.L y.nl y.cl] 25)) := ((Later.refl w2).alloc _).alloc _
        have HOY := Lib.hid (oy.later hl3)
        have HV2 := Lib.hid ((ov2.base hI.out.ov.later).on hl3)
        have HU2 := Lib.hid ((hI.out.ou.on HL2.out).on hl3)
        have HVB : Hid (∀ j, v2.ownBlock = some j → wr.heap.size ≤ j) := fun j hj => ov2.block j hj
        have HM := Lib.hid hmx; have HY1 := Lib.hid hy1; have HY2 := Lib.hid hy2
        have HFU : Hid (∀ z ∈ [y], ∀ j, u.ownBlock = some j → AwayN j z) := by
          intro z hz j hj
          simp at hz; subst hz
          have hjl := hI.out.ou.lt j hj
          exact (hmx j hjl (fun x hx => hI.out.ap x hx j hj) (HX1.out j hjl (hI.out.ou.block j hj))).1
        clear oy ov2 hno hyes hmx hp hy1 hy2 hl3
        have HROW1 : Hid (RowK 4 ((w2.alloc (.cells #[.int .i64 y.v.id, .string y.v.note, .slice y.D y.nd y.cd, .slice y.L y.nl y.cl] 25)).alloc (.cells #[.int .i64 y.v.id, .string y.v.note, .slice y.D y.nd y.cd, .slice y.L y.nl y.cl] 25)) (some ⟨w2.heap.size + 1, 0, none⟩) 1 ([y].map paL)) := by
          have := RowK.one (w2.alloc (.cells #[.int .i64 y.v.id, .string y.v.note, .slice y.D y.nd y.cd, .slice y.L y.nl y.cl] 25)) (paL y) 25
          rw [World.size_alloc] at this
          exact this
        have hzl : zs.length ≤ 65536 := by have := hI.out.len; omega
        unfold paV
        go_wp2_with (at_builtin; (refine Hid.out ?_))
        refine Lib.hid ?_
        refine wpList_append_ns5 rfl _ _ 39 rfl i0 _ 72 Tryz.underlying39 hi hz0 hz1 hz2 rfl HU2.out rfl _ _ _ [y] rfl HROW1.out (fun z hz => by simp at hz; subst hz; exact HOY.out) HFU.out (by omega) (by omega) ?_
        intro u4 w4 hown4 hg4 hb4
        have HO4 := Lib.hid hown4; have HG4 := Lib.hid hg4; have HB4 := Lib.hid hb4
        clear hown4 hg4 hb4
        go_wp2
        go_roundg (n - (k + 1))
        case measure => omega
        case rel =>
          have H := hI.out
          have hv2 : OwnNs 25 w w4 v2 zs2 := by
            refine HV2.out.grownO HG4.out (fun j hj hv => ?_) (fun z hz j hj => ?_) HO4.out.later
            · have := HVB.out j hv; have := H.ou.lt j hj; omega
            · have hjl := H.ou.lt j hj
              exact (HM.out j hjl (fun x hx => H.ap x hx j hj) (HX1.out j hjl (H.ou.block j hj))).2 z hz
          refine ⟨k + 1, v2, u4, zs2, zs ++ [y], by omega, by omega, Nat.le_refl _, by go_num, rfl, rfl, hv2, HO4.out, ?_, ?_, ?_, ?_, ?_, ?_⟩
          · rw [HST.out, valsN_append]
            unfold groupStep
            rw [show ((valsN ys, valsN zs) : List Pa × List Pa).1 = valsN ys from rfl, HPN.out, HY2.out, show valsN [y] = [r.1] from by simp [valsN, HY1.out]]
          · intro j hj hv
            have h1 := HV2.out.lt j hv
            rcases HB4.out with h | h
            · rw [h] at hj
              have := HVB.out j hv; have := H.ou.lt j hj; omega
            · rw [h] at hj
              cases hj
              omega
          · intro z hz j hj
            rcases HB4.out with h | h
            · rw [h] at hj
              have hjl := H.ou.lt j hj
              exact (HM.out j hjl (fun x hx => H.ap x hx j hj) (HX1.out j hjl (H.ou.block j hj))).2 z hz
            · rw [h] at hj
              cases hj
              exact (HV2.out.ok z hz).away (Nat.le_refl _)
          · intro j hj hx
            have hm := H.mix j hj hx
            have h2 := HM.out j (Nat.lt_of_lt_of_le hj H.ov.later.le) hm.1 (hx _ (List.mem_of_getElem? HZ.out))
            refine ⟨h2.2, fun z hz => ?_⟩
            rcases List.mem_append.1 hz with h | h
            · exact hm.2 z h
            · simp at h; subst h; exact h2.1
          · have := H.len; have := HZL.out; simp only [List.length_append, List.length_singleton]; omega
          · have := H.pos; have := HZL.out; omega
    · have HE : Hid (groupN (valsN ls) = (valsN ys, valsN zs)) := by
        have := hI.out.gr
        rw [List.take_of_length_le (by rw [valsN_length, hlen]; omega)] at this
        exact this
      go_wp2
      refine bodyPost_ret (results_tmps2 rfl _ _ _) rfl ?_
      rw [HE.out]
      exact ⟨v, u, ys, zs, rfl, hI.out.ov, hI.out.ou, rfl, rfl, hI.out.mix⟩

end Go.Proofs.YtlnjhimbgckdcaaGreat

/-
  What the law NamedGroups comes to, as a call.
-/
namespace Go.Proofs.YtlnjhimbgckdcaaGreat
open Go.RowKit Go.Maps

set_option maxRecDepth 100000 in
set_option maxHeartbeats 400000 in
theorem namedGroups_walk (A1 : Option Addr) (n1 c1 : Nat) (xs : List PaC) (w : World) (hx : CameNs w A1 n1 c1 xs) : Calls Tryz.prog 5 #[.slice A1 n1 c1] w (Says true w) := by
  have HX := Lib.hid hx
  have hxl := hx.len
  clear hx
  have HC := Lib.hid (few7_any A1 n1 c1 xs w HX.out)
  cases hfb : fewNs n1 xs
  case false =>
    rw [hfb] at HC
    clear hfb
    go_enter Tryz.func5, Tryz.ntmps5
    go_wp2_with fail
    refine HC.out.mono ?_
    clear HC
    rintro e m2 ⟨rfl, hl⟩
    have L0 := Lib.hid hl
    clear hl
    have HA := Lib.hid (alive7_any m2)
    go_wp2_with fail
    refine HA.out.mono ?_
    rintro e m3 ⟨rfl, hl⟩
    replace L0 := Lib.hid (L0.out.trans hl)
    clear hl HA
    go_wp2
    go_ret
    exact ⟨rfl, L0.out⟩
  obtain ⟨hn12, hn40, hw6⟩ := fewNs_parts hfb
  rw [hfb] at HC
  clear hfb
  have HOK := Lib.hid (HX.out.ok hw6)
  go_enter Tryz.func5, Tryz.ntmps5
  go_wp2_with fail
  refine HC.out.mono ?_
  clear HC
  rintro e m2 ⟨rfl, hl⟩
  have L0 := Lib.hid hl
  clear hl
  have HC := Lib.hid (rows7_any A1 n1 c1 xs m2 (HOK.out.later L0.out) (by omega))
  go_wp2_with fail
  refine HC.out.mono ?_
  clear HC
  rintro e m3 ⟨vr2, ys2, rfl, hov, hvy⟩
  have hl := hov.later
  replace L0 := Lib.hid (L0.out.trans hl)
  obtain ⟨Ar2, cr2, hvv, hcr, hnr⟩ := hov.row
  have hyl2 : ys2.length = n1 := by
    have := congrArg List.length hvy
    rw [valsN_length, valsN_length, hxl] at this
    exact this
  rw [hyl2] at hvv hnr
  subst hvv
  clear hyl2
  have HC := Lib.hid (group7_any Ar2 n1 cr2 ys2 m3 hnr (by omega))
  rw [hvy] at HC
  clear hov hl hcr hnr hvy
  go_wp2_with fail
  refine HC.out.mono ?_
  clear HC
  rintro e m4 ⟨vg, vt, gs, rs, rfl, og, ot, eg, et⟩
  have hl := og.later
  replace L0 := Lib.hid (L0.out.trans hl)
  obtain ⟨Ag, cg, rfl, -, hng⟩ := og.row
  obtain ⟨At, ct, rfl, -, hnt⟩ := ot.row
  have NG := Lib.hid hng; have NT := Lib.hid hnt; have EG := Lib.hid eg; have ET := Lib.hid et
  have hsum : gs.length + rs.length = n1 := by
    have h1 := congrArg List.length eg; have h3 := congrArg List.length et; have h2 := groupN_length (valsN xs)
    rw [valsN_length] at h1 h3
    rw [valsN_length, hxl] at h2
    omega
  clear hl og ot hng hnt eg et
  have HC := Lib.hid (refGroup7_any A1 n1 c1 xs m4 (HOK.out.later L0.out) (by omega))
  go_wp2_with fail
  refine HC.out.mono ?_
  clear HC
  rintro e m5 ⟨vc, vd, cs, ds, rfl, oc, od, ec, ed, -⟩
  have hl := oc.later
  replace L0 := Lib.hid (L0.out.trans hl); replace NG := Lib.hid (NG.out.later hl); replace NT := Lib.hid (NT.out.later hl)
  obtain ⟨Ac, cc, rfl, -, hnc⟩ := oc.row
  obtain ⟨Ad, cd, rfl, -, hnd⟩ := od.row
  have NC := Lib.hid hnc; have ND := Lib.hid hnd
  have HGC : Hid (valsN gs = valsN cs) := EG.out.trans ec.symm
  have HTD : Hid (valsN rs = valsN ds) := ET.out.trans ed.symm
  have hcl : cs.length ≤ 65536 := by have h1 := congrArg List.length HGC.out; rw [valsN_length, valsN_length] at h1; omega
  have hdl : ds.length ≤ 65536 := by have h1 := congrArg List.length HTD.out; rw [valsN_length, valsN_length] at h1; omega
  clear hl oc od hnc hnd ec ed EG ET
  have HA := Lib.hid (alive7_any m5)
  have HLG : Hid (gs.length = gs.length) := rfl
  generalize hgl : gs.length = ng at *
  generalize hrl : rs.length = nr at *
  generalize hcl' : cs.length = nc at *
  generalize hdl' : ds.length = nd at *
  clear hgl hrl hcl' hdl' HLG
  go_wp2_with fail
  refine HA.out.mono ?_
  rintro e m6 ⟨rfl, hl⟩
  replace L0 := Lib.hid (L0.out.trans hl); replace NG := Lib.hid (NG.out.later hl); replace NT := Lib.hid (NT.out.later hl); replace NC := Lib.hid (NC.out.later hl); replace ND := Lib.hid (ND.out.later hl)
  clear hl HA
  have HC := Lib.hid (olds7_any Ag ng cg gs m6 NG.out (by omega))
  go_wp2_with fail
  refine HC.out.mono ?_
  clear HC
  rintro e m7 ⟨vo, ys3, rfl, hov, hvy⟩
  have hl := hov.later
  replace L0 := Lib.hid (L0.out.trans hl); replace NT := Lib.hid (NT.out.later hl); replace NC := Lib.hid (NC.out.later hl); replace ND := Lib.hid (ND.out.later hl)
  obtain ⟨Ao, co, rfl, -, hno⟩ := hov.row
  have hol : ys3.length ≤ 65536 := by
    have h1 := congrArg List.length hvy; rw [valsN_length, valsN_length, NG.out.len] at h1; omega
  have HC := Lib.hid (refAll7_any Ao Ac ys3.length co nc cc ys3 cs m7 hno NC.out hol hcl true ⟨fun _ => hvy.trans HGC.out, fun _ => rfl⟩)
  clear hl hov hvy hno
  generalize ys3.length = no at HC hol ⊢
  go_wp2_with fail
  refine HC.out.mono ?_
  clear HC
  rintro e m8 ⟨rfl, hl⟩
  replace L0 := Lib.hid (L0.out.trans hl); replace NT := Lib.hid (NT.out.later hl); replace ND := Lib.hid (ND.out.later hl)
  clear hl
  have HC := Lib.hid (olds7_any At nr ct rs m8 NT.out (by omega))
  go_wp2_with fail
  refine HC.out.mono ?_
  clear HC
  rintro e m9 ⟨vo2, ys4, rfl, hov, hvy⟩
  have hl := hov.later
  replace L0 := Lib.hid (L0.out.trans hl); replace ND := Lib.hid (ND.out.later hl)
  obtain ⟨Ao2, co2, rfl, -, hno⟩ := hov.row
  have hol2 : ys4.length ≤ 65536 := by
    have h1 := congrArg List.length hvy; rw [valsN_length, valsN_length, NT.out.len] at h1; omega
  have HC := Lib.hid (refAll7_any Ao2 Ad ys4.length co2 nd cd ys4 ds m9 hno ND.out hol2 hdl true ⟨fun _ => hvy.trans HTD.out, fun _ => rfl⟩)
  clear hl hov hvy hno
  generalize ys4.length = no2 at HC hol2 ⊢
  go_wp2_with fail
  refine HC.out.mono ?_
  clear HC
  rintro e m10 ⟨rfl, hl⟩
  replace L0 := Lib.hid (L0.out.trans hl)
  clear hl
  have hz1 : ((ng : Int) + (nr : Int)) = (n1 : Int) := by omega
  go_wp2
  go_ret
  exact ⟨rfl, L0.out⟩

end Go.Proofs.YtlnjhimbgckdcaaGreat
