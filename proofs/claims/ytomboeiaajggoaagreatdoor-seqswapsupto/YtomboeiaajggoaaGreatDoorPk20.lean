import Derived.Test.YtomboeiaajggoaaGreatDoorPk19
import Derived.Test.YtomboeiaajggoaaGreatDoorPk17
import Derived.Test.YtomboeiaajggoaaGreatDoorPk11
import Derived.Deep.LoopGhost
import Derived.Deep.QuietTactic
import Derived.BigQuiet
import Derived.Lib.Hide
import Derived.Test.YtomboeiaajggoaaGreatDoorPk3
import Derived.Test.YtomboeiaajggoaaGreatDoorPk7
import Derived.Test.YtomboeiaajggoaaGreatDoorPk18
import Derived.Test.YtomboeiaajggoaaGreatDoorPk9
import Derived.Test.YtomboeiaajggoaaGreatDoorPk4
import Derived.Test.YtomboeiaajggoaaGreatDoorChecked
import Derived.Test.YtomboeiaajggoaaGreatDoorPk1
import Derived.Test.YtomboeiaajggoaaGreatDoorPk5

/-
  What seq's Split comes to, as a call, where what it asks by changes nothing.
-/
namespace Go.Proofs.YtomboeiaajggoaaGreatDoor
open Go.RowKit Go.Maps

/-- What Split tells. -/
def GivesSp (r : List Pr × List Pr) (w : World) (e : Ending) (w' : World) : Prop := ∃ v u ys zs, e = .returned (.tuple #[v, u]) ∧ OwnPs 48 w w' v ys ∧ OwnPs 48 w w' u zs ∧ valsP ys = r.1 ∧ valsP zs = r.2
/-- Behind k rounds: what is ahead, the rest, the row that is gone through; each away from the others. -/
structure SpI (w : World) (ls : List Pr) (n : Nat) (Ac : Option Addr) (cc : Nat) (bs : Nat → Bool) (k : Nat) (V : World) (v u : Value) (ys zs cs : List PrC) : Prop where
  ov : OwnPs 48 w V v ys
  ou : OwnPs 48 w V u zs
  oc : OwnPs 48 w V (.slice Ac n cc) cs
  vu : Apart2 v u ys zs
  vc : Apart2 v (.slice Ac n cc) ys cs
  uc : Apart2 u (.slice Ac n cc) zs cs
  cv : valsP cs = ls
  told : splitS bs 0 ([], []) (ls.take k) = (valsP ys, valsP zs)
theorem Apart2.nil {u : Value} {zs : List PrC} : Apart2 (.slice none 0 0) u [] zs := ⟨(fun g h => by cases h), (fun y hy => by cases hy), (fun z _ g h => by cases h)⟩
theorem BoxAt.grownS {w w' W : World} {g : Nat} {cs : Array Value} {t e : TypeId} {v : Value} {xs : List PrC} (h : BoxAt w g cs t) (hg : w.grownBy w' v.ownBlock) (ho : OwnPs e W w v xs) (hne : t ≠ e := by decide) : BoxAt w' g cs t := h.grown hg (fun e => ho.noBox h hne e.symm)
section
variable {w V V' : World} {ls : List Pr} {n : Nat} {Ac : Option Addr} {cc : Nat} {bs : Nat → Bool} {k : Nat} {v u : Value} {ys zs cs : List PrC}
theorem SpI.on (h : SpI w ls n Ac cc bs k V v u ys zs cs) (hl : Later V V') : SpI w ls n Ac cc bs k V' v u ys zs cs := ⟨h.ov.on hl, h.ou.on hl, h.oc.on hl, h.vu, h.vc, h.uc, h.cv, h.told⟩
theorem grown_parts {w0 w : World} {v v' : Value} {xs ys zs : List PrC} {e : TypeId} (hb : v'.ownBlock = v.ownBlock ∨ v'.ownBlock = some w.heap.size) {u : Value} (ou : OwnPs e w0 w u zs) (ha : Apart2 u v zs xs) (hu : ∀ y ∈ ys, ∀ g, u.ownBlock = some g → Away g y) : Apart2 u v' zs (xs ++ ys) := by
  refine ⟨fun g hg hv => ?_, fun z hz g hv => ?_, fun x hx g hg => ?_⟩
  · rcases hb with e | e
    · rw [e] at hv; exact ha.1 g hg hv
    · rw [e] at hv; cases hv; exact Nat.lt_irrefl _ (ou.lt _ hg)
  · rcases hb with e | e
    · rw [e] at hv; exact ha.2.1 z hz g hv
    · rw [e] at hv; cases hv; exact (ou.ok z hz).away (Nat.le_refl _)
  · rcases List.mem_append.1 hx with h1 | h1
    · exact ha.2.2 x h1 g hg
    · exact hu x h1 g hg
theorem Apart2.symm {v u : Value} {ys zs : List PrC} (h : Apart2 v u ys zs) : Apart2 u v zs ys := ⟨fun g hg hv => h.1 g hv hg, h.2.2, h.2.1⟩
theorem SpI.rest (h : SpI w ls n Ac cc bs k V v u ys zs cs) {u' : Value} {x : PrC} (ho : OwnPs 48 w V' u' (zs ++ [x])) (hg : V.grownBy V' u.ownBlock) (hb : u'.ownBlock = u.ownBlock ∨ u'.ownBlock = some V.heap.size) (hx : x ∈ cs) (ht : splitS bs 0 ([], []) (ls.take (k + 1)) = (valsP ys, valsP (zs ++ [x]))) : SpI w ls n Ac cc bs (k + 1) V' v u' ys (zs ++ [x]) cs :=
  ⟨h.ov.grownO hg (fun g hu hv => h.vu.1 g hv hu) h.vu.2.1 ho.later, ho, h.oc.grownO hg (fun g hu hc => h.uc.1 g hu hc) (fun z hz g hu => h.uc.2.2 z hz g hu) ho.later,
    grown_parts hb h.ov h.vu (fun y hy g hv => by simp at hy; subst hy; exact h.vc.2.2 _ hx g hv), h.vc,
    (grown_parts hb h.oc h.uc.symm (fun y hy g hv => by simp at hy; subst hy; exact h.oc.away _ hx g hv)).symm, h.cv, ht⟩
theorem SpI.first (h : SpI w ls n Ac cc bs k V v u ys zs cs) {V1 : World} {v2 u2 v' : Value} {ys2 zs2 : List PrC} (o2 : OwnPs 48 V V1 u2 zs2) (f1 : ∀ y ∈ ys2, Fresh V y) (f2 : ∀ z ∈ zs2, Fresh V z) (ap : Apart2 v2 u2 ys2 zs2)
    (ho : OwnPs 48 w V' v' (ys ++ ys2)) (hg : V1.grownBy V' v.ownBlock) (hb : v'.ownBlock = v.ownBlock ∨ v'.ownBlock = some V1.heap.size) (ht : splitS bs 0 ([], []) (ls.take (k + 1)) = (valsP (ys ++ ys2), valsP zs2)) : SpI w ls n Ac cc bs (k + 1) V' v' u2 (ys ++ ys2) zs2 cs := by
  have hl := o2.later
  have a1 : Apart2 u2 v zs2 ys := ⟨fun g hu hv => by have := o2.block g hu; have := h.ov.lt g hv; omega, fun z hz g hv => (f2 z hz).away (h.ov.lt g hv), fun y hy g hu => (h.ov.ok y hy).away (o2.block g hu)⟩
  have a2 : Apart2 u2 (.slice Ac n cc) zs2 cs := ⟨fun g hu hv => by have := o2.block g hu; have := h.oc.lt g hv; omega, fun z hz g hv => (f2 z hz).away (h.oc.lt g hv), fun y hy g hu => (h.oc.ok y hy).away (o2.block g hu)⟩
  exact ⟨ho, (o2.base h.ov.later).grownO hg (fun g hv hu => a1.1 g hu hv) a1.2.1 ho.later, (h.oc.on hl).grownO hg (fun g hv hc => h.vc.1 g hv hc) (fun z hz g hv => h.vc.2.2 z hz g hv) ho.later,
    (grown_parts hb (o2.base h.ov.later) a1 ap.2.1).symm, (grown_parts hb (h.oc.on hl) h.vc.symm (fun y hy g hc => (f1 y hy).away (h.oc.lt g hc))).symm, a2, h.cv, ht⟩
theorem SpI.zlen (h : SpI w ls n Ac cc bs k V v u ys zs cs) : ys.length + zs.length ≤ ls.length := by
  have h1 := (splitS_lines bs (ls.take k) 0 ([], [])).2
  rw [h.told] at h1
  simp only [valsP_length, List.length_nil, Nat.zero_add, Nat.add_zero, List.length_take] at h1
  omega
end


set_option maxRecDepth 100000 in
set_option maxHeartbeats 1600000 in
theorem seqSplit_any (A : Option Addr) (n c : Nat) (xs : List PrC) (w : World) (hx : PsOk w A n xs) (hn : n ≤ 30000) (fi : FuncId) (lb : Array Value) (ef : ∀ args w, (callFunc fi args).run Tryz.prog w = .ok (.enter fi args) w) (bs : Nat → Bool)
    (hask : ∀ (k : Nat) (y : PrC) (W : World), Later w W → PrOk W y → (valsP xs)[k]? = some y.v → Calls Tryz.prog fi (#[.int .i64 (k : Nat), prV y] ++ lb) W (Says (bs k) W)) :
    Calls Tryz.prog 32 #[.slice A n c, .func (.func fi) #[] lb] w (GivesSp (splitS bs 0 ([], []) (valsP xs)) w) := by
  have hlen := hx.len
  obtain ⟨i0, hi, hz0, hz1, hz2⟩ := info_parts Tryz.primInfo
  obtain ⟨b2, b3, hl0⟩ : BoxAt ((w.alloc (.cells #[.slice A n c] 25)).alloc (.cells #[.func (.func fi) #[] lb] 68)) w.heap.size #[.slice A n c] 25 ∧ BoxAt ((w.alloc (.cells #[.slice A n c] 25)).alloc (.cells #[.func (.func fi) #[] lb] 68)) (w.heap.size + 1) #[.func (.func fi) #[] lb] 68 ∧ Later w ((w.alloc (.cells #[.slice A n c] 25)).alloc (.cells #[.func (.func fi) #[] lb] 68)) := by
    refine ⟨(BoxAt.made w _ _).alloc _, ?_, ((Later.refl w).alloc _).alloc _⟩
    have := BoxAt.made (w.alloc (.cells #[.slice A n c] 25)) #[.func (.func fi) #[] lb] 68
    rw [World.size_alloc] at this
    exact this
  have HX := Lib.hid hx; have HASK := Lib.hid hask
  clear hx hask
  go_enter Tryz.func32, Tryz.ntmps32
  go_upto_region 1 with fail
  generalize (w.alloc (.cells #[.slice A n c] 25)).alloc (.cells #[.func (.func fi) #[] lb] 68) = wb at b2 b3 hl0 ⊢
  have hlt3 := b3.lt
  have HC := Lib.hid (clone5_any A n c xs wb (HX.out.later hl0) (by omega))
  have c2 := b2.cell (i := 0) rfl
  go_wp2_with fail
  refine HC.out.mono ?_
  rintro e w1 ⟨vc, cs, rfl, hoc, hvc, hfc⟩
  have hsc := valsP_length cs
  rw [hvc, valsP_length, hlen] at hsc
  obtain ⟨Ac, cc, hv, hcc, _⟩ := hoc.row
  rw [← hsc] at hv hcc
  subst hv
  have B2 := b2.later hoc.later; have B3 := b3.later hoc.later
  have d2 := B2.cell (i := 0) rfl
  have e2 := B2.frozen 0
  have t2 := turned_set w1 w.heap.size 0 (.slice Ac n cc)
  have hl1 : Later w (w1.setCell ⟨w.heap.size, 0, none⟩ (.slice Ac n cc)) := (hl0.trans hoc.later).turn t2 (Nat.le_refl _)
  have HOC : Hid (OwnPs 48 w (w1.setCell ⟨w.heap.size, 0, none⟩ (.slice Ac n cc)) (.slice Ac n cc) cs) := (hoc.base hl0).other t2 ((hoc.base hl0).noBox B2 (by decide)) (fun x hx => (hfc x hx).away (by omega)) hl1
  have HB2 := Lib.hid (B2.set 0 (.slice Ac n cc)); have HB3 := Lib.hid (B3.other t2 (by omega)); have HVC := Lib.hid hvc; have HL1 := Lib.hid hl1
  have HSC := Lib.hid hsc.symm
  clear b2 b3 c2 hl0 hoc hvc hfc B2 B3 t2 hl1 HC hsc
  go_upto_region 3 with fail
  generalize w1.setCell ⟨w.heap.size, 0, none⟩ (.slice Ac n cc) = wc at HOC HB2 HB3 HL1 ⊢
  clear d2 e2
  have d2 := HB2.out.cell (i := 0) rfl
  go_wp2
  go_loopg [4, 5, 17] (n + 1) (fun g s4 s5 s17 wr => ∃ (k : Nat) (v u : Value) (ys zs : List PrC), k ≤ n ∧ n - k ≤ g ∧ s17 = .int .i64 k ∧ s4 = v ∧ s5 = u ∧ Hid (SpI w (valsP xs) n Ac cc bs k wr v u ys zs cs) ∧ Hid (BoxAt wr w.heap.size #[.slice Ac n cc] 25) ∧ Hid (BoxAt wr (w.heap.size + 1) #[.func (.func fi) #[] lb] 68))
  case atStart => exact ⟨0, _, _, [], [], Nat.zero_le _, by omega, rfl, rfl, rfl, ⟨OwnPs.nil HL1.out, OwnPs.nil HL1.out, HOC.out, Apart2.nil, Apart2.nil, Apart2.nil, HVC.out, by simp [splitS, valsP]⟩, HB2.out, HB3.out⟩
  case round =>
    obtain ⟨k, v, u, ys, zs, hk, hg, rfl, hv, hu, hsp, hb2, hb3⟩ := hrel
    obtain rfl := hv.symm
    obtain rfl := hu.symm
    clear hv hu
    have hzl := hsp.out.zlen
    rw [valsP_length, hlen] at hzl
    by_cases hlt : k < n
    · obtain ⟨b, o, x, rfl, hz, hok, g0, g1, g2, g3, g4, g5⟩ := hsp.out.oc.ps.get hlt
      have hatc := valsP_at hz
      rw [HVC.out] at hatc
      have HLB : Hid (Later wr (wr.alloc (.cells #[.int .i64 x.v.kind, .string x.v.name, .string x.v.to, .int .i64 x.v.place, .slice x.A x.n x.c, .slice x.B x.m x.d] 48))) := (Later.refl wr).alloc _
      have HQ := Lib.hid (splitAsk_any (w.heap.size + 1) w.heap.size k b o n cc fi lb x cs (bs k) _ (hb3.out.later HLB.out) (hb2.out.later HLB.out) (hsp.out.oc.ps.row.later HLB.out) hz hlt (hok.later HLB.out) ef (fun y W hl hy hyv => HASK.out k y W ((hsp.out.ov.later.trans HLB.out).trans hl) hy (by rw [hyv]; exact hatc)))
      have HATC := Lib.hid (List.mem_of_getElem? hz); have HATV := Lib.hid hatc; have HOKX := Lib.hid hok
      have HBX : Hid (BoxAt (wr.alloc (.cells #[.int .i64 x.v.kind, .string x.v.name, .string x.v.to, .int .i64 x.v.place, .slice x.A x.n x.c, .slice x.B x.m x.d] 48)) wr.heap.size (prL x).toArray 48) := BoxAt.made wr (prL x).toArray _
      have HTK := Lib.hid (splitS_take bs (valsP xs) 0 ([], []) hatc)
      clear hz hok hatc
      rw [hsp.out.told, Nat.zero_add] at HTK
      cases hbk : bs k
      · rw [hbk] at HQ HTK
        have HST : Hid (splitS bs 0 ([], []) ((valsP xs).take (k + 1)) = (valsP ys, valsP (zs ++ [x]))) := by
          show _ = _
          rw [HTK.out]
          unfold splitStep
          simp only [valsP, List.map_append, List.map_cons, List.map_nil]
          split <;> simp
        clear HTK hbk
        go_wp2_with fail
        refine HQ.out.mono ?_
        rintro e w2 ⟨rfl, hl2⟩
        have HL2 := Lib.hid (HLB.out.trans hl2)
        have HB2 := Lib.hid (hb2.out.later HL2.out); have HB3 := Lib.hid (hb3.out.later HL2.out); have HSP := Lib.hid (hsp.out.on HL2.out); have HBX2 := Lib.hid (HBX.out.later hl2)
        obtain ⟨p0, p1, p2, p3, p4, p5⟩ := BoxAt.all (x := x) HBX2.out
        have HL3 : Hid (Later w2 (w2.alloc (.cells #[.int .i64 x.v.kind, .string x.v.name, .string x.v.to, .int .i64 x.v.place, .slice x.A x.n x.c, .slice x.B x.m x.d] 48))) := (Later.refl w2).alloc _
        have HO5 := Lib.hid (HSP.out.ou.on HL3.out); have HSP3 := Lib.hid (HSP.out.on HL3.out); have HB5 := Lib.hid (HB2.out.later HL3.out); have HB6 := Lib.hid (HB3.out.later HL3.out); have HOK3 := Lib.hid (HOKX.out.later (HL2.out.trans HL3.out))
        clear hl2 HQ g0 g1 g2 g3 g4 g5
        go_wp2_with (at_builtin; refine wpList_append_ps5 rfl _ _ 25 rfl i0 _ 96 Tryz.underlying25 hi hz0 hz1 hz2 rfl HO5.out rfl _ _ _ [x] rfl (row_one _ _ _) (fun z hz => by simp at hz; subst hz; exact HOK3.out) (fun z hz g hgb => by simp at hz; subst hz; exact HSP3.out.uc.2.2 _ HATC.out g hgb) (by omega) (by omega) ?_; intro v4 w4 hown4 hg4 hb4; have HO4 := Lib.hid hown4; have HG4 := Lib.hid hg4; have HBL := Lib.hid hb4; clear hown4 hg4 hb4)
        have HN := Lib.hid (HSP3.out.rest HO4.out HG4.out HBL.out HATC.out HST.out)
        go_roundg (n - (k + 1))
        case measure => omega
        case rel => exact ⟨k + 1, v, v4, ys, zs ++ [x], by omega, Nat.le_refl _, by go_num, rfl, rfl, HN, HB5.out.grownS HG4.out HO5.out, HB6.out.grownS HG4.out HO5.out⟩
      · rw [hbk] at HQ HTK
        clear hbk
        obtain ⟨Au, cu, hu, hcu, _⟩ := hsp.out.ou.row
        subst hu
        go_wp2_with fail
        refine HQ.out.mono ?_
        rintro e w2 ⟨rfl, hl2⟩
        have HL2 := Lib.hid (HLB.out.trans hl2)
        have HBX2 := Lib.hid (HBX.out.later hl2)
        obtain ⟨p0, p1, p2, p3, p4, p5⟩ := BoxAt.all (x := x) HBX2.out
        have HL3 : Hid (Later w2 (w2.alloc (.cells #[.int .i64 x.v.kind, .string x.v.name, .string x.v.to, .int .i64 x.v.place, .slice x.A x.n x.c, .slice x.B x.m x.d] 48))) := (Later.refl w2).alloc _
        have HSP3 := Lib.hid (hsp.out.on (HL2.out.trans HL3.out)); have HOK3 := Lib.hid (HOKX.out.later (HL2.out.trans HL3.out))
        have HSW := Lib.hid (seqSwap_any Au (some ⟨w2.heap.size, 0, none⟩) zs.length cu 1 1 zs [x] _ HSP3.out.ou.ps ⟨row_one w2 x 48, fun z hz => by simp at hz; subst hz; exact HOK3.out⟩ (by omega) (by omega))
        have HB2 := Lib.hid (hb2.out.later (HL2.out.trans HL3.out)); have HB3 := Lib.hid (hb3.out.later (HL2.out.trans HL3.out)); have HBX3 := Lib.hid (HBX2.out.later HL3.out)
        clear hl2 HQ g0 g1 g2 g3 g4 g5
        cases hs : swapS (valsP zs) (valsP [x]) with
        | none =>
          rw [hs] at HSW
          have HST : Hid (splitS bs 0 ([], []) ((valsP xs).take (k + 1)) = (valsP ys, valsP (zs ++ [x]))) := by
            show _ = _
            rw [HTK.out]
            unfold splitStep
            dsimp only
            rw [show swapS (valsP zs) [x.v] = none from hs]
            simp [valsP]
          clear HTK hs
          go_wp2_with fail
          refine HSW.out.mono ?_
          rintro e w4 ⟨hl4, rfl⟩
          clear p0 p1 p2 p3 p4 p5 HSW
          have HBX4 := Lib.hid (HBX3.out.later hl4)
          obtain ⟨p0, p1, p2, p3, p4, p5⟩ := BoxAt.all (x := x) HBX4.out
          have HL5 : Hid (Later w4 (w4.alloc (.cells #[.int .i64 x.v.kind, .string x.v.name, .string x.v.to, .int .i64 x.v.place, .slice x.A x.n x.c, .slice x.B x.m x.d] 48))) := (Later.refl w4).alloc _
          have HSP5 := Lib.hid (HSP3.out.on (hl4.trans HL5.out)); have HO5 := Lib.hid HSP5.out.ou; have HB5 := Lib.hid (HB2.out.later (hl4.trans HL5.out)); have HB6 := Lib.hid (HB3.out.later (hl4.trans HL5.out)); have HOK5 := Lib.hid (HOK3.out.later (hl4.trans HL5.out))
          clear hl4
          go_wp2_with (at_builtin; refine wpList_append_ps5 rfl _ _ 25 rfl i0 _ 96 Tryz.underlying25 hi hz0 hz1 hz2 rfl HO5.out rfl _ _ _ [x] rfl (row_one _ _ _) (fun z hz => by simp at hz; subst hz; exact HOK5.out) (fun z hz g hgb => by simp at hz; subst hz; exact HSP5.out.uc.2.2 _ HATC.out g hgb) (by omega) (by omega) ?_; intro v6 w6 hown6 hg6 hb6; have HO6 := Lib.hid hown6; have HG6 := Lib.hid hg6; have HBL := Lib.hid hb6; clear hown6 hg6 hb6)
          have HN := Lib.hid (HSP5.out.rest HO6.out HG6.out HBL.out HATC.out HST.out)
          go_roundg (n - (k + 1))
          case measure => omega
          case rel => exact ⟨k + 1, v, v6, ys, zs ++ [x], by omega, Nat.le_refl _, by go_num, rfl, rfl, HN, HB5.out.grownS HG6.out HO5.out, HB6.out.grownS HG6.out HO5.out⟩
        | some r =>
          rw [hs] at HSW
          have hrl : r.1.length = 1 := by have := (swapS_length (a := r.1) (b := r.2) hs).1; simpa [valsP] using this
          have HRS := Lib.hid (show swapS (valsP zs) [x.v] = some r from hs)
          clear hs
          go_wp2_with fail
          refine HSW.out.mono ?_
          rintro e w4 ⟨hl4, v2, u2, ys2, zs2, rfl, o1, o2, e1, e2, f1, f2, ap⟩
          clear p0 p1 p2 p3 p4 p5 HSW
          have HST : Hid (splitS bs 0 ([], []) ((valsP xs).take (k + 1)) = (valsP (ys ++ ys2), valsP zs2)) := by
            show _ = _
            rw [HTK.out]
            unfold splitStep
            dsimp only
            rw [HRS.out]
            simp only [if_true]
            rw [← e1, ← e2]
            simp [valsP]
          clear HTK HRS
          have hyl : ys2.length = 1 := by have := valsP_length ys2; rw [e1] at this; omega
          obtain ⟨A2, c2, hv2, hc2, hps2⟩ := o1.row
          subst hv2
          rw [hyl] at hps2 hc2 ⊢
          have HOV := Lib.hid (HSP3.out.ov.on hl4); have HPS := Lib.hid hps2; have HO2 := Lib.hid o2; have HF1 := Lib.hid f1; have HF2 := Lib.hid f2; have HAP := Lib.hid ap
          have HB5 := Lib.hid (HB2.out.later hl4); have HB6 := Lib.hid (HB3.out.later hl4)
          clear hl4 o1 o2 e1 e2 f1 f2 ap hps2
          go_wp2_with (at_builtin; refine wpList_append_ps5 rfl _ _ 25 rfl i0 _ 96 Tryz.underlying25 hi hz0 hz1 hz2 rfl HOV.out rfl _ _ _ ys2 rfl HPS.out.row HPS.out.each (fun z hz g hgb => (HF1.out z hz).away (HSP3.out.ov.lt g hgb)) (by omega) (by omega) ?_; intro v6 w6 hown6 hg6 hb6; have HO6 := Lib.hid hown6; have HG6 := Lib.hid hg6; have HBL := Lib.hid hb6; clear hown6 hg6 hb6)
          have HN := Lib.hid (HSP3.out.first HO2.out HF1.out HF2.out HAP.out HO6.out HG6.out HBL.out HST.out)
          go_roundg (n - (k + 1))
          case measure => omega
          case rel => exact ⟨k + 1, v6, u2, ys ++ ys2, zs2, by omega, Nat.le_refl _, by go_num, rfl, rfl, HN, HB5.out.grownS HG6.out HOV.out, HB6.out.grownS HG6.out HOV.out⟩
    · have HE : Hid (splitS bs 0 ([], []) (valsP xs) = (valsP ys, valsP zs)) := by
        have := hsp.out.told
        rw [List.take_of_length_le (by rw [valsP_length, hlen]; omega)] at this
        exact this
      go_wp2
      go_ret2
      refine ⟨v, u, ys, zs, rfl, hsp.out.ov, hsp.out.ou, ?_, ?_⟩
      · rw [HE.out]
      · rw [HE.out]

end Go.Proofs.YtomboeiaajggoaaGreatDoor

/-
  What the statements' own Many comes to, as a call: what prims weigh.
-/
namespace Go.Proofs.YtomboeiaajggoaaGreatDoor
open Go.RowKit

theorem sizesP_take {l : List ByteArray} {k : Nat} (h : k < l.length) : ((l.take (k + 1)).map ByteArray.size).sum = ((l.take k).map ByteArray.size).sum + (l.getD k ByteArray.empty).size := by
  rw [List.take_succ_eq_append_getElem h, List.map_append, List.sum_append]
  simp [List.getD, List.getElem?_eq_getElem h]
theorem sizesP_take_le (l : List ByteArray) (k : Nat) : ((l.take k).map ByteArray.size).sum ≤ (l.map ByteArray.size).sum := by
  have : (l.map ByteArray.size).sum = ((l.take k).map ByteArray.size).sum + ((l.drop k).map ByteArray.size).sum := by
    rw [← List.sum_append, ← List.map_append, List.take_append_drop]
  omega

set_option maxRecDepth 100000 in
set_option maxHeartbeats 1000000 in
theorem manyP_any (A : Option Addr) (n c : Nat) (xs : List PrC) (w : World) (hx : Prims w A n xs) (hn : n ≤ 1048576) (hW : weightPs xs ≤ 4194304) :
    Calls Tryz.prog 30 #[.slice A n c] w fun e w' => e = .returned (.int .i64 (n + weightPs xs : Nat)) ∧ Later w w' := by
  have HX := Lib.hid hx; clear hx
  go_enter Tryz.func30, Tryz.ntmps30
  go_wp2
  go_loopg [3, 14] (n + 1) (fun g s3 s14 wr => ∃ k : Nat, k ≤ n ∧ n - k ≤ g ∧ s14 = .int .i64 k ∧ s3 = .int .i64 (n + weightPs (xs.take k) : Nat) ∧ Later w wr)
  case atStart => exact ⟨0, Nat.zero_le _, by omega, rfl, rfl, Later.refl w⟩
  case round =>
    obtain ⟨k, hk, hg, rfl, rfl, hwr⟩ := hrel
    by_cases hlt : k < n
    · obtain ⟨b, o, x, rfl, hz, g0, g1, g2, g3, g4, g5⟩ := (HX.out.later hwr).get hlt
      have hstep := weightPs_take hz
      have hle := weightPs_take_le xs (k + 1)
      rw [hstep] at hle
      have hcm := (HX.out.later hwr).each x (List.mem_of_getElem? hz)
      have hlen := hcm.old.len
      have hlen2 := hcm.new.len
      have HW := Lib.hid hwr; have HROW := Lib.hid hcm.old; have HROW2 := Lib.hid hcm.new
      have hwt : weightP x.v = x.v.name.size + x.v.to.size + x.n + x.m + (x.v.old.map ByteArray.size).sum + (x.v.new.map ByteArray.size).sum := by unfold weightP; rw [hlen, hlen2]
      rw [hwt] at hle hstep
      have hle2 : n + weightPs (xs.take k) + x.v.name.size + x.v.to.size + x.n + x.m + (x.v.old.map ByteArray.size).sum + (x.v.new.map ByteArray.size).sum ≤ 6000000 := by omega
      have HST := Lib.hid hstep
      clear hle hstep hwt hcm hwr hz
      generalize weightPs (xs.take k) = W0 at HST hle2 ⊢
      generalize x.v.name = nm at *
      generalize x.v.to = to at *
      generalize x.v.old = l at *
      generalize x.v.new = r at *
      generalize x.v.kind = kd at *
      generalize x.v.place = pl at *
      generalize x.n = nl at *
      generalize x.A = Al at *
      generalize x.c = cl at *
      generalize x.m = nr at *
      generalize x.B = Ar at *
      generalize x.d = cr at *
      have hlb : Later wr (wr.alloc (.cells #[.int .i64 kd, .string nm, .string to, .int .i64 pl, .slice Al nl cl, .slice Ar nr cr] 70)) := (Later.refl wr).alloc _
      have HLB := Lib.hid hlb; clear hlb
      have HLEN := Lib.hid hlen; have HLEN2 := Lib.hid hlen2; clear hlen hlen2
      go_wp2
      go_loopg [3, 38] (nl + 1) (fun g s3 s38 wx => ∃ j : Nat, j ≤ nl ∧ nl - j ≤ g ∧ s38 = .int .i64 j ∧ s3 = .int .i64 (n + W0 + nm.size + to.size + nl + nr + ((l.take j).map ByteArray.size).sum : Nat) ∧ wx = wr.alloc (.cells #[.int .i64 kd, .string nm, .string to, .int .i64 pl, .slice Al nl cl, .slice Ar nr cr] 70))
      case atStart => exact ⟨0, Nat.zero_le _, by omega, rfl, by simp; go_num, rfl⟩
      case round =>
        obtain ⟨j, hj, hgj, rfl, rfl, rfl⟩ := hrel
        by_cases hjl : j < nl
        · obtain ⟨b1, o1, rfl, h4⟩ := (HROW.out.later HLB.out).get hjl
          have h1 := sizesP_take (l := l) (k := j) (by rw [HLEN.out]; exact hjl)
          have h2 := sizesP_take_le l (j + 1)
          rw [h1] at h2
          have H1 := Lib.hid h1; clear h1
          generalize l.getD j ByteArray.empty = sx at *
          generalize ((l.take j).map ByteArray.size).sum = S at *
          go_wp2
          go_roundg (nl - (j + 1))
          case measure => omega
          case rel => exact ⟨j + 1, by omega, Nat.le_refl _, by go_num, by rw [H1.out]; go_num, rfl⟩
        · have e : l.take j = l := List.take_of_length_le (by rw [HLEN.out]; omega)
          rw [e]
          clear e
          generalize (l.map ByteArray.size).sum = S1 at *
          go_wp2
          go_loopg [3, 50] (nr + 1) (fun g s3 s50 wx => ∃ j : Nat, j ≤ nr ∧ nr - j ≤ g ∧ s50 = .int .i64 j ∧ s3 = .int .i64 (n + W0 + nm.size + to.size + nl + nr + S1 + ((r.take j).map ByteArray.size).sum : Nat) ∧ wx = wr.alloc (.cells #[.int .i64 kd, .string nm, .string to, .int .i64 pl, .slice Al nl cl, .slice Ar nr cr] 70))
          case atStart => exact ⟨0, Nat.zero_le _, by omega, rfl, by simp, rfl⟩
          case round =>
            obtain ⟨i, hi, hgi, rfl, rfl, rfl⟩ := hrel
            by_cases hil : i < nr
            · obtain ⟨b1, o1, rfl, h4⟩ := (HROW2.out.later HLB.out).get hil
              have h1 := sizesP_take (l := r) (k := i) (by rw [HLEN2.out]; exact hil)
              have h2 := sizesP_take_le r (i + 1)
              rw [h1] at h2
              have H1 := Lib.hid h1; clear h1
              generalize r.getD i ByteArray.empty = sx at *
              generalize ((r.take i).map ByteArray.size).sum = S at *
              go_wp2
              go_roundg (nr - (i + 1))
              case measure => omega
              case rel => exact ⟨i + 1, by omega, Nat.le_refl _, by go_num, by rw [H1.out]; go_num, rfl⟩
            · have e : r.take i = r := List.take_of_length_le (by rw [HLEN2.out]; omega)
              rw [e]
              clear e
              go_wp2
              go_roundg (n - (k + 1))
              case measure => omega
              case rel => exact ⟨k + 1, by omega, Nat.le_refl _, by go_num, by rw [HST.out]; go_num, HW.out.trans HLB.out⟩
    · have e : xs.take k = xs := List.take_of_length_le (by rw [HX.out.len]; omega)
      rw [e]
      have HW := Lib.hid hwr
      clear e hwr
      go_wp2
      go_ret
      exact ⟨rfl, HW.out⟩

end Go.Proofs.YtomboeiaajggoaaGreatDoor

/-
  What the statements' own few of layer 5 comes to, as a call.
-/
namespace Go.Proofs.YtomboeiaajggoaaGreatDoor
open Go.RowKit Go.Maps

/-- A row that came in, as a slice. -/
structure FR where
  A : Option Addr
  n : Nat
  c : Nat
  xs : List PrC
def FR.is (w : World) (r : FR) : Prop := Prims w r.A r.n r.xs ∧ r.n ≤ 1048576 ∧ weightPs r.xs ≤ 4194304
def sumB (rs : List FR) : Nat := (rs.map fun r => r.n + weightPs r.xs).sum
def sumN (rs : List FR) : Nat := (rs.map fun r => r.n).sum
theorem sumB_take {rs : List FR} {k : Nat} {r : FR} (h : rs[k]? = some r) : sumB (rs.take (k + 1)) = sumB (rs.take k) + (r.n + weightPs r.xs) := by
  obtain ⟨hk, rfl⟩ := List.getElem?_eq_some_iff.1 h
  unfold sumB
  rw [List.take_succ_eq_append_getElem hk, List.map_append, List.sum_append]
  simp
theorem sumN_take {rs : List FR} {k : Nat} {r : FR} (h : rs[k]? = some r) : sumN (rs.take (k + 1)) = sumN (rs.take k) + r.n := by
  obtain ⟨hk, rfl⟩ := List.getElem?_eq_some_iff.1 h
  unfold sumN
  rw [List.take_succ_eq_append_getElem hk, List.map_append, List.sum_append]
  simp
def fewB (rs : List FR) : Bool := decide (sumB rs ≤ 6000) && decide (sumN rs ≤ 40)

set_option maxRecDepth 100000 in
set_option maxHeartbeats 800000 in
theorem few5_any (b m : Nat) (rs : List FR) (w : World) (hl : rs.length = m) (hm : m ≤ 8) (hc : ∀ k r, rs[k]? = some r → w.cell? ⟨b, k, none⟩ = some (.slice r.A r.n r.c)) (hr : ∀ r ∈ rs, r.is w) :
    Calls Tryz.prog 6 #[.slice (some ⟨b, 0, none⟩) m m] w (Says (fewB rs) w) := by
  have HC := Lib.hid hc; have HR := Lib.hid hr; have HLEN := Lib.hid hl
  clear hc hr hl
  go_enter Tryz.func6, Tryz.ntmps6
  go_wp2
  go_loopg [3, 4, 9] (m + 1) (fun g s3 s4 s9 wr => ∃ k : Nat, k ≤ m ∧ m - k ≤ g ∧ s9 = .int .i64 k ∧ s3 = .int .i64 (sumB (rs.take k) : Nat) ∧ s4 = .int .i64 (sumN (rs.take k) : Nat) ∧ sumB (rs.take k) ≤ k * 10000000 ∧ sumN (rs.take k) ≤ k * 10000000 ∧ Hid (Later w wr))
  case atStart => exact ⟨0, Nat.zero_le _, by omega, rfl, by simp [sumB], by simp [sumN], by simp [sumB], by simp [sumN], Later.refl w⟩
  case round =>
    obtain ⟨k, hk, hg, rfl, rfl, rfl, hb1, hb2, hwr⟩ := hrel
    by_cases hlt : k < m
    · have hz := List.getElem?_eq_getElem (by rw [HLEN.out]; exact hlt : k < rs.length)
      generalize rs[k]'(by rw [HLEN.out]; exact hlt) = r at hz
      have hcell := hwr.out.cell (HC.out k r hz)
      obtain ⟨h1, h2, h3⟩ := HR.out r (List.mem_of_getElem? hz)
      have HM := Lib.hid (manyP_any r.A r.n r.c r.xs wr (h1.later hwr.out) h2 h3)
      have HB := Lib.hid (sumB_take hz); have HN := Lib.hid (sumN_take hz)
      clear h1 hz
      generalize sumB (rs.take k) = S at HB hb1 ⊢
      generalize sumN (rs.take k) = N at HN hb2 ⊢
      generalize weightPs r.xs = Wt at HM HB h3 ⊢
      generalize r.A = A at HM hcell ⊢
      generalize r.n = n at *
      generalize r.c = c at HM hcell ⊢
      go_wp2_with fail
      refine HM.out.mono ?_
      rintro e w2 ⟨rfl, hl2⟩
      have HL := Lib.hid (hwr.out.trans hl2)
      clear hl2 HM hcell
      go_wp2
      go_roundg (m - (k + 1))
      case measure => omega
      case rel => exact ⟨k + 1, by omega, Nat.le_refl _, by go_num, by rw [HB.out]; go_num, by rw [HN.out]; go_num, by rw [HB.out]; omega, by rw [HN.out]; omega, HL⟩
    · have e : rs.take k = rs := List.take_of_length_le (by rw [HLEN.out]; omega)
      rw [e] at hb1 hb2 ⊢
      clear e
      have HF : Hid (fewB rs = (decide (sumB rs ≤ 6000) && decide (sumN rs ≤ 40))) := Lib.hid rfl
      generalize sumB rs = S at HF hb1 ⊢
      generalize sumN rs = N at HF hb2 ⊢
      by_cases h6 : S ≤ 6000
      · go_wp2
        go_ret
        refine ⟨?_, hwr.out⟩
        rw [HF.out, decide_eq_true h6, Bool.true_and]
        show Ending.returned (.bool (decide ((N : Int) ≤ 40))) = _
        rw [show decide ((N : Int) ≤ 40) = decide (N ≤ 40) from decide_eq_decide.2 (by omega)]
      · go_wp2
        go_ret
        exact ⟨by rw [HF.out, decide_eq_false h6]; rfl, hwr.out⟩

end Go.Proofs.YtomboeiaajggoaaGreatDoor

/-
  Rows of prims as values; what the functions of layer 5 come to over them.
-/
namespace Go.Proofs.YtomboeiaajggoaaGreatDoor
open Go.RowKit Go.Maps

/-- The value is a slice that reads as these prims. -/
def PsAt (w : World) (v : Value) (l : List Pr) : Prop := ∃ A n c xs, v = .slice A n c ∧ n ≤ c ∧ PsOk w A n xs ∧ valsP xs = l
def GivesV (l : List Pr) (w : World) (e : Ending) (w' : World) : Prop := ∃ v, e = .returned v ∧ PsAt w' v l ∧ Later w w'
def fstS (r : Option (List Pr × List Pr)) : List Pr := match r with | none => [] | some r => r.1
def sndS (r : Option (List Pr × List Pr)) : List Pr := match r with | none => [] | some r => r.2
def oneS (r : Option (List Pr)) : List Pr := match r with | none => [] | some r => r
/-- Two rows and whether, a row and whether, two rows. -/
def Gives3 (r : Option (List Pr × List Pr)) (w : World) (e : Ending) (w' : World) : Prop := ∃ v u, e = .returned (.tuple #[v, u, .bool r.isSome]) ∧ PsAt w' v (fstS r) ∧ PsAt w' u (sndS r) ∧ Later w w'
def Gives1 (r : Option (List Pr)) (w : World) (e : Ending) (w' : World) : Prop := ∃ v, e = .returned (.tuple #[v, .bool r.isSome]) ∧ PsAt w' v (oneS r) ∧ Later w w'
def GivesR2 (r : List Pr × List Pr) (w : World) (e : Ending) (w' : World) : Prop := ∃ v u, e = .returned (.tuple #[v, u]) ∧ PsAt w' v r.1 ∧ PsAt w' u r.2 ∧ Later w w'
section
variable {w w' : World} {v u : Value} {l m : List Pr}
theorem PsAt.later (h : PsAt w v l) (hl : Later w w') : PsAt w' v l := by obtain ⟨A, n, c, xs, rfl, hc, hp, hv⟩ := h; exact ⟨A, n, c, xs, rfl, hc, hp.later hl, hv⟩
theorem PsAt.nil (w : World) : PsAt w (.slice none 0 0) [] := ⟨none, 0, 0, [], rfl, Nat.le_refl _, PsOk.none _ _, rfl⟩
theorem PsAt.open (h : PsAt w v l) : ∃ A c xs, v = .slice A l.length c ∧ l.length ≤ c ∧ PsOk w A l.length xs ∧ valsP xs = l := by
  obtain ⟨A, n, c, xs, rfl, hc, hp, rfl⟩ := h
  have := hp.len
  rw [← valsP_length] at this
  subst this
  exact ⟨A, c, xs, rfl, hc, hp, rfl⟩
theorem OwnPs.val {e : TypeId} {w0 : World} {xs : List PrC} (h : OwnPs e w0 w v xs) (hv : valsP xs = l) : PsAt w v l := by
  obtain ⟨A, c, hs, hc, hp⟩ := h.row
  exact ⟨A, _, c, xs, hs, hc, hp, hv⟩
theorem right_s (h : PsAt w v l) (hn : l.length ≤ 30000) : Calls Tryz.prog 9 #[v] w (Says (l.all rightP) w) := by
  obtain ⟨A, c, xs, rfl, hc, hp, rfl⟩ := h.open
  exact seqRight_any A _ c xs w hp (by omega)
theorem refRight_s (h : PsAt w v l) (hn : l.length ≤ 30000) : Calls Tryz.prog 10 #[v] w (Says (l.all rightP) w) := by
  obtain ⟨A, c, xs, rfl, hc, hp, rfl⟩ := h.open
  exact refRight5_any A _ c xs w hp (by omega)
theorem same_s (h : PsAt w v l) (k : PsAt w u m) (hn : l.length ≤ 30000) (hm : m.length ≤ 30000) : Calls Tryz.prog 11 #[v, u] w (Says (sameS l m) w) := by
  obtain ⟨A, c, xs, rfl, hc, hp, rfl⟩ := h.open
  obtain ⟨B, d, ys, rfl, hd, hq, rfl⟩ := k.open
  exact seqSame_any A B _ c _ d xs ys w hp hq (by omega) (by omega)
theorem all_s (h : PsAt w v l) (k : PsAt w u m) (hn : l.length ≤ 30000) (hm : m.length ≤ 30000) : Calls Tryz.prog 12 #[v, u] w (Says (sameS l m) w) := by
  obtain ⟨A, c, xs, rfl, hc, hp, rfl⟩ := h.open
  obtain ⟨B, d, ys, rfl, hd, hq, rfl⟩ := k.open
  exact refAllP_any A B _ c _ d xs ys w hp hq (by omega) (by omega)
theorem names_s (h : PsAt w v l) (hn : l.length ≤ 30000) : Calls Tryz.prog 14 #[v] w (GivesL (namesS l) w) := by
  obtain ⟨A, c, xs, rfl, hc, hp, rfl⟩ := h.open
  exact seqNames_any A _ c xs w hp (by omega)
theorem touches_s (h : PsAt w v l) (hn : l.length ≤ 30000) (pf : ByteArray) : Calls Tryz.prog 16 #[v, .string pf] w (Says (touchesB (namesS l) pf) w) := by
  obtain ⟨A, c, xs, rfl, hc, hp, rfl⟩ := h.open
  exact seqTouches_any A _ c xs pf w hp (by omega)
theorem invert_s (h : PsAt w v l) (hn : l.length ≤ 30000) : Calls Tryz.prog 19 #[v] w (GivesV (invertS l) w) := by
  obtain ⟨A, c, xs, rfl, hc, hp, rfl⟩ := h.open
  refine (seqInvert_any A _ c xs w hp (by omega)).mono ?_
  rintro e w1 ⟨v1, xs1, rfl, ho, hv, -⟩
  exact ⟨v1, rfl, ho.val hv, ho.later⟩
theorem new_s (h : PsAt w v l) (hn : l.length ≤ 30000) : Calls Tryz.prog 8 #[v] w (GivesV l w) := by
  obtain ⟨A, c, xs, rfl, hc, hp, rfl⟩ := h.open
  refine (lawNew_any A _ c xs w hp (by omega)).mono ?_
  rintro e w1 ⟨v1, xs1, rfl, ho, hv⟩
  exact ⟨v1, rfl, ho.val hv, ho.later⟩
theorem old_s (h : PsAt w v l) (hn : l.length ≤ 30000) : Calls Tryz.prog 18 #[v] w (GivesV l w) := by
  obtain ⟨A, c, xs, rfl, hc, hp, rfl⟩ := h.open
  refine (lawOld_any A _ c xs w hp (by omega)).mono ?_
  rintro e w1 ⟨v1, xs1, rfl, ho, hv⟩
  exact ⟨v1, rfl, ho.val hv, ho.later⟩
theorem refInvert_s (h : PsAt w v l) (hn : l.length ≤ 30000) : Calls Tryz.prog 20 #[v] w (GivesV (invertS l) w) := by
  obtain ⟨A, c, xs, rfl, hc, hp, rfl⟩ := h.open
  refine (refInvert5_any A _ c xs w hp (by omega)).mono ?_
  rintro e w1 ⟨v1, xs1, rfl, ho, hv⟩
  exact ⟨v1, rfl, ho.val hv, ho.later⟩
theorem swap_s (h : PsAt w v l) (k : PsAt w u m) (hn : l.length ≤ 30000) (hm : m.length ≤ 30000) : Calls Tryz.prog 21 #[v, u] w (Gives3 (swapS l m) w) := by
  obtain ⟨A, c, xs, rfl, hc, hp, rfl⟩ := h.open
  obtain ⟨B, d, ys, rfl, hd, hq, rfl⟩ := k.open
  refine (seqSwap_any A B _ c _ d xs ys w hp hq (by omega) (by omega)).mono ?_
  rintro e w1 ⟨hl, hr⟩
  cases hs : swapS (valsP xs) (valsP ys) with
  | none => rw [hs] at hr; exact ⟨_, _, hr, PsAt.nil _, PsAt.nil _, hl⟩
  | some r =>
    rw [hs] at hr
    obtain ⟨v1, u1, y1, z1, rfl, o1, o2, e1, e2, -⟩ := hr
    exact ⟨_, _, rfl, o1.val e1, o2.val e2, hl⟩
theorem rebase_s (h : PsAt w v m) (k : PsAt w u l) (hn : m.length ≤ 30000) (hm : l.length ≤ 30000) : Calls Tryz.prog 31 #[v, u] w (Gives1 (rebaseS m l) w) := by
  obtain ⟨A, c, xs, rfl, hc, hp, rfl⟩ := h.open
  obtain ⟨B, d, ys, rfl, hd, hq, rfl⟩ := k.open
  refine (seqRebase_any A B _ c _ d xs ys w hp hq (by omega) (by omega)).mono ?_
  rintro e w1 ⟨hl, hr⟩
  cases hs : rebaseS (valsP xs) (valsP ys) with
  | none => rw [hs] at hr; exact ⟨_, hr, PsAt.nil _, hl⟩
  | some r =>
    rw [hs] at hr
    obtain ⟨v1, y1, rfl, o1, e1⟩ := hr
    exact ⟨_, rfl, o1.val e1, hl⟩
theorem split_s (h : PsAt w v l) (hn : l.length ≤ 30000) (fi : FuncId) (lb : Array Value) (ef : ∀ args w, (callFunc fi args).run Tryz.prog w = .ok (.enter fi args) w) (bs : Nat → Bool)
    (hask : ∀ (k : Nat) (y : PrC) (W : World), Later w W → PrOk W y → l[k]? = some y.v → Calls Tryz.prog fi (#[.int .i64 (k : Nat), prV y] ++ lb) W (Says (bs k) W)) :
    Calls Tryz.prog 32 #[v, .func (.func fi) #[] lb] w (GivesR2 (splitS bs 0 ([], []) l) w) := by
  obtain ⟨A, c, xs, rfl, hc, hp, rfl⟩ := h.open
  refine (seqSplit_any A _ c xs w hp hn fi lb ef bs hask).mono ?_
  rintro e w1 ⟨v1, u1, ys, zs, rfl, o1, o2, e1, e2⟩
  exact ⟨v1, u1, rfl, o1.val e1, o2.val e2, o1.later⟩
end

end Go.Proofs.YtomboeiaajggoaaGreatDoor

/-
  What prim's deeds comes to, as a call: a new map from kinds to functions.
-/
namespace Go.Proofs.YtomboeiaajggoaaGreatDoor
open Go.RowKit Go.Maps

/-- How a function reads: as itself. -/
def rawF (v : Value) : Option (DataW Value × List MemPlace) := some (.held v, [])

def deedV (f : FuncId) : Value := .func (.func f) #[] #[]
def deedsD : DataW Value := ((((DataW.map []).put (.int .i64 0) (.held (deedV 116))).put (.int .i64 1) (.held (deedV 117))).put (.int .i64 2) (.held (deedV 118))).put (.int .i64 3) (.held (deedV 119))

/-- Block B is the map of deeds. -/
def Deeds (w : World) (B : Nat) : Prop := w.ownsMap Tryz.prog 3 rawF B 4 deedsD

theorem keyed3 : Keyed Tryz.prog 3 := int_keyed Tryz.underlying3
theorem key3 {a : Int} (h : (Lit.int .i64 a).wf = true) : keyOf Tryz.prog 3 (.int .i64 a) = some (.int .i64 a) := keyOf_int_mk Tryz.underlying3 h

set_option maxHeartbeats 400000 in
theorem deeds_any (w : World) : Calls Tryz.prog 90 #[] w fun e w' => ∃ B, e = .returned (.map (some B)) ∧ Deeds w' B ∧ Later w w' := by
  have hmm := @run_makeMap Tryz.prog
  have o1 := World.ownsMap_made (H := Value) w Tryz.prog 3 rawF
  obtain ⟨w2, r2, o2, t2⟩ := o1.store keyed3 Tryz.underlying129 (by decide) (key3 (a := 0) (by decide)) (show rawF (deedV 116) = _ from rfl)
  obtain ⟨w3, r3, o3, t3⟩ := o2.store keyed3 Tryz.underlying129 (by decide) (key3 (a := 1) (by decide)) (show rawF (deedV 117) = _ from rfl)
  obtain ⟨w4, r4, o4, t4⟩ := o3.store keyed3 Tryz.underlying129 (by decide) (key3 (a := 2) (by decide)) (show rawF (deedV 118) = _ from rfl)
  obtain ⟨w5, r5, o5, t5⟩ := o4.store keyed3 Tryz.underlying129 (by decide) (key3 (a := 3) (by decide)) (show rawF (deedV 119) = _ from rfl)
  have hl : Later w w5 := ((((Later.refl w).alloc _).turn (Turned.of_map t2) (Nat.le_refl _)).turn (Turned.of_map t3) (Nat.le_refl _)).turn (Turned.of_map t4) (Nat.le_refl _) |>.turn (Turned.of_map t5) (Nat.le_refl _)
  have O5 := Lib.hid o5; have HL := Lib.hid hl
  unfold deedV at r2 r3 r4 r5
  clear o1 o2 o3 o4 o5 t2 t3 t4 t5 hl
  go_enter Tryz.func90, Tryz.ntmps90
  go_wp2
  go_ret
  exact ⟨_, rfl, O5.out, HL.out⟩

/-- What is found there. -/
def deedAt (k : Int) : FuncId := if k = 0 then 116 else if k = 1 then 117 else if k = 2 then 118 else 119
theorem Deeds.look {w : World} {B : Nat} (h : Deeds w B) {k : Int} (hk : k = 0 ∨ k = 1 ∨ k = 2 ∨ k = 3) :
    (Instr.lookup 129 (.map (some B)) (.int .i64 k) false).run Tryz.prog w = .ok (.func (.func (deedAt k)) #[] #[]) w := by
  have hz : (zeroValue 128).run Tryz.prog w = .ok .nilFunc w := by kernel_rfl
  have hw : (Lit.int .i64 k).wf = true := by rcases hk with rfl | rfl | rfl | rfl <;> decide
  obtain ⟨v, ps, hrun, hv⟩ := World.ownsMap.lookup h keyed3 Tryz.underlying129 hz (show rawF .nilFunc = _ from rfl) (key3 hw)
  have e : deedsD.atKey (.int .i64 k) (.held .nilFunc) = .held (deedV (deedAt k)) := by rcases hk with rfl | rfl | rfl | rfl <;> rfl
  rw [e] at hv
  simp only [rawF, Option.some.injEq, Prod.mk.injEq, DataW.held.injEq] at hv
  rw [hrun, hv.1]
  rfl
theorem Deeds.later {w w' : World} {B : Nat} (h : Deeds w B) (hl : Later w w') : Deeds w' B := h.kept (row := none) ⟨hl.os, hl.tape, hl.output, hl.size, fun i hi _ => hl.block i hi⟩ (by simp)

end Go.Proofs.YtomboeiaajggoaaGreatDoor

/-
  What line.piece comes to, as a call.
-/
namespace Go.Proofs.YtomboeiaajggoaaGreatDoor
open Go.RowKit

set_option maxHeartbeats 400000 in
theorem piece_any (A : Option Addr) (n c : Nat) (ss : List ByteArray) (w : World) (h : Row w A n ss) (hc : n ≤ c) (f t : Int) (h0 : 0 ≤ f) (h1 : f ≤ t) (h2 : t ≤ n) :
    Calls Tryz.prog 142 #[.slice A n c, .int .i64 f, .int .i64 t] w (IsRow ((ss.drop f.toNat).take (t.toNat - f.toNat)) w) := by
  have hr := h.piece (f := f.toNat) (t := t.toNat) (m := t.toNat) (by omega) (by omega) (Nat.le_refl _)
  generalize (ss.drop f.toNat).take (t.toNat - f.toNat) = out at hr ⊢
  clear h
  have h3 : t ≤ c := by omega
  by_cases hft : t = f
  · subst hft
    have hl : out = [] := List.eq_nil_of_length_eq_zero (by rw [hr.len]; omega)
    subst hl
    clear hr
    go_enter Tryz.func142, Tryz.ntmps142
    go_wp2
    go_ret
    exact ⟨A, rfl, Row.none, rfl⟩
  · rw [if_neg (by omega)] at hr
    have HR := Lib.hid hr; clear hr
    have h4 : ¬ t.toNat = f.toNat := by omega
    go_enter Tryz.func142, Tryz.ntmps142
    go_wp2
    go_ret
    have hr := HR.out
    rw [Nat.mul_one] at hr
    exact ⟨_, by rw [hr.len]; rfl, by rw [hr.len]; exact hr, rfl⟩

end Go.Proofs.YtomboeiaajggoaaGreatDoor

/-
  What line.stands comes to, as a call.
-/
namespace Go.Proofs.YtomboeiaajggoaaGreatDoor
open Go.RowKit

set_option maxHeartbeats 400000 in
theorem stands_any (A B : Option Addr) (n c m d : Nat) (l part : List ByteArray) (k : Int) (w : World) (hx : Row w A n l) (hy : Row w B m part) (hc : n ≤ c) (hn : n ≤ 65536) (hm : m ≤ 65536)
    (hk0 : -9223372036854775808 ≤ k) (hk1 : k ≤ 9223372036854775807) :
    Calls Tryz.prog 141 #[.slice A n c, .int .i64 k, .slice B m d] w fun e w' => e = .returned (.bool (standsB l k part)) ∧ ∃ q, w' = w.drewN q := by
  by_cases h0 : k < 0
  · have e : standsB l k part = false := by unfold standsB; rw [decide_eq_false (by omega)]; rfl
    have E := Lib.hid e; clear e hx hy
    go_enter Tryz.func141, Tryz.ntmps141
    go_wp2
    go_ret
    exact ⟨by rw [E.out]; rfl, 0, rfl⟩
  · by_cases h1 : (n : Int) - k < m
    · have e : standsB l k part = false := by unfold standsB; rw [decide_eq_false (by rw [hx.len, hy.len]; omega)]; rfl
      have E := Lib.hid e; clear e hx hy
      go_enter Tryz.func141, Tryz.ntmps141
      go_wp2
      go_ret
      exact ⟨by rw [E.out]; rfl, 0, rfl⟩
    · have e : standsB l k part = sameB ((l.drop k.toNat).take part.length) part := by unfold standsB; rw [decide_eq_true (by rw [hx.len, hy.len]; omega)]; rfl
      have el : (k + m).toNat - k.toNat = part.length := by rw [hy.len]; omega
      rw [← el] at e
      have E := Lib.hid e; clear e el
      have HX := Lib.hid hx; clear hx
      have HY := Lib.hid hy; clear hy
      go_enter Tryz.func141, Tryz.ntmps141
      go_wp2_with fail
      refine (piece_any A n c l w HX.out hc k (k + m) (by omega) (by omega) (by omega)).mono ?_
      rintro e w' ⟨A', rfl, hr, rfl⟩
      generalize hout : (l.drop k.toNat).take ((k + m).toNat - k.toNat) = out at hr E
      have HO := Lib.hid hout; clear hout
      have HR := Lib.hid hr; clear hr
      go_wp2_with fail
      refine (same_any A' B _ _ m d out part _ HR.out HY.out ?_ ?_).mono ?_
      · rw [← HO.out, List.length_take, List.length_drop, HX.out.len]; omega
      · omega
      rintro e w' ⟨rfl, q, rfl⟩
      go_wp2
      go_ret
      exact ⟨by rw [E.out]; rfl, q, rfl⟩

end Go.Proofs.YtomboeiaajggoaaGreatDoor
