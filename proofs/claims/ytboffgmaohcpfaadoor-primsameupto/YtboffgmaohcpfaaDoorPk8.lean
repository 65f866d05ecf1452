import Derived.Test.YtboffgmaohcpfaaDoorPk7
import Derived.Deep.RegionHeld3
import Derived.Test.YtboffgmaohcpfaaDoorChecked
import Derived.Test.YtboffgmaohcpfaaDoorPk1
import Derived.Deep.LoopGhost
import Derived.Deep.QuietTactic
import Derived.BigQuiet
import Derived.Lib.Hide
import Derived.Test.YtboffgmaohcpfaaDoorPk5
import Derived.Test.YtboffgmaohcpfaaDoorPk3
import Derived.Test.YtboffgmaohcpfaaDoorPk6

/-
  What tree's Move, Put and Get come to, as calls.
-/
namespace Go.Proofs.YtboffgmaohcpfaaDoor
open Go.RowKit Go.Maps

set_option maxHeartbeats 400000 in
theorem move_any (p B : Nat) (nm to : ByteArray) (t : Tr) (w : World) (ht : TreeAt w p B t) (hs : nm.size ≤ maxLen) (hs2 : to.size ≤ maxLen) (hl : t.length ≤ 65536) :
    Calls Tryd.prog 69 #[.pointer (some ⟨p, 0, none⟩), .string nm, .string to] w (Does (moveT t nm to) p B w) := by
  have HT := Lib.hid ht
  have hn := named_any to w hs2
  have hh := has_any p B to t w ht hs2
  obtain ⟨hc, z, hz, rfl⟩ := ht
  cases hg : getT z nm with
  | none =>
    have E : Hid (moveT (mapT (·.2) z) nm to = (mapT (·.2) z, 20)) := by simp [Hid, moveT, getT_map, hg]
    rw [E.out]
    have hl := hz.look_no hs hg
    clear hz hg E hn hh
    go_enter Tryd.func69, Tryd.ntmps69
    go_wp2
    go_ret
    exact Does.same HT.out
  | some x =>
    have hlk := hz.look_yes hs hg
    obtain ⟨A, n, c, hv, hnc, hr⟩ := hz.get hg
    rw [hv] at hlk
    cases h1 : namedB to
    · rw [h1] at hn
      have E : Hid (moveT (mapT (·.2) z) nm to = (mapT (·.2) z, 20)) := by simp [Hid, moveT, getT_map, hg, h1]
      rw [E.out]
      have HN := Lib.hid hn
      clear hz hg E hn hh h1 hr hv
      go_enter Tryd.func69, Tryd.ntmps69
      go_wp2_with (go_at_call 24; refine HN.out.mono ?_; rintro e w' ⟨rfl, rfl⟩)
      go_ret
      exact Does.same HT.out
    · rw [h1] at hn
      cases h2 : hasT (mapT (·.2) z) to
      · rw [h2] at hh
        have E : Hid (moveT (mapT (·.2) z) nm to = (withT (withoutT (mapT (·.2) z) nm) to x.2, 0)) := by simp [Hid, moveT, getT_map, hg, h1, h2]
        rw [E.out]
        have HN := Lib.hid hn; have HH := Lib.hid hh; have HZ := Lib.hid hz
        have hrd : Reads w (.slice A n c) x.2 := ⟨A, n, c, rfl, hnc, hr⟩
        have HR := Lib.hid hrd
        have hzl : (withoutT z nm).length < maxLen := by
          have := without_length z nm
          rw [mapT_length] at hl; simp only [maxLen]; omega
        clear hz hg E hn hh h1 h2 hr hv hrd hl
        go_enter Tryd.func69, Tryd.ntmps69
        go_wp2_with (first
          | (go_at_call 24; refine HN.out.mono ?_; rintro e w' ⟨rfl, rfl⟩)
          | (go_at_call 33; refine HH.out.mono ?_; rintro e w' ⟨rfl, rfl⟩)
          | (at_delete; refine wpList_delete_own _ rfl _ _ 49 9 rfl 22 keyed9 Tryd.underlying49 raw B z.length _ rfl HZ.out.own _ _ rfl (key9 hs) ?_; intro w1 hown1 hturn1; have HO := Lib.hid (HZ.out.del hown1 hturn1); have HU := Lib.hid (Turned.of_map hturn1); have hc1 := HU.out.cell hc HT.out.ne; obtain ⟨mes, mcl, hmm⟩ := HZ.out.map; have HRR := Lib.hid (HR.out.turned HU.out hmm); clear hown1 hturn1 hmm)
          | (at_mapUpdate; refine wpList_mapUpdate_in _ rfl _ _ _ 49 rfl 9 22 keyed9 Tryd.underlying49 raw B (withoutT z nm).length _ rfl HO.out.own hzl _ _ _ rfl rfl (key9 hs2) _ [] (raw_mk A n c) ?_; intro w2 hown2 hturn2; have HO2 := Lib.hid hown2; have HU2 := Lib.hid hturn2; clear hown2 hturn2))
        go_ret
        have hg := Turned.of_map HU2.out
        refine ⟨rfl, (HT.out.to HU.out ⟨_, HO.out, (withoutT_map (fun x : Held => x.2) z nm).symm⟩).to hg ⟨_, HO.out.put HO2.out HU2.out HRR.out, ?_⟩, HU.out.trans hg⟩
        rw [withoutT_map, withT_map (fun x : Held => x.2) (withoutT z nm) to (.slice A n c, x.2)]
      · rw [h2] at hh
        have E : Hid (moveT (mapT (·.2) z) nm to = (mapT (·.2) z, 21)) := by simp [Hid, moveT, getT_map, hg, h1, h2]
        rw [E.out]
        have HN := Lib.hid hn; have HH := Lib.hid hh
        clear hz hg E hn hh h1 h2 hr hv
        go_enter Tryd.func69, Tryd.ntmps69
        go_wp2_with (first
          | (go_at_call 24; refine HN.out.mono ?_; rintro e w' ⟨rfl, rfl⟩)
          | (go_at_call 33; refine HH.out.mono ?_; rintro e w' ⟨rfl, rfl⟩))
        go_ret
        exact Does.same HT.out

set_option maxRecDepth 100000 in
set_option maxHeartbeats 800000 in
theorem put_any (p B : Nat) (nm : ByteArray) (A : Option Addr) (n c : Nat) (l : List ByteArray) (t : Tr) (w : World) (ht : TreeAt w p B t) (hx : Row w A n l) (hs : nm.size ≤ maxLen) (hl : t.length ≤ 65536) (hn : n ≤ 65536) (hb : ∀ s ∈ l, s.size ≤ maxLen) :
    Calls Tryd.prog 21 #[.pointer (some ⟨p, 0, none⟩), .string nm, .slice A n c] w (Does (putT t nm l) p B w) := by
  have HT := Lib.hid ht
  have hh := has_any p B nm t w ht hs
  have ha := all_any A n c l w hx hn hb
  cases h1 : hasT t nm
  · rw [h1] at hh
    have E : Hid (putT t nm l = (t, 20)) := by simp [Hid, putT, h1]
    rw [E.out]
    have HH := Lib.hid hh
    clear hh ha h1 E ht hx hb
    go_enter Tryd.func21, Tryd.ntmps21
    go_wp2_with (go_at_call 33; refine HH.out.mono ?_; rintro e w' ⟨rfl, rfl⟩)
    go_ret
    exact Does.same HT.out
  · rw [h1] at hh
    cases h2 : allB l
    · rw [h2] at ha
      have E : Hid (putT t nm l = (t, 1)) := by simp [Hid, putT, h1, h2]
      rw [E.out]
      have HH := Lib.hid hh; have HA := Lib.hid ha
      clear hh ha h1 h2 E ht hx hb
      go_enter Tryd.func21, Tryd.ntmps21
      go_wp2_with (first
        | (go_at_call 33; refine HH.out.mono ?_; rintro e w' ⟨rfl, rfl⟩)
        | (go_at_call 34; refine HA.out.mono ?_; rintro e w' ⟨rfl, rfl⟩))
      go_ret
      exact Does.same HT.out
    · rw [h2] at ha
      have E : Hid (putT t nm l = (withT t nm l, 0)) := by simp [Hid, putT, h1, h2]
      rw [E.out]
      have HH := Lib.hid hh; have HA := Lib.hid ha; have HX := Lib.hid hx
      obtain ⟨hc, z, hz, rfl⟩ := ht
      have HZ := Lib.hid hz
      have hzl : Hid (z.length < maxLen) := by rw [mapT_length] at hl; simp only [Hid, maxLen]; omega
      have HS := Lib.hid hs
      clear hs hh ha h1 h2 E hx hb hl hz
      go_enter Tryd.func21, Tryd.ntmps21
      go_wp2_with (first
        | (go_at_call 33; refine HH.out.mono ?_; rintro e w' ⟨rfl, rfl⟩)
        | (go_at_call 34; refine HA.out.mono ?_; rintro e w' ⟨rfl, rfl⟩))
      go_region_held3 (fun w' => w'.cell? ⟨p, 0, none⟩ = some (.map (some B))) (go_keep)
        (first
          | (go_at_call 32; refine (clone_any A n c l _ (HX.out.later (by first | exact Later.refl _ | exact (Later.refl _).drew | exact (Later.refl _).drewN _)) hn).mono ?_; rintro e w1 ⟨v1, rfl, hown⟩; have HL : Hid (Later w w1) := Later.trans (by first | exact Later.refl _ | exact (Later.refl _).drew | exact (Later.refl _).drewN _) hown.later; have hc1 := HL.out.cell hc; obtain ⟨A1, c1, rfl, hcc, hr1⟩ := hown.row; have HR := Lib.hid hr1; obtain ⟨w2, hrun2, hown2, hturn2⟩ := (HZ.out.later HL.out).own.store keyed9 Tryd.underlying49 hzl.out (key9 HS.out) (raw_mk A1 l.length c1); have HO2 := Lib.hid hown2; have HU2 := Lib.hid hturn2; have hc2 := (Turned.of_map hturn2).cell hc1 HT.out.ne; clear hown hr1 hown2 hturn2))
      go_wp2
      go_ret
      have hg := Turned.of_map HU2.out
      exact ⟨rfl, (HT.out.later HL.out).to hg ⟨_, (HZ.out.later HL.out).put HO2.out HU2.out ⟨A1, _, c1, rfl, hcc, HR.out⟩, (withT_map (fun x : Held => x.2) z nm (_, l)).symm⟩, (HL.out.turned B).trans hg⟩

/-- A row of the call's own, and a flag. -/
def Gets (o : Option (List ByteArray)) (w : World) (e : Ending) (w' : World) : Prop := ∃ v, e = .returned (.tuple #[v, .bool o.isSome]) ∧ Own 9 w w' v (o.getD [])

set_option maxHeartbeats 400000 in
theorem get_any (p B : Nat) (nm : ByteArray) (t : Tr) (w : World) (ht : TreeAt w p B t) (hs : nm.size ≤ maxLen) (hl : ∀ f ∈ t, f.2.length ≤ 65536) :
    Calls Tryd.prog 66 #[.pointer (some ⟨p, 0, none⟩), .string nm] w (Gets (getT t nm) w) := by
  obtain ⟨hc, z, hz, rfl⟩ := ht
  rw [getT_map]
  cases hg : getT z nm with
  | none =>
    have hlk := hz.look_no hs hg
    have HC := Lib.hid (clone_any none 0 0 [] w Row.none (by omega))
    clear hz hg
    go_enter Tryd.func66, Tryd.ntmps66
    go_wp2_with (go_at_call 32; refine HC.out.mono ?_; rintro e w1 ⟨v1, rfl, hown⟩; have HO := Lib.hid hown; clear hown)
    go_ret2
    exact ⟨v1, rfl, HO.out⟩
  | some x =>
    have hlk := hz.look_yes hs hg
    obtain ⟨A, n, c, hv, hnc, hr⟩ := hz.get hg
    have hlen : n ≤ 65536 := by
      have := hl (nm, x.2) (by simp only [mapT, List.mem_map]; exact ⟨_, getT_mem hg, rfl⟩)
      rw [← hr.len]; exact this
    rw [hv] at hlk
    have HC := Lib.hid (clone_any A n c x.2 w hr hlen)
    clear hz hg hr hl hv
    go_enter Tryd.func66, Tryd.ntmps66
    go_wp2_with (go_at_call 32; refine HC.out.mono ?_; rintro e w1 ⟨v1, rfl, hown⟩; have HO := Lib.hid hown; clear hown)
    go_ret2
    exact ⟨v1, rfl, HO.out⟩

end Go.Proofs.YtboffgmaohcpfaaDoor

/-
  What line.piece comes to, as a call.
-/
namespace Go.Proofs.YtboffgmaohcpfaaDoor
open Go.RowKit

set_option maxHeartbeats 400000 in
theorem piece_any (A : Option Addr) (n c : Nat) (ss : List ByteArray) (w : World) (h : Row w A n ss) (hc : n ≤ c) (f t : Int) (h0 : 0 ≤ f) (h1 : f ≤ t) (h2 : t ≤ n) :
    Calls Tryd.prog 82 #[.slice A n c, .int .i64 f, .int .i64 t] w (IsRow ((ss.drop f.toNat).take (t.toNat - f.toNat)) w) := by
  have hr := h.piece (f := f.toNat) (t := t.toNat) (m := t.toNat) (by omega) (by omega) (Nat.le_refl _)
  generalize (ss.drop f.toNat).take (t.toNat - f.toNat) = out at hr ⊢
  clear h
  have h3 : t ≤ c := by omega
  by_cases hft : t = f
  · subst hft
    have hl : out = [] := List.eq_nil_of_length_eq_zero (by rw [hr.len]; omega)
    subst hl
    clear hr
    go_enter Tryd.func82, Tryd.ntmps82
    go_wp2
    go_ret
    exact ⟨A, rfl, Row.none, rfl⟩
  · rw [if_neg (by omega)] at hr
    have HR := Lib.hid hr; clear hr
    have h4 : ¬ t.toNat = f.toNat := by omega
    go_enter Tryd.func82, Tryd.ntmps82
    go_wp2
    go_ret
    have hr := HR.out
    rw [Nat.mul_one] at hr
    exact ⟨_, by rw [hr.len]; rfl, by rw [hr.len]; exact hr, rfl⟩

end Go.Proofs.YtboffgmaohcpfaaDoor

/-
  What line.stands comes to, as a call.
-/
namespace Go.Proofs.YtboffgmaohcpfaaDoor
open Go.RowKit

set_option maxHeartbeats 400000 in
theorem stands_any (A B : Option Addr) (n c m d : Nat) (l part : List ByteArray) (k : Int) (w : World) (hx : Row w A n l) (hy : Row w B m part) (hc : n ≤ c) (hn : n ≤ 65536) (hm : m ≤ 65536)
    (hk0 : -9223372036854775808 ≤ k) (hk1 : k ≤ 9223372036854775807) :
    Calls Tryd.prog 81 #[.slice A n c, .int .i64 k, .slice B m d] w fun e w' => e = .returned (.bool (standsB l k part)) ∧ ∃ q, w' = w.drewN q := by
  by_cases h0 : k < 0
  · have e : standsB l k part = false := by unfold standsB; rw [decide_eq_false (by omega)]; rfl
    have E := Lib.hid e; clear e hx hy
    go_enter Tryd.func81, Tryd.ntmps81
    go_wp2
    go_ret
    exact ⟨by rw [E.out]; rfl, 0, rfl⟩
  · by_cases h1 : (n : Int) - k < m
    · have e : standsB l k part = false := by unfold standsB; rw [decide_eq_false (by rw [hx.len, hy.len]; omega)]; rfl
      have E := Lib.hid e; clear e hx hy
      go_enter Tryd.func81, Tryd.ntmps81
      go_wp2
      go_ret
      exact ⟨by rw [E.out]; rfl, 0, rfl⟩
    · have e : standsB l k part = sameB ((l.drop k.toNat).take part.length) part := by unfold standsB; rw [decide_eq_true (by rw [hx.len, hy.len]; omega)]; rfl
      have el : (k + m).toNat - k.toNat = part.length := by rw [hy.len]; omega
      rw [← el] at e
      have E := Lib.hid e; clear e el
      have HX := Lib.hid hx; clear hx
      have HY := Lib.hid hy; clear hy
      go_enter Tryd.func81, Tryd.ntmps81
      go_wp2_with fail
      refine (piece_any A n c l w HX.out hc k (k + m) (by omega) (by omega) (by omega)).mono ?_
      rintro e w' ⟨A', rfl, hr, rfl⟩
      generalize hout : (l.drop k.toNat).take ((k + m).toNat - k.toNat) = out at hr E
      have HO := Lib.hid hout; clear hout
      have HR := Lib.hid hr; clear hr
      go_wp2_with fail
      refine (same_any A' B _ _ m d out part _ HR.out HY.out ?_ ?_).mono ?_
      · rw [← HO.out, List.length_take, List.length_drop, HX.out.len]; omega
      · omega
      rintro e w' ⟨rfl, q, rfl⟩
      go_wp2
      go_ret
      exact ⟨by rw [E.out]; rfl, q, rfl⟩

end Go.Proofs.YtboffgmaohcpfaaDoor

/-
  What line.Splice comes to, as a call.
-/
namespace Go.Proofs.YtboffgmaohcpfaaDoor
open Go.RowKit

set_option maxHeartbeats 400000 in
theorem splice_no (A B C : Option Addr) (n c m d p q : Nat) (l old : List ByteArray) (k : Int) (w : World) (hx : Row w A n l) (hy : Row w B m old) (hc : n ≤ c) (hn : n ≤ 65536) (hm : m ≤ 65536)
    (hk0 : -9223372036854775808 ≤ k) (hk1 : k ≤ 9223372036854775807) (hs : standsB l k old = false) :
    Calls Tryd.prog 67 #[.slice A n c, .int .i64 k, .slice B m d, .slice C p q] w fun e w' => e = .returned (.tuple #[.slice none 0 0, .bool false]) ∧ ∃ q, w' = w.drewN q := by
  have H := stands_any A B n c m d l old k w hx hy hc hn hm hk0 hk1
  rw [hs] at H
  have HS := Lib.hid H; clear H hx hy hs
  go_enter Tryd.func67, Tryd.ntmps67
  go_wp2_with (go_at_call 81; refine HS.out.mono ?_; rintro e w' ⟨rfl, q, rfl⟩)
  go_ret2
  exact ⟨rfl, _, rfl⟩

set_option maxHeartbeats 400000 in
theorem splice_yes (A B C : Option Addr) (n c m d p q : Nat) (l old with_ : List ByteArray) (k : Nat) (w : World) (hx : Row w A n l) (hy : Row w B m old) (hz : Row w C p with_) (hc : n ≤ c) (hn : n ≤ 65536) (hm : m ≤ 65536) (hp : p ≤ 65536)
    (hs : standsB l k old = true) :
    Calls Tryd.prog 67 #[.slice A n c, .int .i64 k, .slice B m d, .slice C p q] w (GivesRow2 (spliced l k m with_) w) := by
  have hkm := standsB_le hs
  rw [hx.len, hy.len] at hkm
  have H := stands_any A B n c m d l old k w hx hy hc hn hm (by omega) (by omega)
  rw [hs] at H
  have HS := Lib.hid H; clear H hs
  have HX := Lib.hid hx; clear hx
  have HZ := Lib.hid hz; clear hz
  obtain ⟨i0, hi, hz0, hz1, hz2⟩ := info_parts Tryd.textInfo
  go_enter Tryd.func67, Tryd.ntmps67
  go_wp2_with (first
    | (go_at_call 81; refine HS.out.mono ?_; rintro e w' ⟨rfl, q1, rfl⟩)
    | (at_make; refine wpList_make_row (w0 := w) rfl _ _ 22 rfl i0 Tryd.underlying22 hi hz0 hz1 hz2 ((Later.refl w).drewN q1) .i64 .i64 _ rfl rfl (by omega) (by omega) ?_; intro w1 v1 hown1))
  refine (piece_any A n c l w1 (HX.out.later hown1.later) hc 0 k (by omega) (by omega) (by omega)).mono ?_
  rintro e w' ⟨A1, rfl, hr1, rfl⟩
  have e1 : (l.drop (0 : Int).toNat).take ((k : Int).toNat - (0 : Int).toNat) = l.take k := by simp
  rw [e1] at hr1 ⊢
  clear e1
  have l1 : (l.take k).length ≤ 65536 := by rw [List.length_take, HX.out.len]; omega
  generalize ht1 : l.take k = s1 at hr1 l1 ⊢
  have T1 := Lib.hid ht1; clear ht1
  have HR1 := Lib.hid hr1; clear hr1
  have HO1 := Lib.hid hown1; clear hown1
  go_wp2_with (first
    | (at_builtin; refine wpList_append_row rfl _ _ 22 rfl i0 Tryd.underlying22 hi hz0 hz1 hz2 HO1.out rfl _ _ _ _ rfl HR1.out (by simp; omega) ?_; intro v2 w2 hown2 hg2; have HO2 := Lib.hid hown2; clear hown2 hg2)
    | (at_builtin; refine wpList_append_row rfl _ _ 22 rfl i0 Tryd.underlying22 hi hz0 hz1 hz2 HO2.out rfl _ _ _ _ rfl (HZ.out.later HO2.out.later) (by simp; omega) ?_; intro v3 w3 hown3 hg3; have HO3 := Lib.hid hown3; clear hown3 hg3))
  refine (piece_any A n c l w3 (HX.out.later HO3.out.later) hc (k + m) n (by omega) (by omega) (by omega)).mono ?_
  rintro e w' ⟨A4, rfl, hr4, rfl⟩
  have e4 : (l.drop ((k : Int) + m).toNat).take ((n : Int).toNat - ((k : Int) + m).toNat) = l.drop (k + m) := by
    rw [show ((k : Int) + m).toNat = k + m from by omega, Int.toNat_natCast]
    exact List.take_of_length_le (by rw [List.length_drop, HX.out.len]; omega)
  rw [e4] at hr4 ⊢
  clear e4
  have l4 : (l.drop (k + m)).length ≤ 65536 := by rw [List.length_drop, HX.out.len]; omega
  generalize ht4 : l.drop (k + m) = s4 at hr4 l4 ⊢
  have T4 := Lib.hid ht4; clear ht4
  have HR4 := Lib.hid hr4; clear hr4
  have hzl : with_.length = p := HZ.out.len
  have ZL : with_.length ≤ 65536 := by omega
  clear hzl
  go_wp2_with (at_builtin; refine wpList_append_row rfl _ _ 22 rfl i0 Tryd.underlying22 hi hz0 hz1 hz2 HO3.out rfl _ _ _ _ rfl HR4.out (by simp; omega) ?_; intro v5 w5 hown5 hg5; have HO5 := Lib.hid hown5; clear hown5 hg5)
  go_ret2
  have ef : spliced l k m with_ = ([] ++ s1 ++ with_) ++ s4 := by rw [spliced, T1.out, T4.out, List.nil_append]
  rw [ef]
  obtain ⟨A6, c6, hv, hcc, hr6⟩ := HO5.out.row
  exact ⟨A6, c6, by rw [← hv]; rfl, hcc, hr6, HO5.out.later⟩

end Go.Proofs.YtboffgmaohcpfaaDoor

/-
  What prim's deeds do to a tree, as calls.
-/
namespace Go.Proofs.YtboffgmaohcpfaaDoor
open Go.RowKit Go.Maps

/-- Whether it fits; the tree behind it; nothing else has turned. -/
def Deed (r : Tr × Int) (p B : Nat) (w : World) (e : Ending) (w' : World) : Prop := e = .returned (.bool (r.2 == 0)) ∧ TreeAt w' p B r.1 ∧ Turned B w w'

set_option maxRecDepth 100000 in
set_option maxHeartbeats 400000 in
theorem deedAdd_any (x : PrC) (p B : Nat) (t : Tr) (w : World) (ht : TreeAt w p B t) (hx : PrOk w x) (hl : t.length ≤ 65536) :
    Calls Tryd.prog 47 #[prV x, .pointer (some ⟨p, 0, none⟩)] w (Deed (addT t x.v.name) p B w) := by
  obtain ⟨⟨kd, nm, to, pl, old, new⟩, A, n, c, C, m, d⟩ := x
  have hlb : Later w (w.alloc (.cells #[.int .i64 kd, .string nm, .string to, .int .i64 pl, .slice A n c, .slice C m d] 28)) := (Later.refl w).alloc _
  have HC := Lib.hid (add_any p B nm t _ (ht.later hlb) hx.name hl)
  have HLB := Lib.hid hlb
  unfold prV
  dsimp only at HC ⊢
  clear hlb ht hx
  go_enter Tryd.func47, Tryd.ntmps47
  go_wp2_with fail
  refine HC.out.mono ?_
  rintro e w1 ⟨rfl, h1, h2⟩
  have H1 := Lib.hid h1; have H2 := Lib.hid h2; clear h1 h2
  go_wp2
  go_ret
  exact ⟨rfl, H1.out, (HLB.out.turned B).trans H2.out⟩

set_option maxRecDepth 100000 in
set_option maxHeartbeats 400000 in
theorem deedRemove_any (x : PrC) (p B : Nat) (t : Tr) (w : World) (ht : TreeAt w p B t) (hx : PrOk w x) (hb : ∀ f ∈ t, f.2.length ≤ 65536) :
    Calls Tryd.prog 48 #[prV x, .pointer (some ⟨p, 0, none⟩)] w (Deed (removeT t x.v.name) p B w) := by
  obtain ⟨⟨kd, nm, to, pl, old, new⟩, A, n, c, C, m, d⟩ := x
  have hlb : Later w (w.alloc (.cells #[.int .i64 kd, .string nm, .string to, .int .i64 pl, .slice A n c, .slice C m d] 28)) := (Later.refl w).alloc _
  have HC := Lib.hid (remove_any p B nm t _ (ht.later hlb) hx.name hb)
  have HLB := Lib.hid hlb
  unfold prV
  dsimp only at HC ⊢
  clear hlb ht hx
  go_enter Tryd.func48, Tryd.ntmps48
  go_wp2_with fail
  refine HC.out.mono ?_
  rintro e w1 ⟨rfl, h1, h2⟩
  have H1 := Lib.hid h1; have H2 := Lib.hid h2; clear h1 h2
  go_wp2
  go_ret
  exact ⟨rfl, H1.out, (HLB.out.turned B).trans H2.out⟩

set_option maxRecDepth 100000 in
set_option maxHeartbeats 400000 in
theorem deedMove_any (x : PrC) (p B : Nat) (t : Tr) (w : World) (ht : TreeAt w p B t) (hx : PrOk w x) (hl : t.length ≤ 65536) :
    Calls Tryd.prog 49 #[prV x, .pointer (some ⟨p, 0, none⟩)] w (Deed (moveT t x.v.name x.v.to) p B w) := by
  obtain ⟨⟨kd, nm, to, pl, old, new⟩, A, n, c, C, m, d⟩ := x
  have hlb : Later w (w.alloc (.cells #[.int .i64 kd, .string nm, .string to, .int .i64 pl, .slice A n c, .slice C m d] 28)) := (Later.refl w).alloc _
  have HC := Lib.hid (move_any p B nm to t _ (ht.later hlb) hx.name hx.to hl)
  have HLB := Lib.hid hlb
  unfold prV
  dsimp only at HC ⊢
  clear hlb ht hx
  go_enter Tryd.func49, Tryd.ntmps49
  go_wp2_with fail
  refine HC.out.mono ?_
  rintro e w1 ⟨rfl, h1, h2⟩
  have H1 := Lib.hid h1; have H2 := Lib.hid h2; clear h1 h2
  go_wp2
  go_ret
  exact ⟨rfl, H1.out, (HLB.out.turned B).trans H2.out⟩

set_option maxRecDepth 100000 in
set_option maxHeartbeats 800000 in
theorem deedSplice_any (x : PrC) (p B k h : Nat) (t : Tr) (w : World) (ht : TreeAt w p B t) (hx : PrOk w x) (hr : rightP x.v = true) (hs : Sized k h t) (hk : k ≤ 60000) (hh : h + x.m ≤ 65536) :
    Calls Tryd.prog 46 #[prV x, .pointer (some ⟨p, 0, none⟩)] w (Deed (hunkT t x.v) p B w) := by
  have hput := fun l hg i q => put_spliced (p := x.v) (l := l) hs hr hg i q
  have hall := (right_parts hr).2.2.2.1
  obtain ⟨⟨kd, nm, to, pl, old, new⟩, A, n, c, C, m, d⟩ := x
  have hlb : Later w (w.alloc (.cells #[.int .i64 kd, .string nm, .string to, .int .i64 pl, .slice A n c, .slice C m d] 28)) := (Later.refl w).alloc _
  have hbl : ∀ f ∈ t, f.2.length ≤ 65536 := fun f hf => by have := (hs.each f hf).2.2; omega
  have HG := Lib.hid (get_any p B nm t _ (ht.later hlb) hx.name hbl)
  have HT := Lib.hid ht; have HX := Lib.hid hx
  have c1 : (w.alloc (.cells #[.int .i64 kd, .string nm, .string to, .int .i64 pl, .slice A n c, .slice C m d] 28)).cell? ⟨w.heap.size, 1, none⟩ = some (.string nm) := by simp
  have c3 : (w.alloc (.cells #[.int .i64 kd, .string nm, .string to, .int .i64 pl, .slice A n c, .slice C m d] 28)).cell? ⟨w.heap.size, 3, none⟩ = some (.int .i64 pl) := by simp
  have c4 : (w.alloc (.cells #[.int .i64 kd, .string nm, .string to, .int .i64 pl, .slice A n c, .slice C m d] 28)).cell? ⟨w.heap.size, 4, none⟩ = some (.slice A n c) := by simp
  have c5 : (w.alloc (.cells #[.int .i64 kd, .string nm, .string to, .int .i64 pl, .slice A n c, .slice C m d] 28)).cell? ⟨w.heap.size, 5, none⟩ = some (.slice C m d) := by simp
  have CB := Lib.hid (And.intro c1 (And.intro c3 (And.intro c4 c5)))
  have hn1 := hx.omost; have hm1 := hx.nmost; have hlo := hx.lo; have hhi := hx.hi
  have hol := hx.old.len; have hnl := hx.new.len
  have HLB := Lib.hid hlb
  unfold prV
  dsimp only at hput hall hh hn1 hm1 hlo hhi hol hnl ⊢
  clear hlb ht hx hr c1 c3 c4 c5
  have HP := Lib.hid hput; have HA := Lib.hid hall; have HS := Lib.hid hs; have HBL := Lib.hid hbl
  clear hput hall hs hbl
  cases hg : getT t nm with
  | none =>
    have E : Hid (hunkT t ⟨kd, nm, to, pl, old, new⟩ = (t, 31)) := by simp [Hid, hunkT, hg]
    rw [E.out]
    rw [hg] at HG
    clear hg E
    go_enter Tryd.func46, Tryd.ntmps46
    go_wp2_with fail
    refine HG.out.mono ?_
    rintro e w1 ⟨v1, rfl, hown⟩
    simp only [Option.getD_none, Option.isSome_none] at hown ⊢
    have HL1 := Lib.hid (HLB.out.trans hown.later); clear hown
    go_wp2
    go_ret
    exact ⟨rfl, HT.out.later HL1.out, HL1.out.turned B⟩
  | some l =>
    rw [hg] at HG
    have hll : l.length ≤ 65536 := by have := (HS.out.get hg).2.2; omega
    have hlh : l.length + new.length ≤ 65536 := by have := (HS.out.get hg).2.2; omega
    have hla := (HS.out.get hg).2.1
    have HPG := Lib.hid (fun i q => HP.out l hg i q)
    cases hst : standsB l pl old
    · have E : Hid (hunkT t ⟨kd, nm, to, pl, old, new⟩ = (t, 31)) := by simp [Hid, hunkT, hg, hst]
      rw [E.out]
      clear hg E
      go_enter Tryd.func46, Tryd.ntmps46
      go_wp2_with fail
      refine HG.out.mono ?_
      rintro e w1 ⟨v1, rfl, hown⟩
      simp only [Option.getD_some, Option.isSome_some] at hown ⊢
      obtain ⟨A1, cc1, hv1, hcc1, hr1⟩ := hown.row
      subst hv1
      have hl1 := hown.later
      have b1 := hl1.cell CB.out.1; have b3 := hl1.cell CB.out.2.1; have b4 := hl1.cell CB.out.2.2.1; have b5 := hl1.cell CB.out.2.2.2
      have HSP := Lib.hid (splice_no A1 A C l.length cc1 n c m d l old pl w1 hr1 (HX.out.old.later (HLB.out.trans hl1)) hcc1 hll hn1 hlo hhi hst)
      have HL1 := Lib.hid (HLB.out.trans hl1)
      clear hown hr1 hl1 hst
      go_wp2_with fail
      refine HSP.out.mono ?_
      rintro e w2 ⟨rfl, q2, rfl⟩
      go_wp2
      go_ret
      exact ⟨rfl, HT.out.later (HL1.out.drewN q2), (HL1.out.drewN q2).turned B⟩
    · have hle := standsB_le hst
      obtain ⟨i, rfl⟩ := Int.eq_ofNat_of_zero_le hle.1
      have E : Hid (hunkT t ⟨kd, nm, to, i, old, new⟩ = (withT t nm (spliced l i n new), 0)) := by simp [Hid, hunkT, hg, hst, hol]
      rw [E.out]
      have hsl := spliced_le l new i n
      have hsa := allB_spliced hla HA.out i n
      have hsz : ∀ s ∈ spliced l i n new, s.size ≤ maxLen := fun s hs => by
        have := allB_mem.1 hsa s hs
        simp only [rightB, Bool.and_eq_true, decide_eq_true_eq] at this
        simp only [maxLen]; omega
      have HSA := Lib.hid hsz
      have HPT := Lib.hid (HPG.out i n)
      have HLE : Hid ((spliced l i n new).length ≤ 65536) := by simp only [Hid]; omega
      clear hg E hle hsa hsz hsl hla
      go_enter Tryd.func46, Tryd.ntmps46
      go_wp2_with fail
      refine HG.out.mono ?_
      rintro e w1 ⟨v1, rfl, hown⟩
      simp only [Option.getD_some, Option.isSome_some] at hown ⊢
      obtain ⟨A1, cc1, hv1, hcc1, hr1⟩ := hown.row
      subst hv1
      have hl1 := hown.later
      have b1 := hl1.cell CB.out.1; have b3 := hl1.cell CB.out.2.1; have b4 := hl1.cell CB.out.2.2.1; have b5 := hl1.cell CB.out.2.2.2
      have HSP := Lib.hid (splice_yes A1 A C l.length cc1 n c m d l old new i w1 hr1 (HX.out.old.later (HLB.out.trans hl1)) (HX.out.new.later (HLB.out.trans hl1)) hcc1 hll hn1 hm1 hst)
      have HL1 := Lib.hid hl1
      clear hown hr1 hl1 hst
      go_wp2_with fail
      refine HSP.out.mono ?_
      rintro e w2 ⟨A2, cc2, rfl, hcc2, hr2, hl2⟩
      have e1 := hl2.cell b1
      have HR2 := Lib.hid hr2
      have HL2 := Lib.hid (HLB.out.trans (HL1.out.trans hl2))
      clear hr2 hl2 b1 b3 b4 b5
      have hpa := put_any p B nm A2 (spliced l i n new).length cc2 (spliced l i n new) t w2 (HT.out.later HL2.out) HR2.out HX.out.name (by have := HS.out.many; omega) HLE.out HSA.out
      rw [HPT.out] at hpa
      have HPA := Lib.hid hpa; clear hpa
      generalize spliced l i n new = sp at *
      go_wp2_with fail
      refine HPA.out.mono ?_
      rintro e w3 ⟨rfl, h3, h4⟩
      have H3 := Lib.hid h3; have H4 := Lib.hid h4; clear h3 h4
      go_wp2
      go_ret
      exact ⟨rfl, H3.out, (HL2.out.turned B).trans H4.out⟩

end Go.Proofs.YtboffgmaohcpfaaDoor

/-
  What prim's Apply comes to, as a call.
-/
namespace Go.Proofs.YtboffgmaohcpfaaDoor
open Go.RowKit Go.Maps

theorem deed_enters {k : Int} (hk : k = 0 ∨ k = 1 ∨ k = 2 ∨ k = 3) : ∀ (args : Array Value) (w : World), (callFunc (deedAt k) args).run Tryd.prog w = .ok (.enter (deedAt k) args) w := by
  rcases hk with rfl | rfl | rfl | rfl
  · exact enters_of Tryd.func46 (by kernel_rfl) rfl
  · exact enters_of Tryd.func47 (by kernel_rfl) rfl
  · exact enters_of Tryd.func48 (by kernel_rfl) rfl
  · exact enters_of Tryd.func49 (by kernel_rfl) rfl

/-- Each kind by its own function. -/
theorem deed_any (x : PrC) (p B k h : Nat) (t : Tr) (w : World) (ht : TreeAt w p B t) (hx : PrOk w x) (hr : rightP x.v = true) (hs : Sized k h t) (hk : k ≤ 60000) (hh : h + x.m ≤ 65536) :
    ∃ r : Tr × Int, Calls Tryd.prog (deedAt x.v.kind) #[prV x, .pointer (some ⟨p, 0, none⟩)] w (Deed r p B w) ∧ applyP t x.v = (r.1, if (r.2 == 0) = true then 0 else 31) := by
  have hl : t.length ≤ 65536 := by have := hs.many; omega
  have hb : ∀ f ∈ t, f.2.length ≤ 65536 := fun f hf => by have := (hs.each f hf).2.2; omega
  rcases (right_parts hr).2.1 with e | e | e | e
  · refine ⟨hunkT t x.v, by rw [e]; exact deedSplice_any x p B k h t w ht hx hr hs hk hh, ?_⟩
    rw [apply_hunk hr e]
    unfold hunkT
    split
    · rfl
    · split <;> rfl
  · refine ⟨addT t x.v.name, by rw [e]; exact deedAdd_any x p B t w ht hx hl, ?_⟩
    rw [apply_add hr e]; simp
  · refine ⟨removeT t x.v.name, by rw [e]; exact deedRemove_any x p B t w ht hx hb, ?_⟩
    rw [apply_rm hr e]; simp
  · refine ⟨moveT t x.v.name x.v.to, by rw [e]; exact deedMove_any x p B t w ht hx hl, ?_⟩
    rw [apply_move hr e]; simp

set_option maxRecDepth 100000 in
set_option maxHeartbeats 800000 in
theorem apply_any (x : PrC) (p B k h : Nat) (t : Tr) (w : World) (ht : TreeAt w p B t) (hx : PrOk w x) (hs : Sized k h t) (hk : k ≤ 60000) (hh : h + x.m ≤ 65536) :
    Calls Tryd.prog 22 #[.pointer (some ⟨p, 0, none⟩), prV x] w (Does (applyP t x.v) p B w) := by
  have hlb : Later w (w.alloc (.cells #[.int .i64 x.v.kind, .string x.v.name, .string x.v.to, .int .i64 x.v.place, .slice x.A x.n x.c, .slice x.B x.m x.d] 28)) := (Later.refl w).alloc _
  have hri := primRight_any x _ (hx.later hlb)
  have hbx : BoxAt (w.alloc (.cells #[.int .i64 x.v.kind, .string x.v.name, .string x.v.to, .int .i64 x.v.place, .slice x.A x.n x.c, .slice x.B x.m x.d] 28)) w.heap.size #[.int .i64 x.v.kind, .string x.v.name, .string x.v.to, .int .i64 x.v.place, .slice x.A x.n x.c, .slice x.B x.m x.d] 28 := BoxAt.made w _ _
  have HLB := Lib.hid hlb; have HT := Lib.hid ht; have HBX := Lib.hid hbx
  cases hr : rightP x.v
  · rw [hr] at hri
    have HR := Lib.hid hri
    rw [apply_wrong hr]
    clear hri hr hx hs hlb ht hbx
    unfold prV at HR ⊢
    go_enter Tryd.func22, Tryd.ntmps22
    go_wp2_with fail
    refine HR.out.mono ?_
    rintro e w1 ⟨rfl, hl1⟩
    have HL1 := Lib.hid (HLB.out.trans hl1); clear hl1
    go_wp2
    go_ret
    exact ⟨rfl, HT.out.later HL1.out, HL1.out.turned B⟩
  · rw [hr] at hri
    have HR := Lib.hid hri
    have HD := Lib.hid (fun (w1 : World) (hl : Later w w1) => deed_any x p B k h t w1 (ht.later hl) (hx.later hl) hr hs hk hh)
    have HK := Lib.hid (right_parts hr).2.1
    clear hri hr hx hs hlb ht hbx
    unfold prV at HR HD ⊢
    go_enter Tryd.func22, Tryd.ntmps22
    go_wp2_with fail
    refine HR.out.mono ?_
    rintro e w1 ⟨rfl, hl1⟩
    have hb1 := HBX.out.later hl1
    have HL1 := Lib.hid (HLB.out.trans hl1)
    have x0 := hb1.cell (i := 0) rfl
    have HB1 := Lib.hid hb1
    clear hl1 hb1
    go_wp2_with fail
    go_region_held3 (fun w' => w'.cell? ⟨w.heap.size, 0, none⟩ = some (.int .i64 x.v.kind)) (go_keep)
      (first | (go_at_call 35; refine (deeds_any _).mono ?_; rintro e w2 ⟨B2, rfl, hd2, hl2⟩; have HL2 : Hid (Later w1 w2) := Later.trans (by first | exact Later.refl _ | exact (Later.refl _).drew | exact (Later.refl _).drewN _) hl2; have x02 := HL2.out.cell x0; have hlk := hd2.look HK.out; have HD2 := Lib.hid hd2; clear hd2 hl2))
    have hb2 := HB1.out.later HL2.out
    have y0 := hb2.cell (i := 0) rfl; have y1 := hb2.cell (i := 1) rfl; have y2 := hb2.cell (i := 2) rfl; have y3 := hb2.cell (i := 3) rfl; have y4 := hb2.cell (i := 4) rfl; have y5 := hb2.cell (i := 5) rfl
    obtain ⟨r, hcall, happ⟩ := HD.out w2 (HL1.out.trans HL2.out)
    have HCL := Lib.hid hcall; have HAP := Lib.hid happ
    have eg := deed_enters HK.out
    generalize deedAt x.v.kind = f at HCL eg hlk ⊢
    clear hb2 hcall happ hlk x0 x02 HD
    unfold Deed at HCL
    generalize (r.2 == 0) = b at HCL HAP
    cases b
    · go_wp2_with (go_at_fn f; refine HCL.out.mono ?_; rintro e w3 ⟨rfl, h3, h4⟩; have H3 := Lib.hid h3; have H4 := Lib.hid h4; clear h3 h4)
      go_ret
      rw [HAP.out]
      exact ⟨rfl, H3.out, ((HL1.out.trans HL2.out).turned B).trans H4.out⟩
    · go_wp2_with (go_at_fn f; refine HCL.out.mono ?_; rintro e w3 ⟨rfl, h3, h4⟩; have H3 := Lib.hid h3; have H4 := Lib.hid h4; clear h3 h4)
      go_ret
      rw [HAP.out]
      exact ⟨rfl, H3.out, ((HL1.out.trans HL2.out).turned B).trans H4.out⟩

end Go.Proofs.YtboffgmaohcpfaaDoor
