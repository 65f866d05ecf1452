/-
  What tree's Move, Put and Get come to, as calls.
-/
import Derived.Test.YtboffgmaohcpfaaDoorTrCalls
import Derived.Deep.RegionHeld3
namespace Go.Proofs.YtboffgmaohcpfaaDoor
open Go.RowKit Go.Maps

set_option maxHeartbeats 400000 in
theorem move_any (p B : Nat) (nm to : ByteArray) (t : Tr) (w : World) (ht : TreeAt w p B t) (hs : nm.size ≤ maxLen) (hs2 : to.size ≤ maxLen) (hl : t.length ≤ 65536) :
    Calls Tryd.prog 69 #[.pointer (some ⟨p, 0, none⟩), .string nm, .string to] w (Does (moveT t nm to) p B w) := by
  have HT := Lib.hid ht
  have hn := named_any to w hs2
  have hh := has_any p B to t w ht hs2
  obtain ⟨hc, z, hz, rfl⟩ := ht
  cases hg : getT z nm with
  | none =>
    have E : Hid (moveT (mapT (·.2) z) nm to = (mapT (·.2) z, 20)) := by simp [Hid, moveT, getT_map, hg]
    rw [E.out]
    have hl := hz.look_no hs hg
    clear hz hg E hn hh
    go_enter Tryd.func69, Tryd.ntmps69
    go_wp2
    go_ret
    exact Does.same HT.out
  | some x =>
    have hlk := hz.look_yes hs hg
    obtain ⟨A, n, c, hv, hnc, hr⟩ := hz.get hg
    rw [hv] at hlk
    cases h1 : namedB to
    · rw [h1] at hn
      have E : Hid (moveT (mapT (·.2) z) nm to = (mapT (·.2) z, 20)) := by simp [Hid, moveT, getT_map, hg, h1]
      rw [E.out]
      have HN := Lib.hid hn
      clear hz hg E hn hh h1 hr hv
      go_enter Tryd.func69, Tryd.ntmps69
      go_wp2_with (go_at_call 24; refine HN.out.mono ?_; rintro e w' ⟨rfl, rfl⟩)
      go_ret
      exact Does.same HT.out
    · rw [h1] at hn
      cases h2 : hasT (mapT (·.2) z) to
      · rw [h2] at hh
        have E : Hid (moveT (mapT (·.2) z) nm to = (withT (withoutT (mapT (·.2) z) nm) to x.2, 0)) := by simp [Hid, moveT, getT_map, hg, h1, h2]
        rw [E.out]
        have HN := Lib.hid hn; have HH := Lib.hid hh; have HZ := Lib.hid hz
        have hrd : Reads w (.slice A n c) x.2 := ⟨A, n, c, rfl, hnc, hr⟩
        have HR := Lib.hid hrd
        have hzl : (withoutT z nm).length < maxLen := by
          have := without_length z nm
          rw [mapT_length] at hl; simp only [maxLen]; omega
        clear hz hg E hn hh h1 h2 hr hv hrd hl
        go_enter Tryd.func69, Tryd.ntmps69
        go_wp2_with (first
          | (go_at_call 24; refine HN.out.mono ?_; rintro e w' ⟨rfl, rfl⟩)
          | (go_at_call 33; refine HH.out.mono ?_; rintro e w' ⟨rfl, rfl⟩)
          | (at_delete; refine wpList_delete_own _ rfl _ _ 49 9 rfl 22 keyed9 Tryd.underlying49 raw B z.length _ rfl HZ.out.own _ _ rfl (key9 hs) ?_; intro w1 hown1 hturn1; have HO := Lib.hid (HZ.out.del hown1 hturn1); have HU := Lib.hid (Turned.of_map hturn1); have hc1 := HU.out.cell hc HT.out.ne; obtain ⟨mes, mcl, hmm⟩ := HZ.out.map; have HRR := Lib.hid (HR.out.turned HU.out hmm); clear hown1 hturn1 hmm)
          | (at_mapUpdate; refine wpList_mapUpdate_in _ rfl _ _ _ 49 rfl 9 22 keyed9 Tryd.underlying49 raw B (withoutT z nm).length _ rfl HO.out.own hzl _ _ _ rfl rfl (key9 hs2) _ [] (raw_mk A n c) ?_; intro w2 hown2 hturn2; have HO2 := Lib.hid hown2; have HU2 := Lib.hid hturn2; clear hown2 hturn2))
        go_ret
        have hg := Turned.of_map HU2.out
        refine ⟨rfl, (HT.out.to HU.out ⟨_, HO.out, (withoutT_map (fun x : Held => x.2) z nm).symm⟩).to hg ⟨_, HO.out.put HO2.out HU2.out HRR.out, ?_⟩, HU.out.trans hg⟩
        rw [withoutT_map, withT_map (fun x : Held => x.2) (withoutT z nm) to (.slice A n c, x.2)]
      · rw [h2] at hh
        have E : Hid (moveT (mapT (·.2) z) nm to = (mapT (·.2) z, 21)) := by simp [Hid, moveT, getT_map, hg, h1, h2]
        rw [E.out]
        have HN := Lib.hid hn; have HH := Lib.hid hh
        clear hz hg E hn hh h1 h2 hr hv
        go_enter Tryd.func69, Tryd.ntmps69
        go_wp2_with (first
          | (go_at_call 24; refine HN.out.mono ?_; rintro e w' ⟨rfl, rfl⟩)
          | (go_at_call 33; refine HH.out.mono ?_; rintro e w' ⟨rfl, rfl⟩))
        go_ret
        exact Does.same HT.out

set_option maxRecDepth 100000 in
set_option maxHeartbeats 800000 in
theorem put_any (p B : Nat) (nm : ByteArray) (A : Option Addr) (n c : Nat) (l : List ByteArray) (t : Tr) (w : World) (ht : TreeAt w p B t) (hx : Row w A n l) (hs : nm.size ≤ maxLen) (hl : t.length ≤ 65536) (hn : n ≤ 65536) (hb : ∀ s ∈ l, s.size ≤ maxLen) :
    Calls Tryd.prog 21 #[.pointer (some ⟨p, 0, none⟩), .string nm, .slice A n c] w (Does (putT t nm l) p B w) := by
  have HT := Lib.hid ht
  have hh := has_any p B nm t w ht hs
  have ha := all_any A n c l w hx hn hb
  cases h1 : hasT t nm
  · rw [h1] at hh
    have E : Hid (putT t nm l = (t, 20)) := by simp [Hid, putT, h1]
    rw [E.out]
    have HH := Lib.hid hh
    clear hh ha h1 E ht hx hb
    go_enter Tryd.func21, Tryd.ntmps21
    go_wp2_with (go_at_call 33; refine HH.out.mono ?_; rintro e w' ⟨rfl, rfl⟩)
    go_ret
    exact Does.same HT.out
  · rw [h1] at hh
    cases h2 : allB l
    · rw [h2] at ha
      have E : Hid (putT t nm l = (t, 1)) := by simp [Hid, putT, h1, h2]
      rw [E.out]
      have HH := Lib.hid hh; have HA := Lib.hid ha
      clear hh ha h1 h2 E ht hx hb
      go_enter Tryd.func21, Tryd.ntmps21
      go_wp2_with (first
        | (go_at_call 33; refine HH.out.mono ?_; rintro e w' ⟨rfl, rfl⟩)
        | (go_at_call 34; refine HA.out.mono ?_; rintro e w' ⟨rfl, rfl⟩))
      go_ret
      exact Does.same HT.out
    · rw [h2] at ha
      have E : Hid (putT t nm l = (withT t nm l, 0)) := by simp [Hid, putT, h1, h2]
      rw [E.out]
      have HH := Lib.hid hh; have HA := Lib.hid ha; have HX := Lib.hid hx
      obtain ⟨hc, z, hz, rfl⟩ := ht
      have HZ := Lib.hid hz
      have hzl : Hid (z.length < maxLen) := by rw [mapT_length] at hl; simp only [Hid, maxLen]; omega
      have HS := Lib.hid hs
      clear hs hh ha h1 h2 E hx hb hl hz
      go_enter Tryd.func21, Tryd.ntmps21
      go_wp2_with (first
        | (go_at_call 33; refine HH.out.mono ?_; rintro e w' ⟨rfl, rfl⟩)
        | (go_at_call 34; refine HA.out.mono ?_; rintro e w' ⟨rfl, rfl⟩))
      go_region_held3 (fun w' => w'.cell? ⟨p, 0, none⟩ = some (.map (some B))) (go_keep)
        (first
          | (go_at_call 32; refine (clone_any A n c l _ (HX.out.later (by first | exact Later.refl _ | exact (Later.refl _).drew | exact (Later.refl _).drewN _)) hn).mono ?_; rintro e w1 ⟨v1, rfl, hown⟩; have HL : Hid (Later w w1) := Later.trans (by first | exact Later.refl _ | exact (Later.refl _).drew | exact (Later.refl _).drewN _) hown.later; have hc1 := HL.out.cell hc; obtain ⟨A1, c1, rfl, hcc, hr1⟩ := hown.row; have HR := Lib.hid hr1; obtain ⟨w2, hrun2, hown2, hturn2⟩ := (HZ.out.later HL.out).own.store keyed9 Tryd.underlying49 hzl.out (key9 HS.out) (raw_mk A1 l.length c1); have HO2 := Lib.hid hown2; have HU2 := Lib.hid hturn2; have hc2 := (Turned.of_map hturn2).cell hc1 HT.out.ne; clear hown hr1 hown2 hturn2))
      go_wp2
      go_ret
      have hg := Turned.of_map HU2.out
      exact ⟨rfl, (HT.out.later HL.out).to hg ⟨_, (HZ.out.later HL.out).put HO2.out HU2.out ⟨A1, _, c1, rfl, hcc, HR.out⟩, (withT_map (fun x : Held => x.2) z nm (_, l)).symm⟩, (HL.out.turned B).trans hg⟩

/-- A row of the call's own, and a flag. -/
def Gets (o : Option (List ByteArray)) (w : World) (e : Ending) (w' : World) : Prop := ∃ v, e = .returned (.tuple #[v, .bool o.isSome]) ∧ Own 9 w w' v (o.getD [])

set_option maxHeartbeats 400000 in
theorem get_any (p B : Nat) (nm : ByteArray) (t : Tr) (w : World) (ht : TreeAt w p B t) (hs : nm.size ≤ maxLen) (hl : ∀ f ∈ t, f.2.length ≤ 65536) :
    Calls Tryd.prog 66 #[.pointer (some ⟨p, 0, none⟩), .string nm] w (Gets (getT t nm) w) := by
  obtain ⟨hc, z, hz, rfl⟩ := ht
  rw [getT_map]
  cases hg : getT z nm with
  | none =>
    have hlk := hz.look_no hs hg
    have HC := Lib.hid (clone_any none 0 0 [] w Row.none (by omega))
    clear hz hg
    go_enter Tryd.func66, Tryd.ntmps66
    go_wp2_with (go_at_call 32; refine HC.out.mono ?_; rintro e w1 ⟨v1, rfl, hown⟩; have HO := Lib.hid hown; clear hown)
    go_ret2
    exact ⟨v1, rfl, HO.out⟩
  | some x =>
    have hlk := hz.look_yes hs hg
    obtain ⟨A, n, c, hv, hnc, hr⟩ := hz.get hg
    have hlen : n ≤ 65536 := by
      have := hl (nm, x.2) (by simp only [mapT, List.mem_map]; exact ⟨_, getT_mem hg, rfl⟩)
      rw [← hr.len]; exact this
    rw [hv] at hlk
    have HC := Lib.hid (clone_any A n c x.2 w hr hlen)
    clear hz hg hr hl hv
    go_enter Tryd.func66, Tryd.ntmps66
    go_wp2_with (go_at_call 32; refine HC.out.mono ?_; rintro e w1 ⟨v1, rfl, hown⟩; have HO := Lib.hid hown; clear hown)
    go_ret2
    exact ⟨v1, rfl, HO.out⟩

end Go.Proofs.YtboffgmaohcpfaaDoor
