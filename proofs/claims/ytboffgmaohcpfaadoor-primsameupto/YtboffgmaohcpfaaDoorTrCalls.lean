/-
  What tree's Add, Remove, Move, Put and Get come to, as calls.
-/
import Derived.Test.YtboffgmaohcpfaaDoorChecked
import Derived.Test.YtboffgmaohcpfaaDoorTrMem
import Derived.Test.YtboffgmaohcpfaaDoorTrHas
import Derived.Test.YtboffgmaohcpfaaDoorTrNamed
import Derived.Test.YtboffgmaohcpfaaDoorTrClone
import Derived.Test.YtboffgmaohcpfaaDoorLAll
import Derived.Test.YtboffgmaohcpfaaDoorWords
import Derived.Deep.LoopGhost
import Derived.Deep.QuietTactic
import Derived.BigQuiet
import Derived.Lib.Hide
namespace Go.Proofs.YtboffgmaohcpfaaDoor
open Go.RowKit Go.Maps

/-- An error's number; the tree is what the document says; nothing else has turned. -/
def Does (r : Tr × Int) (p B : Nat) (w : World) (e : Ending) (w' : World) : Prop := e = .returned (.int .i64 r.2) ∧ TreeAt w' p B r.1 ∧ Turned B w w'

theorem Does.same {t : Tr} {p B : Nat} {w : World} {k : Int} (h : TreeAt w p B t) : Does (t, k) p B w (.returned (.int .i64 k)) w := ⟨rfl, h, Turned.refl _ _⟩

set_option maxHeartbeats 400000 in
theorem add_any (p B : Nat) (nm : ByteArray) (t : Tr) (w : World) (ht : TreeAt w p B t) (hs : nm.size ≤ maxLen) (hl : t.length ≤ 65536) :
    Calls Tryd.prog 20 #[.pointer (some ⟨p, 0, none⟩), .string nm] w (Does (addT t nm) p B w) := by
  have hn := named_any nm w hs
  have hh := has_any p B nm t w ht hs
  cases h1 : namedB nm
  · rw [h1] at hn
    have E : Hid (addT t nm = (t, 20)) := by simp [Hid, addT, h1]
    rw [E.out]
    have HN := Lib.hid hn; have HT := Lib.hid ht
    clear hn hh h1 ht E
    go_enter Tryd.func20, Tryd.ntmps20
    go_wp2_with (go_at_call 24; refine HN.out.mono ?_; rintro e w' ⟨rfl, rfl⟩)
    go_ret
    exact Does.same HT.out
  · rw [h1] at hn
    cases h2 : hasT t nm
    · rw [h2] at hh
      have E : Hid (addT t nm = (withT t nm [], 0)) := by simp [Hid, addT, h1, h2]
      rw [E.out]
      have HT := Lib.hid ht
      obtain ⟨hc, z, hz, rfl⟩ := ht
      have HZ := Lib.hid hz
      have HN := Lib.hid hn; have HH := Lib.hid hh
      have hzl : z.length < maxLen := by rw [mapT_length] at hl; simp only [maxLen]; omega
      clear hn hh h1 h2 E hl hz
      go_enter Tryd.func20, Tryd.ntmps20
      go_wp2_with (first
        | (go_at_call 24; refine HN.out.mono ?_; rintro e w' ⟨rfl, rfl⟩)
        | (go_at_call 33; refine HH.out.mono ?_; rintro e w' ⟨rfl, rfl⟩)
        | (at_mapUpdate; refine wpList_mapUpdate_in _ rfl _ _ _ 49 rfl 9 22 keyed9 Tryd.underlying49 raw B z.length _ rfl HZ.out.own hzl _ _ _ rfl rfl (key9 hs) _ [] (raw_mk none 0 0) ?_; intro w1 hown1 hturn1; have HO := Lib.hid hown1; have HU := Lib.hid hturn1; clear hown1 hturn1))
      go_ret
      have hg := Turned.of_map HU.out
      exact ⟨rfl, HT.out.to hg ⟨_, HZ.out.put HO.out HU.out (Reads.nil w), (withT_map (fun x : Held => x.2) z nm (_, [])).symm⟩, hg⟩
    · rw [h2] at hh
      have E : Hid (addT t nm = (t, 21)) := by simp [Hid, addT, h1, h2]
      rw [E.out]
      have HN := Lib.hid hn; have HH := Lib.hid hh; have HT := Lib.hid ht
      clear hn hh h1 h2 ht E
      go_enter Tryd.func20, Tryd.ntmps20
      go_wp2_with (first
        | (go_at_call 24; refine HN.out.mono ?_; rintro e w' ⟨rfl, rfl⟩)
        | (go_at_call 33; refine HH.out.mono ?_; rintro e w' ⟨rfl, rfl⟩))
      go_ret
      exact Does.same HT.out

set_option maxHeartbeats 400000 in
theorem remove_any (p B : Nat) (nm : ByteArray) (t : Tr) (w : World) (ht : TreeAt w p B t) (hs : nm.size ≤ maxLen) (hl : ∀ f ∈ t, f.2.length ≤ 65536) :
    Calls Tryd.prog 68 #[.pointer (some ⟨p, 0, none⟩), .string nm] w (Does (removeT t nm) p B w) := by
  have HT := Lib.hid ht
  obtain ⟨hc, z, hz, rfl⟩ := ht
  cases hg : getT z nm with
  | none =>
    have E : Hid (removeT (mapT (·.2) z) nm = (mapT (·.2) z, 20)) := by simp [Hid, removeT, getT_map, hg]
    rw [E.out]
    have hl := hz.look_no hs hg
    clear hz hg E
    go_enter Tryd.func68, Tryd.ntmps68
    go_wp2
    go_ret
    exact Does.same HT.out
  | some x =>
    have hlk := hz.look_yes hs hg
    obtain ⟨A, n, c, hv, hnc, hr⟩ := hz.get hg
    have hlen : n ≤ 65536 := by
      have := hl (nm, x.2) (by simp only [mapT, List.mem_map]; exact ⟨_, getT_mem hg, rfl⟩)
      rw [← hr.len]; exact this
    rw [hv] at hlk
    by_cases h0 : 0 < n
    · have E : Hid (removeT (mapT (·.2) z) nm = (mapT (·.2) z, 22)) := by simp [Hid, removeT, getT_map, hg, hr.len, h0]
      rw [E.out]
      have hd : decide (0 < n) = true := by simpa using h0
      clear hz hg E hr hv hl
      go_enter Tryd.func68, Tryd.ntmps68
      go_wp2
      go_ret
      exact Does.same HT.out
    · have E : Hid (removeT (mapT (·.2) z) nm = (withoutT (mapT (·.2) z) nm, 0)) := by simp [Hid, removeT, getT_map, hg, hr.len, h0]
      rw [E.out]
      have hd : decide (0 < n) = false := by simpa using h0
      have HZ := Lib.hid hz
      clear hz hg E hr hv hl
      go_enter Tryd.func68, Tryd.ntmps68
      go_wp2_with (at_delete; refine wpList_delete_own _ rfl _ _ 49 9 rfl 22 keyed9 Tryd.underlying49 raw B z.length _ rfl HZ.out.own _ _ rfl (key9 hs) ?_; intro w1 hown1 hturn1; have HO := Lib.hid hown1; have HU := Lib.hid hturn1; clear hown1 hturn1)
      go_ret
      have hg := Turned.of_map HU.out
      exact ⟨rfl, HT.out.to hg ⟨_, HZ.out.del HO.out HU.out, (withoutT_map (fun x : Held => x.2) z nm).symm⟩, hg⟩

end Go.Proofs.YtboffgmaohcpfaaDoor
