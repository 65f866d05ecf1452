/-
  What the document's Same on trees comes to, as a call.
-/
import Derived.Test.YtbjbimahmbapdaaDoorRfMem
import Derived.Test.YtbjbimahmbapdaaDoorRSame
import Derived.Test.YtbjbimahmbapdaaDoorTrSame
import Derived.Deep.LoopGhost
import Derived.Deep.QuietTactic
import Derived.BigQuiet
namespace Go.Proofs.YtbjbimahmbapdaaDoor
open Go.RowKit Go.Maps

theorem take_sameT {a b : Tr} {k : Nat} {f : ByteArray × List ByteArray} (ha : a[k]? = some f) (hb : b[k]? = some f) (h : a.take k = b.take k) : a.take (k + 1) = b.take (k + 1) := by
  obtain ⟨h1, e1⟩ := List.getElem?_eq_some_iff.1 ha
  obtain ⟨h2, e2⟩ := List.getElem?_eq_some_iff.1 hb
  rw [List.take_succ_eq_append_getElem h1, List.take_succ_eq_append_getElem h2, h, e1, e2]

set_option maxRecDepth 100000 in
set_option maxHeartbeats 800000 in
theorem refSameT_any (A : Option Addr) (n c : Nat) (z : Fl Held) (B : Option Addr) (m d : Nat) (y : Fl Held) (w : World) (hx : RefRow w A n z) (hy : RefRow w B m y) (hn : n ≤ 65536) (hm : m ≤ 65536) (hbz : ∀ f ∈ z, f.2.2.length ≤ 65536) (hby : ∀ f ∈ y, f.2.2.length ≤ 65536) :
    Calls Tryd.prog 14 #[.slice A n c, .slice B m d] w fun e w' => e = .returned (.bool (sameT (mapT (·.2) z) (mapT (·.2) y))) ∧ Drew w w' := by
  by_cases hnm : n = m
  · subst hnm
    have HX := Lib.hid hx; clear hx
    have HY := Lib.hid hy; clear hy
    have HBZ := Lib.hid hbz; clear hbz
    have HBY := Lib.hid hby; clear hby
    go_enter Tryd.func14, Tryd.ntmps14
    go_wp2
    go_loopg [5] (n + 1) (fun g s5 wr => ∃ k : Nat, k ≤ n ∧ n - k ≤ g ∧ s5 = .int .i64 k ∧ Drew w wr ∧ Hid ((mapT (·.2) z).take k = (mapT (·.2) y).take k))
    case atStart => exact ⟨0, Nat.zero_le _, by omega, rfl, Drew.refl w, by simp [Hid]⟩
    case round =>
      obtain ⟨k, hk, hg, rfl, hwr, heq⟩ := hrel
      have HW := Lib.hid hwr
      by_cases hlt : k < n
      · obtain ⟨b1, o1, f, rfl, hz, g1, g2⟩ := (HX.out.later hwr.later).get hlt
        obtain ⟨b2, o2, h, rfl, hy, g3, g4⟩ := (HY.out.later hwr.later).get hlt
        have hfz : (mapT (·.2) z)[k]? = some (f.1, f.2.2) := by simp [mapT, hz]
        have hfy : (mapT (·.2) y)[k]? = some (h.1, h.2.2) := by simp [mapT, hy]
        clear hwr
        by_cases hxy : f.1 = h.1
        · rw [← hxy] at g3
          obtain ⟨A1, n1, c1, hv1, hnc1, hr1⟩ := HX.out.reads f (List.mem_of_getElem? hz)
          obtain ⟨A2, n2, c2, hv2, hnc2, hr2⟩ := HY.out.reads h (List.mem_of_getElem? hy)
          rw [hv1] at g2
          rw [hv2] at g4
          have HS := Lib.hid (fun (w1 : World) (hw1 : Drew w w1) => refSame_any A1 A2 n1 c1 n2 c2 f.2.2 h.2.2 w1 (hr1.later hw1.later) (hr2.later hw1.later) (by rw [← hr1.len]; exact HBZ.out f (List.mem_of_getElem? hz)) (by rw [← hr2.len]; exact HBY.out h (List.mem_of_getElem? hy)))
          by_cases hl : f.2.2 = h.2.2
          · rw [sameB_yes hl] at HS
            have HE : Hid ((mapT (·.2) z).take (k + 1) = (mapT (·.2) y).take (k + 1)) := take_sameT hfz (by rw [hfy, hxy, hl]) heq.out
            generalize f.1 = fn at g1 g3
            clear hxy hl hz hy hfz hfy hv1 hv2 hr1 hr2 heq
            go_wp2_with fail
            go_quiet ((go_at_call 36; exact Calls.quiet_of (HS.out _ (HW.out.more _))))
            go_wp2
            go_roundg (n - (k + 1))
            case measure => omega
            case rel => exact ⟨k + 1, by omega, Nat.le_refl _, by go_num, HW.out.more _, HE.out⟩
          · rw [sameB_no hl] at HS
            have E : Hid (sameT (mapT (·.2) z) (mapT (·.2) y) = false) := sameT_no fun e => by
              rw [e, hfy] at hfz
              simp only [Option.some.injEq, Prod.mk.injEq] at hfz
              exact hl hfz.2.symm
            generalize f.1 = fn at g1 g3
            clear hxy hl hz hy hfz hfy hv1 hv2 hr1 hr2 heq
            go_wp2_with fail
            go_quiet ((go_at_call 36; exact Calls.quiet_of (HS.out _ (HW.out.more _))))
            go_wp2
            go_ret
            exact ⟨ret_bool E.out.symm, HW.out.more _⟩
        · have hb := text_ne hxy
          have E : Hid (sameT (mapT (·.2) z) (mapT (·.2) y) = false) := sameT_no fun e => by
            rw [e, hfy] at hfz
            simp only [Option.some.injEq, Prod.mk.injEq] at hfz
            exact hxy hfz.1.symm
          generalize f.1 = fn at g1 hb
          generalize h.1 = hn' at g3 hb
          clear hxy hz hy hfz hfy heq g2 g4
          go_wp2_with fail
          go_quiet (fail)
          go_wp2
          go_ret
          exact ⟨ret_bool E.out.symm, HW.out.more _⟩
      · have e : sameT (mapT (·.2) z) (mapT (·.2) y) = true := by
          have h1 := heq.out
          rw [List.take_of_length_le (by rw [mapT_length, HX.out.len]; omega), List.take_of_length_le (by rw [mapT_length, HY.out.len]; omega)] at h1
          rw [h1]; exact sameT_self _
        have E := Lib.hid e; clear e heq hwr
        go_wp2
        go_ret
        exact ⟨ret_bool E.out.symm, HW.out⟩
  · have E : Hid (sameT (mapT (·.2) z) (mapT (·.2) y) = false) := sameT_no fun e => hnm (by have := congrArg List.length e; rw [mapT_length, mapT_length, hx.len, hy.len] at this; exact this)
    have hd : ((n : Int) != (m : Int)) = true := by rw [bne_iff_ne]; omega
    have hnm' : ¬ (n : Int) = (m : Int) := by omega
    clear hx hy hbz hby hnm
    go_enter Tryd.func14, Tryd.ntmps14
    go_wp2
    go_ret
    exact ⟨ret_bool E.out.symm, Drew.refl w⟩

theorem refSameAt_any (v1 v2 : Value) (t1 t2 : Tr) (w : World) (h1 : RefAt w v1 t1) (h2 : RefAt w v2 t2) (hl1 : t1.length ≤ 65536) (hl2 : t2.length ≤ 65536) (hb1 : ∀ f ∈ t1, f.2.length ≤ 65536) (hb2 : ∀ f ∈ t2, f.2.length ≤ 65536) :
    Calls Tryd.prog 14 #[v1, v2] w fun e w' => e = .returned (.bool (sameT t1 t2)) ∧ Drew w w' := by
  obtain ⟨A, n, c, z, rfl, hc, hr, rfl⟩ := h1
  obtain ⟨B, m, d, y, rfl, hd, hs, rfl⟩ := h2
  rw [mapT_length, hr.len] at hl1
  rw [mapT_length, hs.len] at hl2
  exact refSameT_any A n c z B m d y w hr hs hl1 hl2 (fun f hf => hb1 (f.1, f.2.2) (by simp only [mapT, List.mem_map]; exact ⟨_, hf, rfl⟩)) (fun f hf => hb2 (f.1, f.2.2) (by simp only [mapT, List.mem_map]; exact ⟨_, hf, rfl⟩))

end Go.Proofs.YtbjbimahmbapdaaDoor
