/-
  What tree's Copy comes to, as a call.
-/
import Derived.Test.YtbjbimahmbapdaaDoorChecked
import Derived.Test.YtbjbimahmbapdaaDoorTrRange
import Derived.Test.YtbjbimahmbapdaaDoorTrClone
import Derived.Test.YtbjbimahmbapdaaDoorWords
import Derived.Deep.LoopGhost
import Derived.Deep.RegionHeld3
import Derived.Lib.Hide
namespace Go.Proofs.YtbjbimahmbapdaaDoor
open Go.RowKit Go.Maps

set_option maxRecDepth 100000 in
set_option maxHeartbeats 800000 in
theorem copy_any (p B : Nat) (t : Tr) (w : World) (ht : TreeAt w p B t) (hl : t.length ≤ 65536) (hb : ∀ f ∈ t, f.2.length ≤ 65536) :
    Calls Tryd.prog 26 #[.pointer (some ⟨p, 0, none⟩)] w (NewTree t w) := by
  obtain ⟨hc, z, hz, rfl⟩ := ht
  rw [mapT_length] at hl
  have HZ := Lib.hid hz
  have hBlt := hz.lt
  have HB := Lib.hid hb; clear hz hb
  go_enter Tryd.func26, Tryd.ntmps26
  go_wp2_with fail
  refine (new_any w).mono ?_
  rintro e w1 ⟨p1, B1, rfl, ht1, hp1, hB1, hl1⟩
  have hc1 := hl1.cell hc
  have hcell1 := ht1.cell
  have hne1 := ht1.ne
  have hp1lt := ht1.lt
  have HT1 := Lib.hid ht1; have HL1 := Lib.hid hl1; clear ht1
  have hle1 := hl1.le
  clear hl1
  go_wp2_with (at_range; refine wpList_range_files rfl _ rfl B z rfl (HZ.out.later HL1.out) ?_; intro w2 hrg2 hl2; have HR2 := Lib.hid hrg2; have HL2 := Lib.hid hl2; clear hrg2 hl2)
  go_frame
  go_loopg [] (z.length + 1) (fun g wr => ∃ (left : Lit → Bool) (cnt : Nat), cnt ≤ g ∧ Later w wr ∧ Hid (TreeAt wr p1 B1 (seen left (mapT (·.2) z))) ∧ Hid (Ranging wr B w1.heap.size z left cnt))
  case atStart =>
    refine ⟨_, _, Nat.le_succ _, HL1.out.trans HL2.out, ?_, HR2.out⟩
    have := HT1.out.later HL2.out
    rw [seen_map, seen_start]
    exact this
  case round =>
    obtain ⟨left, cnt, hcg, hwr, hct, hrg⟩ := hrel
    have hcellr := hct.out.cell
    have hle := hwr.le
    have HW := Lib.hid hwr; clear hwr
    go_wp2_with (at_next; refine wpList_next_files rfl _ rfl B w1.heap.size z left cnt rfl hrg.out ?_ ?_)
    · intro hdone
      have E : Hid (seen left (mapT (·.2) z) = mapT (·.2) z) := by rw [seen_end hdone]; rfl
      rw [E.out] at hct
      clear hdone E
      go_wp2
      go_ret
      exact ⟨p1, B1, rfl, hct.out, hp1, hB1, HW.out⟩
    · intro nm A m c l w' cnt' hmem hnm hmc hrow hlk hrg' hlt hturn hen
      have hmem2 : (nm, l) ∈ mapT (·.2) z := by simp only [mapT, List.mem_map]; exact ⟨_, hmem, rfl⟩
      have hm : m ≤ 65536 := by rw [← hrow.len]; exact HB.out _ hmem2
      have HS := Lib.hid (seen_step (left := left) (rising_map.2 hrg'.rise) hmem2)
      have hct' : TreeAt w' p1 B1 (seen left (mapT (·.2) z)) := by
        obtain ⟨h1, z1, h2, h3⟩ := hct.out
        have hit : B1 ≠ w1.heap.size := by have := HT1.out.files.lt; omega
        exact ⟨hturn.cell h1 (by show p1 ≠ w1.heap.size; omega), z1, ⟨h2.own.kept hturn (by simpa using hit), h2.rise, fun f hf => by
          obtain ⟨A2, m2, c2, e2, h4, h5⟩ := h2.reads f hf
          exact ⟨A2, m2, c2, e2, h4, h5.1, fun hn => by
            obtain ⟨b, o, e, hcc⟩ := h5.2 hn
            exact ⟨b, o, e, fun j s hs => hturn.cell (hcc j s hs) (iter_cell hrg.out.at_ (hcc j s hs))⟩⟩⟩, h3⟩
      have hcell' := hct'.cell
      have HCT := Lib.hid hct'
      have HRW := Lib.hid hrow
      have HRG := Lib.hid hrg'; have HT := Lib.hid hturn
      have hlw : Later w w' := HW.out.turn hturn hle1
      have HLW := Lib.hid hlw
      have HNM := Lib.hid hnm
      have hzl : Hid ((seen left z).length < maxLen) := by have := seen_length left z; simp only [Hid, maxLen]; omega
      clear hct' hrow hmem hlk hrg' hturn hmem2 hlw hct hrg hnm
      go_wp2_with fail
      go_region_held3 (fun w' => w'.cell? ⟨p1, 0, none⟩ = some (.map (some B1))) (go_keep)
        (first
          | (go_at_call 43; refine (clone_any A m c l _ (HRW.out.later (by first | exact Later.refl _ | exact (Later.refl _).drew | exact (Later.refl _).drewN _)) hm).mono ?_; rintro e w3 ⟨v3, rfl, hown⟩; have HL3 : Hid (Later w' w3) := Later.trans (by first | exact Later.refl _ | exact (Later.refl _).drew | exact (Later.refl _).drewN _) hown.later; have hc3 := HL3.out.cell hcell'; obtain ⟨A3, c3, rfl, hcc, hr3⟩ := hown.row; have HR := Lib.hid hr3; have H3 := HCT.out.later HL3.out; obtain ⟨-, z3, hz3, e3⟩ := H3; have hzl3 : z3.length < maxLen := (by have h9 := hzl.out; rw [← mapT_length (fun x : Held => x.2) z3, e3, seen_map, mapT_length]; exact h9); obtain ⟨w4, hrun4, hown4, hturn4⟩ := hz3.own.store keyed9 Tryd.underlying65 hzl3 (key9 HNM.out) (raw_mk A3 l.length c3); have HO4 := Lib.hid (hz3.put hown4 hturn4 ⟨A3, _, c3, rfl, hcc, hr3⟩); have HU4 := Lib.hid (Turned.of_map hturn4); have hc4 := HU4.out.cell hc3 hne1; have HM3 := Lib.hid hz3.map; have HE3 := Lib.hid e3; clear hown hr3 hown4 hturn4 hz3 hzl3 e3))
      go_wp2
      go_roundg cnt'
      case measure => omega
      case rel =>
        obtain ⟨mes, mcl, hmm⟩ := HM3.out
        refine ⟨but left nm, cnt', Nat.le_refl _, (HLW.out.trans HL3.out).turn HU4.out hB1, ?_, (HRG.out.later HL3.out).other HU4.out (by omega) hmm⟩
        refine (HCT.out.later HL3.out).to HU4.out ⟨_, HO4.out, ?_⟩
        rw [HS.out, ← HE3.out]
        exact (withT_map (fun x : Held => x.2) z3 nm (_, l)).symm

end Go.Proofs.YtbjbimahmbapdaaDoor
