/-
  What maps.EqualFunc at files with line.Same, and tree.Same, come to, as calls.
-/
import Derived.Test.YtbjbimahmbapdaaDoorChecked
import Derived.Test.YtbjbimahmbapdaaDoorTrRange
import Derived.Test.YtbjbimahmbapdaaDoorLSame
import Derived.Test.YtbjbimahmbapdaaDoorWords
import Derived.Deep.LoopGhost
import Derived.Deep.RegionHeld3
import Derived.Lib.Hide
namespace Go.Proofs.YtbjbimahmbapdaaDoor
open Go.RowKit Go.Maps

section
variable {α : Type}
theorem rising_le : ∀ {a b : Fl α}, Rising a → Rising b → (∀ f ∈ a, f ∈ b) → a.length ≤ b.length
  | [], _, _, _, _ => Nat.zero_le _
  | x :: a, [], _, _, h => absurd (h x List.mem_cons_self) (by simp)
  | x :: a, y :: b, ha, hb, h => by
    by_cases e : x = y
    · subst e
      have := rising_le (rising_tail ha) (rising_tail hb) fun f hf => by
        rcases List.mem_cons.1 (h f (List.mem_cons_of_mem _ hf)) with rfl | h1
        · exact absurd rfl (ltN_ne (rising_head ha hf))
        · exact h1
      simpa using this
    · have hx : x ∈ b := (List.mem_cons.1 (h x List.mem_cons_self)).resolve_left e
      have hlt := rising_head hb hx
      have := rising_le (a := x :: a) ha (rising_tail hb) fun f hf => by
        rcases List.mem_cons.1 (h f hf) with rfl | h1
        · rcases List.mem_cons.1 hf with rfl | hf
          · exact absurd rfl e
          · have := ltN_asymm (rising_head ha hf); rw [hlt] at this; cases this
        · exact h1
      simp at this ⊢; omega
/-- As many files, all of them there: the same. -/
theorem rising_sub : ∀ {a b : Fl α}, Rising a → Rising b → (∀ f ∈ a, f ∈ b) → b.length ≤ a.length → a = b
  | [], [], _, _, _, _ => rfl
  | [], y :: b, _, _, _, h => absurd h (by simp)
  | x :: a, [], _, _, h, _ => absurd (h x List.mem_cons_self) (by simp)
  | x :: a, y :: b, ha, hb, h, hl => by
    have e : x = y := by
      rcases Classical.em (x = y) with e | e
      · exact e
      · have hx : x ∈ b := (List.mem_cons.1 (h x List.mem_cons_self)).resolve_left e
        have hlt := rising_head hb hx
        have := rising_le (a := x :: a) ha (rising_tail hb) fun f hf => by
          rcases List.mem_cons.1 (h f hf) with rfl | h1
          · rcases List.mem_cons.1 hf with rfl | hf
            · exact absurd rfl e
            · have := ltN_asymm (rising_head ha hf); rw [hlt] at this; cases this
          · exact h1
        simp at this hl; omega
    subst e
    refine congrArg _ (rising_sub (rising_tail ha) (rising_tail hb) (fun f hf => ?_) (by simpa using hl))
    rcases List.mem_cons.1 (h f (List.mem_cons_of_mem _ hf)) with rfl | h1
    · exact absurd rfl (ltN_ne (rising_head ha hf))
    · exact h1
end

theorem FA.step {w w' : World} {B r n cnt : Nat} {z : Fl Held} {D : DataW Value} {left : Lit → Bool} {B0 : Nat} (h : FA w B z) (hr : w.ranges Tryd.prog 9 raw B0 r n D left cnt) (hg : Turned r w w') (hne : B ≠ r) : FA w' B z :=
  ⟨h.own.kept hg (by simpa using hne), h.rise, fun f hf => by
    obtain ⟨A, m, c, e, h1, h2⟩ := h.reads f hf
    exact ⟨A, m, c, e, h1, h2.1, fun hn => by
      obtain ⟨b, o, e, hc⟩ := h2.2 hn
      exact ⟨b, o, e, fun j s hs => hg.cell (hc j s hs) (iter_cell hr (hc j s hs))⟩⟩⟩

theorem sameT_no {a b : Tr} (h : a ≠ b) : sameT a b = false := by simp [sameT, h]
theorem sameT_self (a : Tr) : sameT a a = true := by simp [sameT]

/-- A bool; nothing old has turned. -/
def Says (b : Bool) (w : World) (e : Ending) (w' : World) : Prop := e = .returned (.bool b) ∧ Later w w'

set_option maxHeartbeats 800000 in
theorem equalFunc_any (B1 B2 : Nat) (z1 z2 : Fl Held) (w : World) (h1 : FA w B1 z1) (h2 : FA w B2 z2) (hb1 : ∀ f ∈ z1, f.2.2.length ≤ 65536) (hb2 : ∀ f ∈ z2, f.2.2.length ≤ 65536) :
    Calls Tryd.prog 46 #[.map (some B1), .map (some B2), .func (.func 24) #[] #[]] w (Says (sameT (mapT (·.2) z1) (mapT (·.2) z2)) w) := by
  have H1 := Lib.hid h1; have H2 := Lib.hid h2
  have hlt1 := h1.lt; have hlt2 := h2.lt
  have HB1 := Lib.hid hb1; have HB2 := Lib.hid hb2
  have R1 : Hid (Rising (mapT (·.2) z1)) := rising_map.2 h1.rise
  have R2 : Hid (Rising (mapT (·.2) z2)) := rising_map.2 h2.rise
  clear h1 h2 hb1 hb2
  by_cases hlen : z1.length = z2.length
  · have HLEN := Lib.hid hlen
    have hd : ((z1.length : Int) != (z2.length : Int)) = false := by rw [bne_eq_false_iff_eq]; omega
    go_enter Tryd.func46, Tryd.ntmps46
    go_wp2_with (first
      | (at_len; refine wpList_len_own _ rfl _ 65 rfl 9 29 Tryd.underlying65 raw B1 z1.length _ rfl H1.out.own ?_; rw [size_datum, mapT_length])
      | (at_len; refine wpList_len_own _ rfl _ 65 rfl 9 29 Tryd.underlying65 raw B2 z2.length _ rfl H2.out.own ?_; rw [size_datum, mapT_length])
      | (at_range; refine wpList_range_files rfl _ rfl B1 z1 rfl H1.out ?_; intro w0 hrg0 hl0; have HR0 := Lib.hid hrg0; have HL0 := Lib.hid hl0; clear hrg0 hl0))
    go_frame
    clear hd hlen
    go_loopg [] (z1.length + 1) (fun g wr => ∃ (left : Lit → Bool) (cnt : Nat), cnt ≤ g ∧ Later w wr ∧ Hid (FA wr B2 z2) ∧ Hid (Ranging wr B1 w.heap.size z1 left cnt) ∧ Hid (∀ f ∈ seen left (mapT (·.2) z1), f ∈ mapT (·.2) z2))
    case atStart => exact ⟨_, _, Nat.le_succ _, HL0.out, H2.out.later HL0.out, HR0.out, by rw [seen_map, seen_start]; exact fun f hf => by cases hf⟩
    case round =>
      obtain ⟨left, cnt, hcg, hwr, hf2, hrg, hall⟩ := hrel
      have HW := Lib.hid hwr; clear hwr
      go_wp2_with (at_next; refine wpList_next_files rfl _ rfl B1 w.heap.size z1 left cnt rfl hrg.out ?_ ?_)
      · intro hdone
        have E : Hid (sameT (mapT (·.2) z1) (mapT (·.2) z2) = true) := by
          have hall' := hall.out
          rw [seen_end hdone] at hall'
          have e := rising_sub R1.out R2.out hall' (by rw [mapT_length, mapT_length]; exact Nat.le_of_eq HLEN.out.symm)
          rw [e]; exact sameT_self _
        clear hdone hall
        go_wp2
        go_ret
        exact ⟨ret_bool E.out.symm, HW.out⟩
      · intro nm A m c l w' cnt' hmem hnm hmc hrow hlk hrg' hlt hturn hen
        have hmem1 : (nm, l) ∈ mapT (·.2) z1 := by simp only [mapT, List.mem_map]; exact ⟨_, hmem, rfl⟩
        have hm : m ≤ 65536 := by rw [← hrow.len]; exact HB1.out _ hmem
        have hf2' : FA w' B2 z2 := hf2.out.step hrg.out.at_ hturn (by omega)
        have hlw : Later w w' := HW.out.turn hturn (Nat.le_refl _)
        have HLW := Lib.hid hlw; have HF2 := Lib.hid hf2'
        have HRG := Lib.hid hrg'
        cases hg : getT z2 nm with
        | none =>
          have hlook := hf2'.look_no hnm hg
          have E : Hid (sameT (mapT (·.2) z1) (mapT (·.2) z2) = false) := sameT_no fun e => by
            have h9 : getT (mapT (·.2) z2) nm = none := by rw [getT_map, hg]; rfl
            exact getT_none.1 h9 _ (e ▸ hmem1) rfl
          clear hrow hmem hlk hrg' hturn hmem1 hf2' hlw hg hall hf2 hrg
          go_wp2
          go_ret
          exact ⟨ret_bool E.out.symm, HLW.out⟩
        | some x =>
          have hlook := hf2'.look_yes hnm hg
          obtain ⟨A2, m2, c2, hv, hmc2, hr2⟩ := hf2'.get hg
          have hm2 : m2 ≤ 65536 := by rw [← hr2.len]; exact HB2.out _ (getT_mem hg)
          rw [hv] at hlook
          have hg2 : getT (mapT (·.2) z2) nm = some x.2 := by rw [getT_map, hg]; rfl
          have hsame := same_any A A2 m c m2 c2 l x.2 w' hrow hr2 hm hm2
          by_cases hx : l = x.2
          · have hall' : ∀ f ∈ seen (but left nm) (mapT (·.2) z1), f ∈ mapT (·.2) z2 := fun f hf => by
              rw [seen_step R1.out hmem1] at hf
              rcases mem_with.1 hf with rfl | hf
              · rw [hx]; exact getT_mem hg2
              · exact hall.out f hf.1
            have HALL := Lib.hid hall'
            rw [sameB_yes hx] at hsame
            have HS := Lib.hid hsame
            clear hrow hmem hlk hrg' hturn hmem1 hf2' hlw hg hall hf2 hrg hr2 hv hg2 hx hall' hsame
            go_wp2_with (go_at_call 24; refine HS.out.mono ?_; rintro e w4 ⟨rfl, q, rfl⟩)
            go_roundg cnt'
            case measure => omega
            case rel =>
              have hd : Later w' (w'.drewN q) := (Later.refl _).drewN q
              exact ⟨but left nm, cnt', Nat.le_refl _, HLW.out.trans hd, HF2.out.later hd, HRG.out.later hd, HALL.out⟩
          · have E : Hid (sameT (mapT (·.2) z1) (mapT (·.2) z2) = false) := sameT_no fun e => by
              have h9 := (getT_iff R2.out).2 (e ▸ hmem1)
              rw [hg2] at h9; exact hx (Option.some.inj h9).symm
            rw [sameB_no hx] at hsame
            have HS := Lib.hid hsame
            clear hrow hmem hlk hrg' hturn hmem1 hf2' hlw hg hall hf2 hrg hr2 hv hg2 hx hsame
            go_wp2_with (go_at_call 24; refine HS.out.mono ?_; rintro e w4 ⟨rfl, q, rfl⟩)
            go_ret
            exact ⟨ret_bool E.out.symm, HLW.out.drewN q⟩
  · have E : Hid (sameT (mapT (·.2) z1) (mapT (·.2) z2) = false) := sameT_no fun e => hlen (by have := congrArg List.length e; rwa [mapT_length, mapT_length] at this)
    rw [E.out]
    have hd : ((z1.length : Int) != (z2.length : Int)) = true := by rw [bne_iff_ne]; omega
    clear hlen E
    go_enter Tryd.func46, Tryd.ntmps46
    go_wp2_with (first
      | (at_len; refine wpList_len_own _ rfl _ 65 rfl 9 29 Tryd.underlying65 raw B1 z1.length _ rfl H1.out.own ?_; rw [size_datum, mapT_length])
      | (at_len; refine wpList_len_own _ rfl _ 65 rfl 9 29 Tryd.underlying65 raw B2 z2.length _ rfl H2.out.own ?_; rw [size_datum, mapT_length]))
    go_ret
    exact ⟨rfl, Later.refl w⟩

set_option maxRecDepth 100000 in
set_option maxHeartbeats 400000 in
theorem sameTree_any (p1 B1 p2 B2 : Nat) (t1 t2 : Tr) (w : World) (h1 : TreeAt w p1 B1 t1) (h2 : TreeAt w p2 B2 t2) (hb1 : ∀ f ∈ t1, f.2.length ≤ 65536) (hb2 : ∀ f ∈ t2, f.2.length ≤ 65536) :
    Calls Tryd.prog 25 #[.pointer (some ⟨p1, 0, none⟩), .pointer (some ⟨p2, 0, none⟩)] w (Says (sameT t1 t2) w) := by
  obtain ⟨hc1, z1, hz1, rfl⟩ := h1
  obtain ⟨hc2, z2, hz2, rfl⟩ := h2
  have B1' : ∀ f ∈ z1, f.2.2.length ≤ 65536 := fun f hf => hb1 (f.1, f.2.2) (by simp only [mapT, List.mem_map]; exact ⟨_, hf, rfl⟩)
  have B2' : ∀ f ∈ z2, f.2.2.length ≤ 65536 := fun f hf => hb2 (f.1, f.2.2) (by simp only [mapT, List.mem_map]; exact ⟨_, hf, rfl⟩)
  have HE := Lib.hid (fun (w1 : World) (h : Later w w1) => equalFunc_any B1 B2 z1 z2 w1 (hz1.later h) (hz2.later h) B1' B2')
  clear hz1 hz2 hb1 hb2 B1' B2'
  go_enter Tryd.func25, Tryd.ntmps25
  go_wp2_with fail
  go_region_held3 (fun w' => w'.cell? ⟨p1, 0, none⟩ = some (.map (some B1)) ∧ w'.cell? ⟨p2, 0, none⟩ = some (.map (some B2))) (go_keep)
    (first
      | (go_at_call 46; refine (HE.out _ (by first | exact Later.refl _ | exact (Later.refl _).drew | exact (Later.refl _).drewN _)).mono ?_; rintro e w1 ⟨rfl, hl1⟩; have HL : Hid (Later w w1) := Later.trans (by first | exact Later.refl _ | exact (Later.refl _).drew | exact (Later.refl _).drewN _) hl1; have hd1 := HL.out.cell hc1; have hd2 := HL.out.cell hc2; clear hl1))
  go_wp2
  go_ret
  exact ⟨rfl, HL.out⟩

end Go.Proofs.YtbjbimahmbapdaaDoor
