import Derived.Test.YtbhnbkcokhfopaaGreatPk11
import Derived.Test.YtbhnbkcokhfopaaGreatPk18
import Derived.Test.YtbhnbkcokhfopaaGreatPk4
import Derived.Deep.RegionHeld3
import Derived.Test.YtbhnbkcokhfopaaGreatChecked
import Derived.Test.YtbhnbkcokhfopaaGreatPk17
import Derived.Test.YtbhnbkcokhfopaaGreatPk3
import Derived.Deep.LoopGhost
import Derived.Lib.Hide
import Derived.Test.YtbhnbkcokhfopaaGreatPk5
import Derived.Test.YtbhnbkcokhfopaaGreatPk15
import Derived.Deep.QuietTactic
import Derived.BigQuiet
import Derived.Test.YtbhnbkcokhfopaaGreatPk6

/-
  What prim's Apply comes to, as a call.
-/
namespace Go.Proofs.YtbhnbkcokhfopaaGreat
open Go.RowKit Go.Maps

theorem deed_enters {k : Int} (hk : k = 0 ∨ k = 1 ∨ k = 2 ∨ k = 3) : ∀ (args : Array Value) (w : World), (callFunc (deedAt k) args).run Tryz.prog w = .ok (.enter (deedAt k) args) w := by
  rcases hk with rfl | rfl | rfl | rfl
  · exact enters_of Tryz.func73 (by kernel_rfl) rfl
  · exact enters_of Tryz.func74 (by kernel_rfl) rfl
  · exact enters_of Tryz.func75 (by kernel_rfl) rfl
  · exact enters_of Tryz.func76 (by kernel_rfl) rfl

/-- Each kind by its own function. -/
theorem deed_any (x : PrC) (p B k h : Nat) (t : Tr) (w : World) (ht : TreeAt w p B t) (hx : PrOk w x) (hr : rightP x.v = true) (hs : Sized k h t) (hk : k ≤ 60000) (hh : h + x.m ≤ 65536) :
    ∃ r : Tr × Int, Calls Tryz.prog (deedAt x.v.kind) #[prV x, .pointer (some ⟨p, 0, none⟩)] w (Deed r p B w) ∧ applyP t x.v = (r.1, if (r.2 == 0) = true then 0 else 31) := by
  have hl : t.length ≤ 65536 := by have := hs.many; omega
  have hb : ∀ f ∈ t, f.2.length ≤ 65536 := fun f hf => by have := (hs.each f hf).2.2; omega
  rcases (right_parts hr).2.1 with e | e | e | e
  · refine ⟨hunkT t x.v, by rw [e]; exact deedSplice_any x p B k h t w ht hx hr hs hk hh, ?_⟩
    rw [apply_hunk hr e]
    unfold hunkT
    split
    · rfl
    · split <;> rfl
  · refine ⟨addT t x.v.name, by rw [e]; exact deedAdd_any x p B t w ht hx hl, ?_⟩
    rw [apply_add hr e]; simp
  · refine ⟨removeT t x.v.name, by rw [e]; exact deedRemove_any x p B t w ht hx hb, ?_⟩
    rw [apply_rm hr e]; simp
  · refine ⟨moveT t x.v.name x.v.to, by rw [e]; exact deedMove_any x p B t w ht hx hl, ?_⟩
    rw [apply_move hr e]; simp

set_option maxRecDepth 100000 in
set_option maxHeartbeats 800000 in
theorem apply_any (x : PrC) (p B k h : Nat) (t : Tr) (w : World) (ht : TreeAt w p B t) (hx : PrOk w x) (hs : Sized k h t) (hk : k ≤ 60000) (hh : h + x.m ≤ 65536) :
    Calls Tryz.prog 34 #[.pointer (some ⟨p, 0, none⟩), prV x] w (Does (applyP t x.v) p B w) := by
  have hlb : Later w (w.alloc (.cells #[.int .i64 x.v.kind, .string x.v.name, .string x.v.to, .int .i64 x.v.place, .slice x.A x.n x.c, .slice x.B x.m x.d] 53)) := (Later.refl w).alloc _
  have hri := primRight_any x _ (hx.later hlb)
  have hbx : BoxAt (w.alloc (.cells #[.int .i64 x.v.kind, .string x.v.name, .string x.v.to, .int .i64 x.v.place, .slice x.A x.n x.c, .slice x.B x.m x.d] 53)) w.heap.size #[.int .i64 x.v.kind, .string x.v.name, .string x.v.to, .int .i64 x.v.place, .slice x.A x.n x.c, .slice x.B x.m x.d] 53 := BoxAt.made w _ _
  have HLB := Lib.hid hlb; have HT := Lib.hid ht; have HBX := Lib.hid hbx
  cases hr : rightP x.v
  · rw [hr] at hri
    have HR := Lib.hid hri
    rw [apply_wrong hr]
    clear hri hr hx hs hlb ht hbx
    unfold prV at HR ⊢
    go_enter Tryz.func34, Tryz.ntmps34
    go_wp2_with fail
    refine HR.out.mono ?_
    rintro e w1 ⟨rfl, hl1⟩
    have HL1 := Lib.hid (HLB.out.trans hl1); clear hl1
    go_wp2
    go_ret
    exact ⟨rfl, HT.out.later HL1.out, HL1.out.turned B⟩
  · rw [hr] at hri
    have HR := Lib.hid hri
    have HD := Lib.hid (fun (w1 : World) (hl : Later w w1) => deed_any x p B k h t w1 (ht.later hl) (hx.later hl) hr hs hk hh)
    have HK := Lib.hid (right_parts hr).2.1
    clear hri hr hx hs hlb ht hbx
    unfold prV at HR HD ⊢
    go_enter Tryz.func34, Tryz.ntmps34
    go_wp2_with fail
    refine HR.out.mono ?_
    rintro e w1 ⟨rfl, hl1⟩
    have hb1 := HBX.out.later hl1
    have HL1 := Lib.hid (HLB.out.trans hl1)
    have x0 := hb1.cell (i := 0) rfl
    have HB1 := Lib.hid hb1
    clear hl1 hb1
    go_wp2_with fail
    go_region_held3 (fun w' => w'.cell? ⟨w.heap.size, 0, none⟩ = some (.int .i64 x.v.kind)) (go_keep)
      (first | (go_at_call 59; refine (deeds_any _).mono ?_; rintro e w2 ⟨B2, rfl, hd2, hl2⟩; have HL2 : Hid (Later w1 w2) := Later.trans (by first | exact Later.refl _ | exact (Later.refl _).drew | exact (Later.refl _).drewN _) hl2; have x02 := HL2.out.cell x0; have hlk := hd2.look HK.out; have HD2 := Lib.hid hd2; clear hd2 hl2))
    have hb2 := HB1.out.later HL2.out
    have y0 := hb2.cell (i := 0) rfl; have y1 := hb2.cell (i := 1) rfl; have y2 := hb2.cell (i := 2) rfl; have y3 := hb2.cell (i := 3) rfl; have y4 := hb2.cell (i := 4) rfl; have y5 := hb2.cell (i := 5) rfl
    obtain ⟨r, hcall, happ⟩ := HD.out w2 (HL1.out.trans HL2.out)
    have HCL := Lib.hid hcall; have HAP := Lib.hid happ
    have eg := deed_enters HK.out
    generalize deedAt x.v.kind = f at HCL eg hlk ⊢
    clear hb2 hcall happ hlk x0 x02 HD
    unfold Deed at HCL
    generalize (r.2 == 0) = b at HCL HAP
    cases b
    · go_wp2_with (go_at_fn f; refine HCL.out.mono ?_; rintro e w3 ⟨rfl, h3, h4⟩; have H3 := Lib.hid h3; have H4 := Lib.hid h4; clear h3 h4)
      go_ret
      rw [HAP.out]
      exact ⟨rfl, H3.out, ((HL1.out.trans HL2.out).turned B).trans H4.out⟩
    · go_wp2_with (go_at_fn f; refine HCL.out.mono ?_; rintro e w3 ⟨rfl, h3, h4⟩; have H3 := Lib.hid h3; have H4 := Lib.hid h4; clear h3 h4)
      go_ret
      rw [HAP.out]
      exact ⟨rfl, H3.out, ((HL1.out.trans HL2.out).turned B).trans H4.out⟩

end Go.Proofs.YtbhnbkcokhfopaaGreat

/-
  What maps.EqualFunc at files with line.Same, and tree.Same, come to, as calls.
-/
namespace Go.Proofs.YtbhnbkcokhfopaaGreat
open Go.RowKit Go.Maps

section
variable {α : Type}
theorem rising_le : ∀ {a b : Fl α}, Rising a → Rising b → (∀ f ∈ a, f ∈ b) → a.length ≤ b.length
  | [], _, _, _, _ => Nat.zero_le _
  | x :: a, [], _, _, h => absurd (h x List.mem_cons_self) (by simp)
  | x :: a, y :: b, ha, hb, h => by
    by_cases e : x = y
    · subst e
      have := rising_le (rising_tail ha) (rising_tail hb) fun f hf => by
        rcases List.mem_cons.1 (h f (List.mem_cons_of_mem _ hf)) with rfl | h1
        · exact absurd rfl (ltN_ne (rising_head ha hf))
        · exact h1
      simpa using this
    · have hx : x ∈ b := (List.mem_cons.1 (h x List.mem_cons_self)).resolve_left e
      have hlt := rising_head hb hx
      have := rising_le (a := x :: a) ha (rising_tail hb) fun f hf => by
        rcases List.mem_cons.1 (h f hf) with rfl | h1
        · rcases List.mem_cons.1 hf with rfl | hf
          · exact absurd rfl e
          · have := ltN_asymm (rising_head ha hf); rw [hlt] at this; cases this
        · exact h1
      simp at this ⊢; omega
/-- As many files, all of them there: the same. -/
theorem rising_sub : ∀ {a b : Fl α}, Rising a → Rising b → (∀ f ∈ a, f ∈ b) → b.length ≤ a.length → a = b
  | [], [], _, _, _, _ => rfl
  | [], y :: b, _, _, _, h => absurd h (by simp)
  | x :: a, [], _, _, h, _ => absurd (h x List.mem_cons_self) (by simp)
  | x :: a, y :: b, ha, hb, h, hl => by
    have e : x = y := by
      rcases Classical.em (x = y) with e | e
      · exact e
      · have hx : x ∈ b := (List.mem_cons.1 (h x List.mem_cons_self)).resolve_left e
        have hlt := rising_head hb hx
        have := rising_le (a := x :: a) ha (rising_tail hb) fun f hf => by
          rcases List.mem_cons.1 (h f hf) with rfl | h1
          · rcases List.mem_cons.1 hf with rfl | hf
            · exact absurd rfl e
            · have := ltN_asymm (rising_head ha hf); rw [hlt] at this; cases this
          · exact h1
        simp at this hl; omega
    subst e
    refine congrArg _ (rising_sub (rising_tail ha) (rising_tail hb) (fun f hf => ?_) (by simpa using hl))
    rcases List.mem_cons.1 (h f (List.mem_cons_of_mem _ hf)) with rfl | h1
    · exact absurd rfl (ltN_ne (rising_head ha hf))
    · exact h1
end

theorem FA.step {w w' : World} {B r n cnt : Nat} {z : Fl Held} {D : DataW Value} {left : Lit → Bool} {B0 : Nat} (h : FA w B z) (hr : w.ranges Tryz.prog 9 raw B0 r n D left cnt) (hg : Turned r w w') (hne : B ≠ r) : FA w' B z :=
  ⟨h.own.kept hg (by simpa using hne), h.rise, fun f hf => by
    obtain ⟨A, m, c, e, h1, h2⟩ := h.reads f hf
    exact ⟨A, m, c, e, h1, h2.1, fun hn => by
      obtain ⟨b, o, e, hc⟩ := h2.2 hn
      exact ⟨b, o, e, fun j s hs => hg.cell (hc j s hs) (iter_cell hr (hc j s hs))⟩⟩⟩

set_option maxHeartbeats 800000 in
theorem equalFunc_any (B1 B2 : Nat) (z1 z2 : Fl Held) (w : World) (h1 : FA w B1 z1) (h2 : FA w B2 z2) (hb1 : ∀ f ∈ z1, f.2.2.length ≤ 65536) (hb2 : ∀ f ∈ z2, f.2.2.length ≤ 65536) :
    Calls Tryz.prog 37 #[.map (some B1), .map (some B2), .func (.func 38) #[] #[]] w (Says (sameT (mapT (·.2) z1) (mapT (·.2) z2)) w) := by
  have H1 := Lib.hid h1; have H2 := Lib.hid h2
  have hlt1 := h1.lt; have hlt2 := h2.lt
  have HB1 := Lib.hid hb1; have HB2 := Lib.hid hb2
  have R1 : Hid (Rising (mapT (·.2) z1)) := rising_map.2 h1.rise
  have R2 : Hid (Rising (mapT (·.2) z2)) := rising_map.2 h2.rise
  clear h1 h2 hb1 hb2
  by_cases hlen : z1.length = z2.length
  · have HLEN := Lib.hid hlen
    have hd : ((z1.length : Int) != (z2.length : Int)) = false := by rw [bne_eq_false_iff_eq]; omega
    go_enter Tryz.func37, Tryz.ntmps37
    go_wp2_with (first
      | (at_len; refine wpList_len_own _ rfl _ 73 rfl 9 45 Tryz.underlying73 raw B1 z1.length _ rfl H1.out.own ?_; rw [size_datum, mapT_length])
      | (at_len; refine wpList_len_own _ rfl _ 73 rfl 9 45 Tryz.underlying73 raw B2 z2.length _ rfl H2.out.own ?_; rw [size_datum, mapT_length])
      | (at_range; refine wpList_range_files rfl _ rfl B1 z1 rfl H1.out ?_; intro w0 hrg0 hl0; have HR0 := Lib.hid hrg0; have HL0 := Lib.hid hl0; clear hrg0 hl0))
    go_frame
    clear hd hlen
    go_loopg [] (z1.length + 1) (fun g wr => ∃ (left : Lit → Bool) (cnt : Nat), cnt ≤ g ∧ Later w wr ∧ Hid (FA wr B2 z2) ∧ Hid (Ranging wr B1 w.heap.size z1 left cnt) ∧ Hid (∀ f ∈ seen left (mapT (·.2) z1), f ∈ mapT (·.2) z2))
    case atStart => exact ⟨_, _, Nat.le_succ _, HL0.out, H2.out.later HL0.out, HR0.out, by rw [seen_map, seen_start]; exact fun f hf => by cases hf⟩
    case round =>
      obtain ⟨left, cnt, hcg, hwr, hf2, hrg, hall⟩ := hrel
      have HW := Lib.hid hwr; clear hwr
      go_wp2_with (at_next; refine wpList_next_files rfl _ rfl B1 w.heap.size z1 left cnt rfl hrg.out ?_ ?_)
      · intro hdone
        have E : Hid (sameT (mapT (·.2) z1) (mapT (·.2) z2) = true) := by
          have hall' := hall.out
          rw [seen_end hdone] at hall'
          have e := rising_sub R1.out R2.out hall' (by rw [mapT_length, mapT_length]; exact Nat.le_of_eq HLEN.out.symm)
          rw [e]; exact sameT_self _
        clear hdone hall
        go_wp2
        go_ret
        exact ⟨ret_bool E.out.symm, HW.out⟩
      · intro nm A m c l w' cnt' hmem hnm hmc hrow hlk hrg' hlt hturn hen
        have hmem1 : (nm, l) ∈ mapT (·.2) z1 := by simp only [mapT, List.mem_map]; exact ⟨_, hmem, rfl⟩
        have hm : m ≤ 65536 := by rw [← hrow.len]; exact HB1.out _ hmem
        have hf2' : FA w' B2 z2 := hf2.out.step hrg.out.at_ hturn (by omega)
        have hlw : Later w w' := HW.out.turn hturn (Nat.le_refl _)
        have HLW := Lib.hid hlw; have HF2 := Lib.hid hf2'
        have HRG := Lib.hid hrg'
        cases hg : getT z2 nm with
        | none =>
          have hlook := hf2'.look_no hnm hg
          have E : Hid (sameT (mapT (·.2) z1) (mapT (·.2) z2) = false) := sameT_no fun e => by
            have h9 : getT (mapT (·.2) z2) nm = none := by rw [getT_map, hg]; rfl
            exact getT_none.1 h9 _ (e ▸ hmem1) rfl
          clear hrow hmem hlk hrg' hturn hmem1 hf2' hlw hg hall hf2 hrg
          go_wp2
          go_ret
          exact ⟨ret_bool E.out.symm, HLW.out⟩
        | some x =>
          have hlook := hf2'.look_yes hnm hg
          obtain ⟨A2, m2, c2, hv, hmc2, hr2⟩ := hf2'.get hg
          have hm2 : m2 ≤ 65536 := by rw [← hr2.len]; exact HB2.out _ (getT_mem hg)
          rw [hv] at hlook
          have hg2 : getT (mapT (·.2) z2) nm = some x.2 := by rw [getT_map, hg]; rfl
          have hsame := same_any A A2 m c m2 c2 l x.2 w' hrow hr2 hm hm2
          by_cases hx : l = x.2
          · have hall' : ∀ f ∈ seen (but left nm) (mapT (·.2) z1), f ∈ mapT (·.2) z2 := fun f hf => by
              rw [seen_step R1.out hmem1] at hf
              rcases mem_with.1 hf with rfl | hf
              · rw [hx]; exact getT_mem hg2
              · exact hall.out f hf.1
            have HALL := Lib.hid hall'
            rw [sameB_yes hx] at hsame
            have HS := Lib.hid hsame
            clear hrow hmem hlk hrg' hturn hmem1 hf2' hlw hg hall hf2 hrg hr2 hv hg2 hx hall' hsame
            go_wp2_with (go_at_call 38; refine HS.out.mono ?_; rintro e w4 ⟨rfl, q, rfl⟩)
            go_roundg cnt'
            case measure => omega
            case rel =>
              have hd : Later w' (w'.drewN q) := (Later.refl _).drewN q
              exact ⟨but left nm, cnt', Nat.le_refl _, HLW.out.trans hd, HF2.out.later hd, HRG.out.later hd, HALL.out⟩
          · have E : Hid (sameT (mapT (·.2) z1) (mapT (·.2) z2) = false) := sameT_no fun e => by
              have h9 := (getT_iff R2.out).2 (e ▸ hmem1)
              rw [hg2] at h9; exact hx (Option.some.inj h9).symm
            rw [sameB_no hx] at hsame
            have HS := Lib.hid hsame
            clear hrow hmem hlk hrg' hturn hmem1 hf2' hlw hg hall hf2 hrg hr2 hv hg2 hx hsame
            go_wp2_with (go_at_call 38; refine HS.out.mono ?_; rintro e w4 ⟨rfl, q, rfl⟩)
            go_ret
            exact ⟨ret_bool E.out.symm, HLW.out.drewN q⟩
  · have E : Hid (sameT (mapT (·.2) z1) (mapT (·.2) z2) = false) := sameT_no fun e => hlen (by have := congrArg List.length e; rwa [mapT_length, mapT_length] at this)
    rw [E.out]
    have hd : ((z1.length : Int) != (z2.length : Int)) = true := by rw [bne_iff_ne]; omega
    clear hlen E
    go_enter Tryz.func37, Tryz.ntmps37
    go_wp2_with (first
      | (at_len; refine wpList_len_own _ rfl _ 73 rfl 9 45 Tryz.underlying73 raw B1 z1.length _ rfl H1.out.own ?_; rw [size_datum, mapT_length])
      | (at_len; refine wpList_len_own _ rfl _ 73 rfl 9 45 Tryz.underlying73 raw B2 z2.length _ rfl H2.out.own ?_; rw [size_datum, mapT_length]))
    go_ret
    exact ⟨rfl, Later.refl w⟩

set_option maxRecDepth 100000 in
set_option maxHeartbeats 400000 in
theorem sameTree_any (p1 B1 p2 B2 : Nat) (t1 t2 : Tr) (w : World) (h1 : TreeAt w p1 B1 t1) (h2 : TreeAt w p2 B2 t2) (hb1 : ∀ f ∈ t1, f.2.length ≤ 65536) (hb2 : ∀ f ∈ t2, f.2.length ≤ 65536) :
    Calls Tryz.prog 14 #[.pointer (some ⟨p1, 0, none⟩), .pointer (some ⟨p2, 0, none⟩)] w (Says (sameT t1 t2) w) := by
  obtain ⟨hc1, z1, hz1, rfl⟩ := h1
  obtain ⟨hc2, z2, hz2, rfl⟩ := h2
  have B1' : ∀ f ∈ z1, f.2.2.length ≤ 65536 := fun f hf => hb1 (f.1, f.2.2) (by simp only [mapT, List.mem_map]; exact ⟨_, hf, rfl⟩)
  have B2' : ∀ f ∈ z2, f.2.2.length ≤ 65536 := fun f hf => hb2 (f.1, f.2.2) (by simp only [mapT, List.mem_map]; exact ⟨_, hf, rfl⟩)
  have HE := Lib.hid (fun (w1 : World) (h : Later w w1) => equalFunc_any B1 B2 z1 z2 w1 (hz1.later h) (hz2.later h) B1' B2')
  clear hz1 hz2 hb1 hb2 B1' B2'
  go_enter Tryz.func14, Tryz.ntmps14
  go_wp2_with fail
  go_region_held3 (fun w' => w'.cell? ⟨p1, 0, none⟩ = some (.map (some B1)) ∧ w'.cell? ⟨p2, 0, none⟩ = some (.map (some B2))) (go_keep)
    (first
      | (go_at_call 37; refine (HE.out _ (by first | exact Later.refl _ | exact (Later.refl _).drew | exact (Later.refl _).drewN _)).mono ?_; rintro e w1 ⟨rfl, hl1⟩; have HL : Hid (Later w w1) := Later.trans (by first | exact Later.refl _ | exact (Later.refl _).drew | exact (Later.refl _).drewN _) hl1; have hd1 := HL.out.cell hc1; have hd2 := HL.out.cell hc2; clear hl1))
  go_wp2
  go_ret
  exact ⟨rfl, HL.out⟩

end Go.Proofs.YtbhnbkcokhfopaaGreat

/-
  What stands while a tree turns: blocks, prims, other trees; how great trees become.
-/
namespace Go.Proofs.YtbhnbkcokhfopaaGreat
open Go.RowKit Go.Maps

theorem PrOk.turnS {w w' : World} {x : PrC} {B : Nat} (h : PrOk w x) (hg : Turned B w w') {es : Array MapEntry} {c : Nat} (hm : w.heap[B]? = some (.map es c)) : PrOk w' x :=
  ⟨h.old.turned hg hm, h.new.turned hg hm, h.oroom, h.nroom, h.omost, h.nmost, h.name, h.to, h.lo, h.hi, h.olds, h.news⟩
theorem BoxAt.turnS {w w' : World} {g B : Nat} {cs : Array Value} {t : TypeId} (h : BoxAt w g cs t) (hg : Turned B w w') {es : Array MapEntry} {c : Nat} (hm : w.heap[B]? = some (.map es c)) : BoxAt w' g cs t :=
  h.other hg (by rintro rfl; unfold BoxAt at h; rw [h] at hm; cases hm)
theorem Fits.sizedS {k : Nat} {t : Tr} (h : Fits k t) : Sized k 8000 t := ⟨h.many, fun f hf => ⟨(h.each f hf).1, (h.each f hf).2.1, by have := (h.each f hf).2.2; unfold heavy at this; omega⟩⟩
theorem Sized.lines {k h : Nat} {t : Tr} (hs : Sized k h t) (hh : h ≤ 65536) : ∀ f ∈ t, f.2.length ≤ 65536 := fun f hf => Nat.le_trans (hs.each f hf).2.2 hh

end Go.Proofs.YtbhnbkcokhfopaaGreat

/-
  A row of two prims, written out.
-/
namespace Go.Proofs.YtbhnbkcokhfopaaGreat
open Go.RowKit Go.Maps

theorem prims_two {w w0 : World} {x y : PrC} (hx : CameP w x) (hy : CameP w y) (hl : Later w w0) (t : TypeId) : Prims (w0.alloc (.cells #[.int .i64 x.v.kind, .string x.v.name, .string x.v.to, .int .i64 x.v.place, .slice x.A x.n x.c, .slice x.B x.m x.d, .int .i64 y.v.kind, .string y.v.name, .string y.v.to, .int .i64 y.v.place, .slice y.A y.n y.c, .slice y.B y.m y.d] t)) (some ⟨w0.heap.size, 0, none⟩) 2 [x, y] := by
  refine ⟨⟨rfl, fun cs hcs => ?_, fun _ => ⟨_, _, rfl, fun j i cs v hj hi => ?_⟩⟩, fun z hz => ?_⟩
  · simp at hcs
    rcases hcs with rfl | rfl <;> rfl
  · have hb : (w0.alloc (.cells #[.int .i64 x.v.kind, .string x.v.name, .string x.v.to, .int .i64 x.v.place, .slice x.A x.n x.c, .slice x.B x.m x.d, .int .i64 y.v.kind, .string y.v.name, .string y.v.to, .int .i64 y.v.place, .slice y.A y.n y.c, .slice y.B y.m y.d] t)).heap[w0.heap.size]? = some (.cells #[.int .i64 x.v.kind, .string x.v.name, .string x.v.to, .int .i64 x.v.place, .slice x.A x.n x.c, .slice x.B x.m x.d, .int .i64 y.v.kind, .string y.v.name, .string y.v.to, .int .i64 y.v.place, .slice y.A y.n y.c, .slice y.B y.m y.d] t (0, 0)) := heap_alloc_new w0 _
    have key : ∀ (k : Nat) v, (prL x ++ prL y)[k]? = some v → (w0.alloc (.cells #[.int .i64 x.v.kind, .string x.v.name, .string x.v.to, .int .i64 x.v.place, .slice x.A x.n x.c, .slice x.B x.m x.d, .int .i64 y.v.kind, .string y.v.name, .string y.v.to, .int .i64 y.v.place, .slice y.A y.n y.c, .slice y.B y.m y.d] t)).cell? ⟨w0.heap.size, k, none⟩ = some v := fun k v hk => by
      simp only [World.cell?, hb]
      show (prL x ++ prL y).toArray[k]? = some v
      rw [List.getElem?_toArray]
      exact hk
    match j, hj with
    | 0, hj =>
      simp at hj; subst hj
      have hil : i < (prL x).length := (List.getElem?_eq_some_iff.1 hi).1
      rw [Nat.zero_mul, Nat.zero_add]
      exact key i v (by rw [List.getElem?_append_left hil]; exact hi)
    | 1, hj =>
      simp at hj; subst hj
      rw [Nat.one_mul, Nat.zero_add]
      exact key (6 + i) v (by rw [List.getElem?_append_right (by show 6 ≤ 6 + i; omega), show 6 + i - (prL x).length = i from by show 6 + i - 6 = i; omega]; exact hi)
  · simp at hz
    rcases hz with rfl | rfl
    · exact hx.later (hl.alloc _)
    · exact hy.later (hl.alloc _)
theorem weightPs_two (x y : PrC) : weightPs [x, y] = weightP x.v + weightP y.v := by simp [weightPs]

end Go.Proofs.YtbhnbkcokhfopaaGreat

/-
  What the law DiffTurned comes to, as a call.
-/
namespace Go.Proofs.YtbhnbkcokhfopaaGreat
open Go.RowKit Go.Maps

theorem trees_length {a b : Tr} (la : longT a = false) (lb : longT b = false) (na : a.length ≤ 80) (nb : b.length ≤ 80) : (treesP a b).length ≤ 48480 := by
  have h1 := gone_length b a; have h2 := come_length a b; have h3 := stay_length b a
  rw [trees_is la lb, List.length_append, List.length_append]
  omega
theorem long_snoc (l : Tr) (f : ByteArray × List ByteArray) : longT (l ++ [f]) = (longT l || decide (200 < f.2.length)) := by simp [longT]
theorem Sized.mild {k h : Nat} {t : Tr} (hs : Sized k h t) : MildT t := fun f hf => ⟨Nat.le_trans (named_size (hs.each f hf).1).2 (by decide), fun s hm => Nat.le_trans (right_size (hs.each f hf).2.1 hm) (by decide)⟩
theorem lines_le {t : Tr} (h : longT t = false) (hn : t.length ≤ 80) : linesTr t ≤ 1000000 := by
  have key : ∀ l : Tr, (∀ f ∈ l, f.2.length ≤ 200) → linesTr l ≤ l.length * 200 := by
    intro l
    induction l with
    | nil => intro _; simp [linesTr]
    | cons f l ih =>
      intro hf
      have h1 := ih (fun g hg => hf g (List.mem_cons_of_mem _ hg))
      have h2 := hf f List.mem_cons_self
      simp only [linesTr, List.map_cons, List.sum_cons, List.length_cons] at *
      omega
  have := key t (fun f hf => long_no h hf)
  omega

set_option maxRecDepth 100000 in
set_option maxHeartbeats 800000 in
theorem long6_any (v : Value) (t : Tr) (w : World) (ht : RefAt w v t) (hn : t.length ≤ 65536) (hl : ∀ f ∈ t, f.2.length ≤ 65536) :
    Calls Tryz.prog 7 #[v] w fun e w' => ∃ q : Nat, e = .returned (.int .i64 (q : Nat)) ∧ (q ≤ 200 ↔ longT t = false) ∧ q ≤ 65536 ∧ Later w w' := by
  obtain ⟨A, n, c, z, rfl, hc, hr, rfl⟩ := ht
  have hzn := hr.len
  rw [mapT_length] at hn
  have HR := Lib.hid hr; have HL := Lib.hid hl
  clear hr hl
  go_enter Tryz.func7, Tryz.ntmps7
  go_wp2
  go_loopg [3, 8] (n + 1) (fun g s3 s8 wr => ∃ k q : Nat, k ≤ n ∧ n - k ≤ g ∧ s8 = .int .i64 (k : Nat) ∧ s3 = .int .i64 (q : Nat) ∧ q ≤ 65536 ∧ Hid (q ≤ 200 ↔ longT (mapT (·.2) (z.take k)) = false) ∧ Hid (Later w wr))
  case atStart => exact ⟨0, 0, Nat.zero_le _, by omega, rfl, rfl, by omega, by simp [Hid, longT, mapT], Later.refl w⟩
  case round =>
    obtain ⟨k, q, hk, hg, rfl, rfl, hq, hQ, hwr⟩ := hrel
    by_cases hlt : k < n
    · obtain ⟨b, o, f, rfl, hz, c0, c1⟩ := (HR.out.later hwr.out).get hlt
      obtain ⟨Af, nf, cf, hvf, hcf, hrf⟩ := (HR.out.later hwr.out).reads f (List.mem_of_getElem? hz)
      have hfl : f.2.2.length ≤ 65536 := HL.out (f.1, f.2.2) (by simp only [mapT, List.mem_map]; exact ⟨f, List.mem_of_getElem? hz, rfl⟩)
      have hfn := hrf.len
      rw [hvf] at c1
      have hsn : longT (mapT (·.2) (z.take (k + 1))) = (longT (mapT (·.2) (z.take k)) || decide (200 < nf)) := by
        rw [take_snoc hz, show mapT (·.2) (z.take k ++ [f]) = mapT (·.2) (z.take k) ++ [(f.1, f.2.2)] from by simp [mapT], long_snoc, ← hfn]
      have HQ2 : Hid (max q nf ≤ 200 ↔ longT (mapT (·.2) (z.take (k + 1))) = false) := by
        show _ ↔ _
        rw [hsn, Bool.or_eq_false_iff, ← hQ.out, decide_eq_false_iff_not]
        omega
      rw [hfn] at hfl
      have HLB : Hid (Later wr (wr.alloc (.cells #[.string f.1, .slice Af nf cf] 62))) := (Later.refl wr).alloc _
      clear hz hvf hrf hsn hfn
      go_wp2
      go_roundg (n - (k + 1))
      case measure => omega
      case rel => exact ⟨k + 1, max q nf, by omega, Nat.le_refl _, by go_num, by first | rfl | (congr 1; omega) | (congr 1; split <;> omega), by omega, HQ2, hwr.out.trans HLB.out⟩
    · have HE : Hid (q ≤ 200 ↔ longT (mapT (·.2) z) = false) := by
        have := hQ.out
        rw [List.take_of_length_le (by omega)] at this
        exact this
      go_wp2
      go_ret
      exact ⟨q, rfl, HE.out, hq, hwr.out⟩

end Go.Proofs.YtbhnbkcokhfopaaGreat

/-
  Rows of prims as plain lists: when they are the same, how many lines they have, the trees that they make. Nothing of any program.
-/
namespace Go.Proofs.YtbhnbkcokhfopaaGreat
open Go.RowKit

/-- Are two rows the same? -/
def sameS : List Pr → List Pr → Bool
  | [], [] => true
  | p :: a, q :: b => sameP p q && sameS a b
  | _, _ => false
theorem sameS_iff : ∀ {a b : List Pr}, sameS a b = true ↔ a = b
  | [], [] => by simp [sameS]
  | [], q :: b => by simp [sameS]
  | p :: a, [] => by simp [sameS]
  | p :: a, q :: b => by simp only [sameS, Bool.and_eq_true, sameP_iff, sameS_iff (a := a) (b := b), List.cons.injEq]
theorem sameS_self (a : List Pr) : sameS a a = true := sameS_iff.2 rfl
theorem sameS_length {a b : List Pr} (h : a.length ≠ b.length) : sameS a b = false := by
  cases hs : sameS a b
  · rfl
  · exact absurd (congrArg List.length (sameS_iff.1 hs)) h
/-- They differ at a place. -/
theorem sameS_at {a b : List Pr} {k : Nat} {p q : Pr} (h1 : a[k]? = some p) (h2 : b[k]? = some q) (h : sameP p q = false) : sameS a b = false := by
  cases hs : sameS a b
  · rfl
  · rw [sameS_iff.1 hs, h2] at h1
    cases h1
    rw [sameP_self] at h
    cases h
/-- They are the same at all places. -/
theorem sameS_all {a b : List Pr} (hl : a.length = b.length) (h : ∀ (k : Nat) (p q : Pr), a[k]? = some p → b[k]? = some q → sameP p q = true) : sameS a b = true := by
  refine sameS_iff.2 (List.ext_getElem? fun k => ?_)
  rcases Nat.lt_or_ge k a.length with hk | hk
  · rw [List.getElem?_eq_getElem hk, List.getElem?_eq_getElem (by omega)]
    rw [sameP_iff.1 (h k _ _ (List.getElem?_eq_getElem hk) (List.getElem?_eq_getElem (by omega)))]
  · rw [List.getElem?_eq_none hk, List.getElem?_eq_none (by omega)]

/-- How many lines. -/
def linesS (l : List Pr) : Nat := (l.map fun p => p.old.length + p.new.length).sum
theorem linesS_nil : linesS [] = 0 := rfl
theorem linesS_cons (p : Pr) (l : List Pr) : linesS (p :: l) = p.old.length + p.new.length + linesS l := by simp [linesS]
theorem linesS_append (l m : List Pr) : linesS (l ++ m) = linesS l + linesS m := by simp [linesS]
theorem invert_lines (p : Pr) : (invertP p).old.length + (invertP p).new.length = p.old.length + p.new.length := by
  unfold invertP
  repeat' split
  all_goals first | rfl | (dsimp only; omega)
theorem linesS_invert (l : List Pr) : linesS (invertS l) = linesS l := by
  induction l with
  | nil => rfl
  | cons p l ih => rw [invertS_cons, linesS_append, ih, linesS_cons, linesS_cons, linesS_nil, invert_lines]; omega
theorem swap1_lines {p : Pr} {m : List Pr} {r : List Pr × Pr} (h : swap1 p m = some r) : linesS r.1 = linesS m ∧ r.2.old = p.old ∧ r.2.new = p.new := by
  induction m generalizing p r with
  | nil => cases h; exact ⟨rfl, rfl, rfl⟩
  | cons q m ih =>
    obtain ⟨q', p1, m', p', h1, h2, rfl⟩ := swap1_cons.1 h
    obtain ⟨k1, k2, k3⟩ := ih h2
    obtain ⟨-, e1, e2, -, -, e3, e4, -⟩ := swap_keeps h1
    dsimp only at k1 k2 k3 ⊢
    rw [linesS_cons, linesS_cons, e1, e2, k1]
    exact ⟨rfl, k2.trans e3, k3.trans e4⟩
theorem swapS_lines {l m a b : List Pr} (h : swapS l m = some (a, b)) : linesS a = linesS m ∧ linesS b = linesS l := by
  induction l generalizing a b with
  | nil => cases h; exact ⟨rfl, rfl⟩
  | cons p l ih =>
    obtain ⟨m1, l', m2, p', h1, h2, e⟩ := swapS_cons.1 h
    cases e
    obtain ⟨k1, k2⟩ := ih h1
    obtain ⟨j1, j2, j3⟩ := swap1_lines h2
    dsimp only at j1 j2 j3
    rw [linesS_cons, linesS_cons, j2, j3, k2, j1, k1]
    exact ⟨rfl, rfl⟩
theorem rebase_lines {l m a : List Pr} (h : rebaseS m l = some a) : linesS a = linesS m ∧ a.length = m.length := by
  obtain ⟨b, hb⟩ := rebase_iff.1 h
  exact ⟨(swapS_lines hb).1, (swapS_length hb).1⟩
theorem splitStep_lines (w : Bool) (s : List Pr × List Pr) (p : Pr) : linesS (splitStep w s p).1 + linesS (splitStep w s p).2 = linesS s.1 + linesS s.2 + linesS [p] ∧ (splitStep w s p).1.length + (splitStep w s p).2.length = s.1.length + s.2.length + 1 := by
  unfold splitStep
  cases hs : swapS s.2 [p] with
  | none => simp only [linesS_append, List.length_append, List.length_cons, List.length_nil]; omega
  | some r =>
    obtain ⟨a, b⟩ := r
    have h1 := swapS_lines hs
    have h2 := swapS_length hs
    simp only [List.length_cons, List.length_nil] at h2
    dsimp only
    split
    · simp only [linesS_append, List.length_append]; omega
    · simp only [linesS_append, List.length_append, List.length_cons, List.length_nil]; omega
theorem splitS_lines (wanted : Nat → Bool) (l : List Pr) (k : Nat) (s : List Pr × List Pr) : linesS (splitS wanted k s l).1 + linesS (splitS wanted k s l).2 = linesS s.1 + linesS s.2 + linesS l ∧ (splitS wanted k s l).1.length + (splitS wanted k s l).2.length = s.1.length + s.2.length + l.length := by
  induction l generalizing k s with
  | nil => exact ⟨rfl, rfl⟩
  | cons p l ih =>
    have h1 := ih (k + 1) (splitStep (wanted k) s p)
    have h2 := splitStep_lines (wanted k) s p
    simp only [splitS]
    rw [linesS_cons, linesS_nil] at h2
    rw [linesS_cons, List.length_cons]
    omega
/-- What stands behind k rounds. -/
theorem splitS_take (wanted : Nat → Bool) (l : List Pr) (j : Nat) (s : List Pr × List Pr) {k : Nat} {p : Pr} (h : l[k]? = some p) : splitS wanted j s (l.take (k + 1)) = splitStep (wanted (j + k)) (splitS wanted j s (l.take k)) p := by
  induction l generalizing j s k with
  | nil => simp at h
  | cons q l ih =>
    cases k with
    | zero => simp at h; subst h; simp [splitS]
    | succ k =>
      simp only [List.take_succ_cons, splitS]
      rw [ih (j + 1) _ (by simpa using h), show j + 1 + k = j + (k + 1) by omega]

/-- With an error the tree is as it was. -/
theorem apply_errS {t : Tr} {p : Pr} (h : (applyP t p).2 ≠ 0) : (applyP t p).1 = t := by
  revert h
  unfold applyP
  split
  · exact fun _ => rfl
  split
  · unfold hunkT
    split
    · exact fun _ => rfl
    · split
      · exact fun h => absurd rfl h
      · exact fun _ => rfl
  split
  · split
    · exact fun _ => rfl
    · exact fun h => absurd rfl h
  split
  · split
    · exact fun _ => rfl
    · split
      · exact fun _ => rfl
      · exact fun h => absurd rfl h
  · split
    · exact fun _ => rfl
    · split
      · exact fun _ => rfl
      · exact fun h => absurd rfl h

section
variable {k h : Nat} {t u : Tr} {l : List Pr}
theorem runS_sized (hs : Sized k h t) : Sized (k + l.length) (h + linesS l) (runS t l).1 := by
  induction l generalizing k h t with
  | nil => exact hs
  | cons p l ih =>
    have h1 := hs.apply p
    simp only [runS]
    split
    · exact (ih h1).mono (by simp; omega) (by rw [linesS_cons]; omega)
    · exact h1.mono (by simp) (by rw [linesS_cons]; omega)
theorem runS_snoc {p : Pr} (h : runS t l = (u, 0)) : runS t (l ++ [p]) = applyP u p := by
  induction l generalizing t with
  | nil =>
    simp only [runS, Prod.mk.injEq, and_true] at h
    subst h
    simp only [List.nil_append, runS]
    split
    · rename_i e; rw [Prod.ext_iff]; exact ⟨rfl, e.symm⟩
    · rfl
  | cons q l ih =>
    obtain ⟨s, h1, h2⟩ := runS_cons.1 h
    simp only [List.cons_append, runS, h1, if_true]
    exact ih h2
/-- The first error. -/
theorem runS_err {p : Pr} {m : List Pr} (h : runS t l = (u, 0)) (he : (applyP u p).2 ≠ 0) : runS t (l ++ p :: m) = applyP u p := by
  induction l generalizing t with
  | nil =>
    simp only [runS, Prod.mk.injEq, and_true] at h
    subst h
    simp only [List.nil_append, runS]
    rw [if_neg he]
  | cons q l ih =>
    obtain ⟨s, h1, h2⟩ := runS_cons.1 h
    simp only [List.cons_append, runS, h1, if_true]
    exact ih h2
theorem applyS_err {p : Pr} {m : List Pr} (h : runS t l = (u, 0)) (he : (applyP u p).2 ≠ 0) : applyS t (l ++ p :: m) = (t, (applyP u p).2) := by
  unfold applyS
  rw [runS_err h he, if_neg he]
end

end Go.Proofs.YtbhnbkcokhfopaaGreat

/-
  What makes one tree of another one has no more lines than both have.
-/
namespace Go.Proofs.YtbhnbkcokhfopaaGreat
open Go.RowKit Go.Maps

theorem sum_le {α : Type} {c : Nat} (g : α → Nat) : ∀ (l : List α), (∀ x ∈ l, g x ≤ c) → (l.map g).sum ≤ l.length * c
  | [], _ => by simp
  | x :: l, h => by
    have h1 := sum_le g l (fun y hy => h y (List.mem_cons_of_mem _ hy))
    have h2 := h x List.mem_cons_self
    simp only [List.map_cons, List.sum_cons, List.length_cons, Nat.add_mul, Nat.one_mul]
    omega
theorem filter_two {α : Type} (p : α → Bool) : ∀ l : List α, (l.filter p).length + (l.filter (fun x => !p x)).length = l.length
  | [] => rfl
  | x :: l => by
    have h := filter_two p l
    cases hx : p x <;> simp [hx] <;> omega
theorem both_count {a b : Tr} (ha : Rising a) (hb : Rising b) : (a.filter fun f => hasT b f.1).length ≤ (b.filter fun f => hasT a f.1).length := by
  have h := rising_le (a := mapT (fun _ => ()) (a.filter fun f => hasT b f.1)) (b := mapT (fun _ => ()) (b.filter fun f => hasT a f.1)) (rising_map.2 (List.Pairwise.filter _ ha)) (rising_map.2 (List.Pairwise.filter _ hb)) (by
    intro f hf
    obtain ⟨g, hg, rfl⟩ := List.mem_map.1 hf
    obtain ⟨h1, h2⟩ := List.mem_filter.1 hg
    have h3 : (getT b g.1).isSome = true := h2
    obtain ⟨l, hl⟩ := Option.isSome_iff_exists.1 h3
    exact List.mem_map.2 ⟨(g.1, l), List.mem_filter.2 ⟨getT_mem hl, getT_has ((getT_iff ha).2 h1)⟩, rfl⟩)
  simpa [mapT_length] using h
theorem trees_lines {a b : Tr} (ha : Rising a) (hb : Rising b) (la : longT a = false) (lb : longT b = false) (na : a.length ≤ 80) (nb : b.length ≤ 80) : linesS (treesP a b) ≤ 32000 := by
  have h1 : linesS (treesP a b) = _ := trees_cost la lb
  have h2 : linesT (a.filter fun f => !hasT b f.1) ≤ _ := sum_le (c := 200) _ _ (fun f hf => long_no la (List.mem_filter.1 hf).1)
  have h3 : linesT (b.filter fun f => !hasT a f.1) ≤ _ := sum_le (c := 200) _ _ (fun f hf => long_no lb (List.mem_filter.1 hf).1)
  have h4 := sum_le (c := 400) (fun f => costP (bothP b f)) (a.filter fun f => hasT b f.1) (fun f hf => by
    obtain ⟨g1, g2⟩ := List.mem_filter.1 hf
    have g3 : (getT b f.1).isSome = true := g2
    obtain ⟨l, hl⟩ := Option.isSome_iff_exists.1 g3
    have g4 := long_no la g1
    have g5 := long_no lb (getT_mem hl)
    dsimp only at g5
    have g6 := lines_cost (name := f.1) g4 g5
    simp only [bothP, hl, Option.getD_some]
    omega)
  have h5 := both_count ha hb
  have h6 := filter_two (fun f : ByteArray × List ByteArray => hasT b f.1) a
  have h7 := filter_two (fun f : ByteArray × List ByteArray => hasT a f.1) b
  omega

end Go.Proofs.YtbhnbkcokhfopaaGreat
