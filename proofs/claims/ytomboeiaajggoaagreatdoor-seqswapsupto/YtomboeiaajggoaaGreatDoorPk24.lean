import Derived.Test.YtomboeiaajggoaaGreatDoorChecked
import Derived.Test.YtomboeiaajggoaaGreatDoorPk23
import Derived.Test.YtomboeiaajggoaaGreatDoorPk5
import Derived.Test.YtomboeiaajggoaaGreatDoorPk3
import Derived.Deep.LoopGhost
import Derived.Deep.RegionHeld3
import Derived.Lib.Hide
import Derived.Test.YtomboeiaajggoaaGreatDoorPk21
import Derived.Test.YtomboeiaajggoaaGreatDoorPk12
import Derived.Test.YtomboeiaajggoaaGreatDoorPk13
import Derived.Test.YtomboeiaajggoaaGreatDoorPk22
import Derived.Deep.QuietTactic
import Derived.BigQuiet
import Derived.Test.YtomboeiaajggoaaGreatDoorPk20
import Derived.Shelf.Strings.Builder1
import Derived.Shelf.Strings.BuilderK
import Derived.Shelf.LaysM
import Derived.Shelf.Strconv.Itoa3
import Derived.Ground.GgzProg
import Derived.Ground.SlgmProg
import Derived.Shelf.SlIter.Nil
import Derived.Shelf.SortM.Plain
import Derived.Shelf.SortM.SortNone
import Derived.Test.YtomboeiaajggoaaGreatDoorPk8
import Derived.Test.YtomboeiaajggoaaGreatDoorPk1
import Derived.Test.YtomboeiaajggoaaGreatDoorPk2

/-
  What maps.EqualFunc at files with line.Same, and tree.Same, come to, as calls.
-/
namespace Go.Proofs.YtomboeiaajggoaaGreatDoor
open Go.RowKit Go.Maps

section
variable {α : Type}
theorem rising_le : ∀ {a b : Fl α}, Rising a → Rising b → (∀ f ∈ a, f ∈ b) → a.length ≤ b.length
  | [], _, _, _, _ => Nat.zero_le _
  | x :: a, [], _, _, h => absurd (h x List.mem_cons_self) (by simp)
  | x :: a, y :: b, ha, hb, h => by
    by_cases e : x = y
    · subst e
      have := rising_le (rising_tail ha) (rising_tail hb) fun f hf => by
        rcases List.mem_cons.1 (h f (List.mem_cons_of_mem _ hf)) with rfl | h1
        · exact absurd rfl (ltN_ne (rising_head ha hf))
        · exact h1
      simpa using this
    · have hx : x ∈ b := (List.mem_cons.1 (h x List.mem_cons_self)).resolve_left e
      have hlt := rising_head hb hx
      have := rising_le (a := x :: a) ha (rising_tail hb) fun f hf => by
        rcases List.mem_cons.1 (h f hf) with rfl | h1
        · rcases List.mem_cons.1 hf with rfl | hf
          · exact absurd rfl e
          · have := ltN_asymm (rising_head ha hf); rw [hlt] at this; cases this
        · exact h1
      simp at this ⊢; omega
/-- As many files, all of them there: the same. -/
theorem rising_sub : ∀ {a b : Fl α}, Rising a → Rising b → (∀ f ∈ a, f ∈ b) → b.length ≤ a.length → a = b
  | [], [], _, _, _, _ => rfl
  | [], y :: b, _, _, _, h => absurd h (by simp)
  | x :: a, [], _, _, h, _ => absurd (h x List.mem_cons_self) (by simp)
  | x :: a, y :: b, ha, hb, h, hl => by
    have e : x = y := by
      rcases Classical.em (x = y) with e | e
      · exact e
      · have hx : x ∈ b := (List.mem_cons.1 (h x List.mem_cons_self)).resolve_left e
        have hlt := rising_head hb hx
        have := rising_le (a := x :: a) ha (rising_tail hb) fun f hf => by
          rcases List.mem_cons.1 (h f hf) with rfl | h1
          · rcases List.mem_cons.1 hf with rfl | hf
            · exact absurd rfl e
            · have := ltN_asymm (rising_head ha hf); rw [hlt] at this; cases this
          · exact h1
        simp at this hl; omega
    subst e
    refine congrArg _ (rising_sub (rising_tail ha) (rising_tail hb) (fun f hf => ?_) (by simpa using hl))
    rcases List.mem_cons.1 (h f (List.mem_cons_of_mem _ hf)) with rfl | h1
    · exact absurd rfl (ltN_ne (rising_head ha hf))
    · exact h1
end

theorem FA.step {w w' : World} {B r n cnt : Nat} {z : Fl Held} {D : DataW Value} {left : Lit → Bool} {B0 : Nat} (h : FA w B z) (hr : w.ranges Tryz.prog 9 raw B0 r n D left cnt) (hg : Turned r w w') (hne : B ≠ r) : FA w' B z :=
  ⟨h.own.kept hg (by simpa using hne), h.rise, fun f hf => by
    obtain ⟨A, m, c, e, h1, h2⟩ := h.reads f hf
    exact ⟨A, m, c, e, h1, h2.1, fun hn => by
      obtain ⟨b, o, e, hc⟩ := h2.2 hn
      exact ⟨b, o, e, fun j s hs => hg.cell (hc j s hs) (iter_cell hr (hc j s hs))⟩⟩⟩

set_option maxHeartbeats 800000 in
theorem equalFunc_any (B1 B2 : Nat) (z1 z2 : Fl Held) (w : World) (h1 : FA w B1 z1) (h2 : FA w B2 z2) (hb1 : ∀ f ∈ z1, f.2.2.length ≤ 65536) (hb2 : ∀ f ∈ z2, f.2.2.length ≤ 65536) :
    Calls Tryz.prog 60 #[.map (some B1), .map (some B2), .func (.func 13) #[] #[]] w (Says (sameT (mapT (·.2) z1) (mapT (·.2) z2)) w) := by
  have H1 := Lib.hid h1; have H2 := Lib.hid h2
  have hlt1 := h1.lt; have hlt2 := h2.lt
  have HB1 := Lib.hid hb1; have HB2 := Lib.hid hb2
  have R1 : Hid (Rising (mapT (·.2) z1)) := rising_map.2 h1.rise
  have R2 : Hid (Rising (mapT (·.2) z2)) := rising_map.2 h2.rise
  clear h1 h2 hb1 hb2
  by_cases hlen : z1.length = z2.length
  · have HLEN := Lib.hid hlen
    have hd : ((z1.length : Int) != (z2.length : Int)) = false := by rw [bne_eq_false_iff_eq]; omega
    go_enter Tryz.func60, Tryz.ntmps60
    go_wp2_with (first
      | (at_len; refine wpList_len_own _ rfl _ 97 rfl 9 32 Tryz.underlying97 raw B1 z1.length _ rfl H1.out.own ?_; rw [size_datum, mapT_length])
      | (at_len; refine wpList_len_own _ rfl _ 97 rfl 9 32 Tryz.underlying97 raw B2 z2.length _ rfl H2.out.own ?_; rw [size_datum, mapT_length])
      | (at_range; refine wpList_range_files rfl _ rfl B1 z1 rfl H1.out ?_; intro w0 hrg0 hl0; have HR0 := Lib.hid hrg0; have HL0 := Lib.hid hl0; clear hrg0 hl0))
    go_frame
    clear hd hlen
    go_loopg [] (z1.length + 1) (fun g wr => ∃ (left : Lit → Bool) (cnt : Nat), cnt ≤ g ∧ Later w wr ∧ Hid (FA wr B2 z2) ∧ Hid (Ranging wr B1 w.heap.size z1 left cnt) ∧ Hid (∀ f ∈ seen left (mapT (·.2) z1), f ∈ mapT (·.2) z2))
    case atStart => exact ⟨_, _, Nat.le_succ _, HL0.out, H2.out.later HL0.out, HR0.out, by rw [seen_map, seen_start]; exact fun f hf => by cases hf⟩
    case round =>
      obtain ⟨left, cnt, hcg, hwr, hf2, hrg, hall⟩ := hrel
      have HW := Lib.hid hwr; clear hwr
      go_wp2_with (at_next; refine wpList_next_files rfl _ rfl B1 w.heap.size z1 left cnt rfl hrg.out ?_ ?_)
      · intro hdone
        have E : Hid (sameT (mapT (·.2) z1) (mapT (·.2) z2) = true) := by
          have hall' := hall.out
          rw [seen_end hdone] at hall'
          have e := rising_sub R1.out R2.out hall' (by rw [mapT_length, mapT_length]; exact Nat.le_of_eq HLEN.out.symm)
          rw [e]; exact sameT_self _
        clear hdone hall
        go_wp2
        go_ret
        exact ⟨ret_bool E.out.symm, HW.out⟩
      · intro nm A m c l w' cnt' hmem hnm hmc hrow hlk hrg' hlt hturn hen
        have hmem1 : (nm, l) ∈ mapT (·.2) z1 := by simp only [mapT, List.mem_map]; exact ⟨_, hmem, rfl⟩
        have hm : m ≤ 65536 := by rw [← hrow.len]; exact HB1.out _ hmem
        have hf2' : FA w' B2 z2 := hf2.out.step hrg.out.at_ hturn (by omega)
        have hlw : Later w w' := HW.out.turn hturn (Nat.le_refl _)
        have HLW := Lib.hid hlw; have HF2 := Lib.hid hf2'
        have HRG := Lib.hid hrg'
        cases hg : getT z2 nm with
        | none =>
          have hlook := hf2'.look_no hnm hg
          have E : Hid (sameT (mapT (·.2) z1) (mapT (·.2) z2) = false) := sameT_no fun e => by
            have h9 : getT (mapT (·.2) z2) nm = none := by rw [getT_map, hg]; rfl
            exact getT_none.1 h9 _ (e ▸ hmem1) rfl
          clear hrow hmem hlk hrg' hturn hmem1 hf2' hlw hg hall hf2 hrg
          go_wp2
          go_ret
          exact ⟨ret_bool E.out.symm, HLW.out⟩
        | some x =>
          have hlook := hf2'.look_yes hnm hg
          obtain ⟨A2, m2, c2, hv, hmc2, hr2⟩ := hf2'.get hg
          have hm2 : m2 ≤ 65536 := by rw [← hr2.len]; exact HB2.out _ (getT_mem hg)
          rw [hv] at hlook
          have hg2 : getT (mapT (·.2) z2) nm = some x.2 := by rw [getT_map, hg]; rfl
          have hsame := same_any A A2 m c m2 c2 l x.2 w' hrow hr2 hm hm2
          by_cases hx : l = x.2
          · have hall' : ∀ f ∈ seen (but left nm) (mapT (·.2) z1), f ∈ mapT (·.2) z2 := fun f hf => by
              rw [seen_step R1.out hmem1] at hf
              rcases mem_with.1 hf with rfl | hf
              · rw [hx]; exact getT_mem hg2
              · exact hall.out f hf.1
            have HALL := Lib.hid hall'
            rw [sameB_yes hx] at hsame
            have HS := Lib.hid hsame
            clear hrow hmem hlk hrg' hturn hmem1 hf2' hlw hg hall hf2 hrg hr2 hv hg2 hx hall' hsame
            go_wp2_with (go_at_call 13; refine HS.out.mono ?_; rintro e w4 ⟨rfl, q, rfl⟩)
            go_roundg cnt'
            case measure => omega
            case rel =>
              have hd : Later w' (w'.drewN q) := (Later.refl _).drewN q
              exact ⟨but left nm, cnt', Nat.le_refl _, HLW.out.trans hd, HF2.out.later hd, HRG.out.later hd, HALL.out⟩
          · have E : Hid (sameT (mapT (·.2) z1) (mapT (·.2) z2) = false) := sameT_no fun e => by
              have h9 := (getT_iff R2.out).2 (e ▸ hmem1)
              rw [hg2] at h9; exact hx (Option.some.inj h9).symm
            rw [sameB_no hx] at hsame
            have HS := Lib.hid hsame
            clear hrow hmem hlk hrg' hturn hmem1 hf2' hlw hg hall hf2 hrg hr2 hv hg2 hx hsame
            go_wp2_with (go_at_call 13; refine HS.out.mono ?_; rintro e w4 ⟨rfl, q, rfl⟩)
            go_ret
            exact ⟨ret_bool E.out.symm, HLW.out.drewN q⟩
  · have E : Hid (sameT (mapT (·.2) z1) (mapT (·.2) z2) = false) := sameT_no fun e => hlen (by have := congrArg List.length e; rwa [mapT_length, mapT_length] at this)
    rw [E.out]
    have hd : ((z1.length : Int) != (z2.length : Int)) = true := by rw [bne_iff_ne]; omega
    clear hlen E
    go_enter Tryz.func60, Tryz.ntmps60
    go_wp2_with (first
      | (at_len; refine wpList_len_own _ rfl _ 97 rfl 9 32 Tryz.underlying97 raw B1 z1.length _ rfl H1.out.own ?_; rw [size_datum, mapT_length])
      | (at_len; refine wpList_len_own _ rfl _ 97 rfl 9 32 Tryz.underlying97 raw B2 z2.length _ rfl H2.out.own ?_; rw [size_datum, mapT_length]))
    go_ret
    exact ⟨rfl, Later.refl w⟩

set_option maxRecDepth 100000 in
set_option maxHeartbeats 400000 in
theorem sameTree_any (p1 B1 p2 B2 : Nat) (t1 t2 : Tr) (w : World) (h1 : TreeAt w p1 B1 t1) (h2 : TreeAt w p2 B2 t2) (hb1 : ∀ f ∈ t1, f.2.length ≤ 65536) (hb2 : ∀ f ∈ t2, f.2.length ≤ 65536) :
    Calls Tryz.prog 29 #[.pointer (some ⟨p1, 0, none⟩), .pointer (some ⟨p2, 0, none⟩)] w (Says (sameT t1 t2) w) := by
  obtain ⟨hc1, z1, hz1, rfl⟩ := h1
  obtain ⟨hc2, z2, hz2, rfl⟩ := h2
  have B1' : ∀ f ∈ z1, f.2.2.length ≤ 65536 := fun f hf => hb1 (f.1, f.2.2) (by simp only [mapT, List.mem_map]; exact ⟨_, hf, rfl⟩)
  have B2' : ∀ f ∈ z2, f.2.2.length ≤ 65536 := fun f hf => hb2 (f.1, f.2.2) (by simp only [mapT, List.mem_map]; exact ⟨_, hf, rfl⟩)
  have HE := Lib.hid (fun (w1 : World) (h : Later w w1) => equalFunc_any B1 B2 z1 z2 w1 (hz1.later h) (hz2.later h) B1' B2')
  clear hz1 hz2 hb1 hb2 B1' B2'
  go_enter Tryz.func29, Tryz.ntmps29
  go_wp2_with fail
  go_region_held3 (fun w' => w'.cell? ⟨p1, 0, none⟩ = some (.map (some B1)) ∧ w'.cell? ⟨p2, 0, none⟩ = some (.map (some B2))) (go_keep)
    (first
      | (go_at_call 60; refine (HE.out _ (by first | exact Later.refl _ | exact (Later.refl _).drew | exact (Later.refl _).drewN _)).mono ?_; rintro e w1 ⟨rfl, hl1⟩; have HL : Hid (Later w w1) := Later.trans (by first | exact Later.refl _ | exact (Later.refl _).drew | exact (Later.refl _).drewN _) hl1; have hd1 := HL.out.cell hc1; have hd2 := HL.out.cell hc2; clear hl1))
  go_wp2
  go_ret
  exact ⟨rfl, HL.out⟩

end Go.Proofs.YtomboeiaajggoaaGreatDoor

/-
  What stands while a tree turns: blocks, prims, other trees; how great trees become.
-/
namespace Go.Proofs.YtomboeiaajggoaaGreatDoor
open Go.RowKit Go.Maps

theorem PrOk.turnS {w w' : World} {x : PrC} {B : Nat} (h : PrOk w x) (hg : Turned B w w') {es : Array MapEntry} {c : Nat} (hm : w.heap[B]? = some (.map es c)) : PrOk w' x :=
  ⟨h.old.turned hg hm, h.new.turned hg hm, h.oroom, h.nroom, h.omost, h.nmost, h.name, h.to, h.lo, h.hi, h.olds, h.news⟩
theorem BoxAt.turnS {w w' : World} {g B : Nat} {cs : Array Value} {t : TypeId} (h : BoxAt w g cs t) (hg : Turned B w w') {es : Array MapEntry} {c : Nat} (hm : w.heap[B]? = some (.map es c)) : BoxAt w' g cs t :=
  h.other hg (by rintro rfl; unfold BoxAt at h; rw [h] at hm; cases hm)
theorem Fits.sizedS {k : Nat} {t : Tr} (h : Fits k t) : Sized k 8000 t := ⟨h.many, fun f hf => ⟨(h.each f hf).1, (h.each f hf).2.1, by have := (h.each f hf).2.2; unfold heavy at this; omega⟩⟩
theorem Sized.lines {k h : Nat} {t : Tr} (hs : Sized k h t) (hh : h ≤ 65536) : ∀ f ∈ t, f.2.length ≤ 65536 := fun f hf => Nat.le_trans (hs.each f hf).2.2 hh

end Go.Proofs.YtomboeiaajggoaaGreatDoor

/-
  What seq's Apply comes to, as a call.
-/
namespace Go.Proofs.YtomboeiaajggoaaGreatDoor
open Go.RowKit Go.Maps

attribute [local go_sem] Oper.semAt_some

theorem FilesAt.shut {V : World} {B l : Nat} {t : Tr} {o o' : Obj} (h : FilesAt V B t) (hB : B < l) (hl : V.heap[l]? = some o) (ho : o.isCells = false) : FilesAt (V.putObj l o') B t := by
  obtain ⟨z, hz, rfl⟩ := h
  exact ⟨z, hz.off (shut_turned V l o') (by omega) (fun f hf hne => by
    obtain ⟨A, n, c, hv, _, hr⟩ := hz.reads f hf
    rw [hv]
    exact hr.away_shut hl ho hne), rfl⟩
theorem TreeAt.shut {V : World} {p B l : Nat} {t : Tr} {o o' : Obj} (h : TreeAt V p B t) (hB : B < l) (hl : V.heap[l]? = some o) (ho : o.isCells = false) : TreeAt (V.putObj l o') p B t :=
  ⟨(shut_turned V l o').cell h.cell (cell_off hl ho h.cell), h.files.shut hB hl ho⟩
/-- Between two rounds of the undoing: j are over. -/
structure ApI (w : World) (p B : Nat) (t : Tr) (A : Option Addr) (kk c g2 gB : Nat) (xs : List PrC) (j : Nat) (V : World) (u : Tr) : Prop where
  ran : runS t ((valsP xs).take (kk - j)) = (u, 0)
  tree : TreeAt V p B u
  turned : Turned B w V
  b2 : BoxAt V g2 #[.pointer (some ⟨p, 0, none⟩)] 52
  bB : BoxAt V gB #[.slice A kk c] 25
theorem Turned.shut {w V : World} {B l : Nat} {o' : Obj} (h : Turned B w V) (hw : w.heap.size ≤ l) : Turned B w (V.putObj l o') :=
  ⟨h.os, h.tape, h.output, by simpa using h.size, fun i hi hne => (World.putObj_heap_other (by omega)).trans (h.block i hi hne)⟩
theorem take_back {l : List Pr} {i : Nat} {x : Pr} {t u : Tr} (ht : Rising t) (h : runS t (l.take (i + 1)) = (u, 0)) (hx : l[i]? = some x) : ∃ s, runS t (l.take i) = (s, 0) ∧ applyP u (invertP x) = (s, 0) := by
  obtain ⟨hi, rfl⟩ := List.getElem?_eq_some_iff.1 hx
  rw [List.take_succ_eq_append_getElem hi] at h
  obtain ⟨s, h1, h2⟩ := runS_append.1 h
  obtain ⟨s', h3, h4⟩ := runS_cons.1 h2
  simp only [runS, Prod.mk.injEq, and_true] at h4
  subst h4
  exact ⟨s, h1, apply_back (runS_rising ht h1) h3⟩
theorem linesS_take (l : List Pr) (i : Nat) : linesS (l.take i) ≤ linesS l := by
  have : linesS l = linesS (l.take i) + linesS (l.drop i) := by rw [← linesS_append, List.take_append_drop]
  omega
theorem linesS_at {l : List Pr} {i : Nat} {x : Pr} (h : l[i]? = some x) : linesS (l.take i) + (x.old.length + x.new.length) ≤ linesS l := by
  obtain ⟨hi, rfl⟩ := List.getElem?_eq_some_iff.1 h
  have h1 := linesS_take l (i + 1)
  rw [List.take_succ_eq_append_getElem hi, linesS_append, linesS_cons, linesS_nil] at h1
  omega

set_option maxRecDepth 100000 in
set_option maxHeartbeats 3200000 in
theorem seqApply_any (p B k h : Nat) (t : Tr) (A : Option Addr) (n c : Nat) (xs : List PrC) (w : World) (ht : TreeAt w p B t) (hx : PsOk w A n xs) (hs : Sized k h t) (hnc : n ≤ c) (hn : k + n ≤ 60000) (hh : h + 2 * linesS (valsP xs) ≤ 65536) :
    Calls Tryz.prog 28 #[.pointer (some ⟨p, 0, none⟩), .slice A n c] w (Does (applyS t (valsP xs)) p B w) := by
  have hlen := hx.len
  have hB := ht.files.lt
  have hp := ht.lt
  obtain ⟨es, em, hmap⟩ := ht.files.map
  have HX := Lib.hid hx; have HT := Lib.hid ht; have HS := Lib.hid hs; have HM := Lib.hid hmap
  have HB2 : Hid (BoxAt (w.alloc (.cells #[.pointer (some ⟨p, 0, none⟩)] 52)) w.heap.size #[.pointer (some ⟨p, 0, none⟩)] 52) := BoxAt.made w _ _
  clear hx ht hs hmap
  refine (callsIn_wide (n := 3)).1 (callsIn_of_wp_marks Tryz.func28 rfl trivial (wpIn_wide.2 ?_) rfl)
  simp only [Tryz.ntmps28, List.size_toArray, List.length_cons, List.length_nil, Nat.reduceAdd, Nat.reduceSub, Array.replicate_succ, Array.replicate_zero, List.push_toArray, List.append_toArray, List.nil_append, List.cons_append]
  go_wp2
  go_loopg [12] (n + 1) (fun g s12 wr => ∃ (kk : Nat) (u : Tr), kk ≤ n ∧ n - kk ≤ g ∧ s12 = .int .i64 kk ∧ Hid (runS t ((valsP xs).take kk) = (u, 0)) ∧ Hid (TreeAt wr p B u) ∧ Hid (Turned B w wr) ∧ Hid (BoxAt wr w.heap.size #[.pointer (some ⟨p, 0, none⟩)] 52))
  case atStart => exact ⟨0, t, Nat.zero_le _, by omega, rfl, by simp [Hid, runS], HT.out.later ((Later.refl w).alloc _), ((Later.refl w).alloc _).turned B, HB2.out⟩
  case round =>
    obtain ⟨kk, u, hk, hg, rfl, hran, htr, htu, hb2⟩ := hrel
    have hb2lt := hb2.out.lt
    by_cases hlt : kk < n
    · have hcl := htu.out.cells HM.out
      obtain ⟨b, o, x, rfl, hz, hok, g0, g1, g2, g3, g4, g5⟩ := (HX.out.cells hcl).get hlt
      have hatv := valsP_at hz
      have hsz := runS_sized (l := (valsP xs).take kk) HS.out
      rw [hran.out] at hsz
      have hln := linesS_at hatv
      have htl : ((valsP xs).take kk).length = kk := by rw [List.length_take, valsP_length, hlen]; omega
      rw [htl] at hsz
      have hnl := hok.new.len
      have HLB : Hid (Later wr (wr.alloc (.cells #[.int .i64 x.v.kind, .string x.v.name, .string x.v.to, .int .i64 x.v.place, .slice x.A x.n x.c, .slice x.B x.m x.d] 48))) := (Later.refl wr).alloc _
      have HC := Lib.hid (apply_any x p B _ _ u _ (htr.out.later HLB.out) (hok.later HLB.out) hsz (by omega) (by omega))
      have c2 := (hb2.out.later HLB.out).cell (i := 0) rfl
      have HATV := Lib.hid hatv; have HSZ := Lib.hid hsz; have HCL := Lib.hid hcl
      clear hok hz hatv hsz hcl htl
      unfold prV at HC
      cases hr : decide ((applyP u x.v).2 = 0)
      · have he : (applyP u x.v).2 ≠ 0 := of_decide_eq_false hr
        have herr : (applyP u x.v).1 = u := apply_errS he
        have HAS : Hid (applyS t (valsP xs) = (t, (applyP u x.v).2)) := by
          show _ = _
          have e1 : valsP xs = (valsP xs).take kk ++ x.v :: (valsP xs).drop (kk + 1) := by
            obtain ⟨hi, hxi⟩ := List.getElem?_eq_some_iff.1 HATV.out
            rw [← hxi, ← List.drop_eq_getElem_cons hi, List.take_append_drop]
          rw [e1]
          exact applyS_err hran.out he
        have hne : ((applyP u x.v).2 == 0) = false := by rw [beq_eq_false_iff_ne]; exact he
        have HHR := Lib.hid herr
        clear he hr herr
        go_wp2_with fail
        refine HC.out.mono ?_
        rintro e w2 ⟨rfl, htw, htu2⟩
        rw [HHR.out] at htw
        generalize (applyP u x.v).2 = er at *
        obtain ⟨es1, em1, hm1⟩ := (htr.out.later HLB.out).files.map
        have HBX := Lib.hid ((hb2.out.later HLB.out).turnS htu2 hm1)
        have HTU := Lib.hid ((htu.out.trans (HLB.out.turned B)).trans htu2); have HTW := Lib.hid htw
        have HBK := Lib.hid (fun (A1 : Option Addr) (n1 c1 : Nat) (w1 : World) => back_any A1 n1 c1 w1)
        clear HC c2 g0 g1 g2 g3 g4 g5 htw htu2 hm1
        go_wp2_with fail
        refine (HBK.out _ _ _ _).mono ?_
        rintro e w3 ⟨rfl, rfl⟩
        clear HBK
        go_wp2_with fail
        have hl3 : Later w2 (w2.alloc (.cells #[.slice (some ⟨b, o, none⟩) kk c] 25)) := (Later.refl w2).alloc _
        have hbB : BoxAt (w2.alloc (.cells #[.slice (some ⟨b, o, none⟩) kk c] 25)) w2.heap.size #[.slice (some ⟨b, o, none⟩) kk c] 25 := BoxAt.made w2 _ _
        have hrow : RowK 6 w (some ⟨b, o, none⟩) kk ((xs.take kk).map prL) := by
          refine ⟨by simp [hlen]; omega, (fun cs hcs => by obtain ⟨y, _, rfl⟩ := List.mem_map.1 hcs; rfl), fun hkk => ?_⟩
          obtain ⟨b', o', e', hc'⟩ := HX.out.row.2.2 (by omega)
          refine ⟨b', o', e', fun j i cs v h1 h2 => hc' j i cs v ?_ h2⟩
          rw [List.getElem?_map, List.getElem?_take] at h1
          split at h1
          · rw [List.getElem?_map]; exact h1
          · simp at h1
        have hi0 : ∃ u', ApI w p B t (some ⟨b, o, none⟩) kk c w.heap.size w2.heap.size xs 0 (w2.alloc (.cells #[.slice (some ⟨b, o, none⟩) kk c] 25)) u' := ⟨u, hran.out, HTW.out.later hl3, HTU.out.trans (hl3.turned B), HBX.out.later hl3, hbB⟩
        have hcw : Cells w (w2.alloc (.cells #[.slice (some ⟨b, o, none⟩) kk c] 25)) := (HTU.out.cells HM.out).later hl3
        have hszL : w.heap.size ≤ (w2.alloc (.cells #[.slice (some ⟨b, o, none⟩) kk c] 25)).heap.size := Nat.le_trans HTU.out.size hl3.le
        generalize w2.heap.size = gB at hbB hi0 ⊢
        generalize w2.alloc (.cells #[.slice (some ⟨b, o, none⟩) kk c] 25) = wL at hl3 hbB hi0 hcw hszL ⊢
        refine range_rows (zs := rounds (xs.take kk)) (w0 := wL) rfl (enters_of Tryz.func77 (by kernel_rfl) rfl) (back_handsC 2 gB (by decide) (some ⟨b, o, none⟩) kk c (xs.take kk) (by omega) w wL hrow hcw (hbB.cell rfl)) (Later.refl _) (fun _ => rfl) (fun h k => h.trans k) (fun V l o o' _ hh ho => KpC.book V l o o' hh ho)
          (fun j V => ∃ u', ApI w p B t (some ⟨b, o, none⟩) kk c w.heap.size gB xs j V u') (fun _ _ => False)
          (fun j z a' V => (∃ u', ApI w p B t (some ⟨b, o, none⟩) kk c w.heap.size gB xs j V u') ∧ ∃ gx, BoxAt V gx (prL z.2).toArray 48 ∧ a' = { tmps := #[.pointer (some ⟨p, 0, none⟩), .slice (some ⟨b, o, none⟩) n c, .pointer (some ⟨w.heap.size, 0, none⟩), undef, u4, .int .i64 kk, .pointer (some ⟨wr.heap.size, 0, none⟩), .int .i64 er, undef, .pointer (some ⟨gx, 0, none⟩), .slice (some ⟨b, o, none⟩) n c, .int .i64 n, .int .i64 kk, .bool true, .int .i64 kk, .pointer (some ⟨b, o + kk * 6, none⟩), .agg #[.int .i64 x.v.kind, .string x.v.name, .string x.v.to, .int .i64 x.v.place, .slice x.A x.n x.c, .slice x.B x.m x.d], .pointer (some ⟨p, 0, none⟩), .agg #[.int .i64 x.v.kind, .string x.v.name, .string x.v.to, .int .i64 x.v.place, .slice x.A x.n x.c, .slice x.B x.m x.d], .int .i64 er, .int .i64 er, .bool false, .slice (some ⟨b, o, none⟩) n c, .int .i64 kk, .slice (some ⟨b, o, none⟩) kk c, .func (.func 77) #[] #[.pointer (some ⟨gB, 0, none⟩)], .int .i64 z.1, prV z.2, u28, u29, u30, u31, u32, u33], defers := [] })
          (fun j V l o' o'' ⟨u', q⟩ hl hh ho => ⟨u', q.ran, q.tree.shut (by omega) hh ho, q.turned.shut (by omega), q.b2.shut hh ho, q.bB.shut hh ho⟩) (fun j V l o o' h => h.elim) (fun j z a' V l o' o'' ⟨⟨u', q⟩, gx, h2, h3⟩ hl hh ho => ⟨⟨u', q.ran, q.tree.shut (by omega) hh ho, q.turned.shut (by omega), q.b2.shut hh ho, q.bB.shut hh ho⟩, gx, h2.shut hh ho, h3⟩)
          (fun o' o'' ⟨u', q⟩ => ⟨u', q.ran, q.tree.later (((Later.refl wL).alloc o').alloc o''), q.turned.trans ((((Later.refl wL).alloc o').alloc o'').turned B), q.b2.later (((Later.refl wL).alloc o').alloc o''), q.bB.later (((Later.refl wL).alloc o').alloc o'')⟩) hi0 ?assign ?body ?done ?stop
        case assign =>
          rintro l j ⟨i, y⟩ V K hz ⟨u', q⟩ hK
          simp only [backV, prV]
          gi_wp2
          have hlv : Later V (V.alloc (.cells (prL y).toArray 48)) := (Later.refl V).alloc _
          exact hK _ _ (KeepsFrom.later hlv _) (KpC.of hlv.cells) ⟨⟨u', q.ran, q.tree.later hlv, q.turned.trans (hlv.turned B), q.b2.later hlv, q.bB.later hlv⟩, V.heap.size, BoxAt.made V (prL y).toArray 48, rfl⟩
        case body =>
          rintro l j ⟨i, y⟩ a' V hz ⟨⟨u', q⟩, gx, hbx, rfl⟩
          obtain ⟨hj, hat⟩ := rounds_at hz
          dsimp only at hj hat hbx ⊢
          have hkl : (xs.take kk).length = kk := by rw [List.length_take, hlen]; omega
          have hik : i < kk := by omega
          rw [List.getElem?_take, if_pos hik] at hat
          have hatv := valsP_at hat
          have hok := (HX.out.each y (List.mem_of_getElem? hat)).cells (q.turned.cells HM.out)
          have hran' := q.ran
          rw [show kk - j = i + 1 by omega] at hran'
          obtain ⟨s', hs1, hs2⟩ := take_back HT.out.files.rise hran' hatv
          have hsz := runS_sized (l := (valsP xs).take (i + 1)) HS.out
          rw [hran'] at hsz
          have hln := linesS_take (valsP xs) (i + 1)
          have hln2 := linesS_at hatv
          have hinv := invert_lines y.v
          have hlen1 : ((valsP xs).take (i + 1)).length ≤ n := by rw [List.length_take, valsP_length, hlen]; omega
          obtain ⟨es2, em2, hm2⟩ := q.tree.files.map
          refine wpIn_block (ap_region rfl (by kernel_rfl) (by kernel_rfl) ⟨_, rfl, rfl, rfl, rfl, by kernel_rfl⟩ ⟨_, rfl, rfl, rfl, rfl, by kernel_rfl⟩ ⟨_, rfl, rfl, rfl, rfl, by kernel_rfl⟩ ⟨_, rfl, rfl, rfl, rfl, by kernel_rfl⟩ (of_decide_eq_true rfl) rfl rfl q.b2 hbx hok q.tree hsz (by omega) (by omega) (fun ⟨_, _, h⟩ => h) (fun D a V' so st => ?_))
          rw [hs2] at st
          obtain ⟨s1, s2⟩ := st
          exact ⟨KeepsFrom.of_grownBy s2 (fun j e => by cases e; omega), KpC.of (s2.cells hm2), s', by rw [show kk - (j + 1) = i by omega]; exact hs1, s1, q.turned.trans s2, q.b2.turnS s2 hm2, q.bB.turnS s2 hm2⟩
        case done =>
          rintro Dd V hD ⟨u', q⟩ hd
          have hq := q.ran
          rw [rounds_length, List.length_take, hlen, Nat.min_eq_left (by omega), Nat.sub_self, List.take_zero] at hq
          simp only [runS, Prod.mk.injEq, and_true] at hq
          subst hq
          have HQ := Lib.hid q; have HD := Lib.hid hd
          clear q hd
          go_wp2
          refine ⟨by simp, .inl ⟨_, _, rfl, run_takeDeferred HD.out, ?_⟩⟩
          refine ⟨_, results_tmp rfl _ _ _, ?_⟩
          rw [HAS.out]
          exact ⟨rfl, HQ.out.tree.shut (by omega) HD.out rfl, HQ.out.turned.shut (by omega)⟩
        case stop =>
          rintro Dd j V _ _ h _
          exact h.elim
      · have he : (applyP u x.v).2 = 0 := of_decide_eq_true hr
        have HEQ := Lib.hid he
        have HNX : Hid (runS t ((valsP xs).take (kk + 1)) = ((applyP u x.v).1, 0)) := by
          show _ = _
          obtain ⟨hi, hxi⟩ := List.getElem?_eq_some_iff.1 HATV.out
          rw [List.take_succ_eq_append_getElem hi, hxi, runS_snoc hran.out, Prod.ext_iff]
          exact ⟨rfl, he⟩
        clear hr he
        go_wp2_with fail
        refine HC.out.mono ?_
        rintro e w2 ⟨rfl, htw, htu2⟩
        obtain ⟨es1, em1, hm1⟩ := (htr.out.later HLB.out).files.map
        have HBX := Lib.hid ((hb2.out.later HLB.out).turnS htu2 hm1)
        have HTU := Lib.hid ((htu.out.trans (HLB.out.turned B)).trans htu2); have HTW := Lib.hid htw
        clear HC c2 g0 g1 g2 g3 g4 g5 htw htu2 hm1
        rw [HEQ.out]
        generalize (applyP u x.v).1 = u' at HTW HNX
        clear HEQ
        go_wp2
        go_roundg (n - (kk + 1))
        case measure => omega
        case rel => exact ⟨kk + 1, _, by omega, Nat.le_refl _, by go_num, HNX, HTW, HTU, HBX⟩
    · obtain rfl : kk = n := by omega
      have HE : Hid (applyS t (valsP xs) = (u, 0)) := by
        have := hran.out
        rw [List.take_of_length_le (by rw [valsP_length, hlen]; omega)] at this
        exact applyS_ok.2 this
      go_wp2
      refine ⟨_, results_tmp rfl _ _ _, ?_⟩
      rw [HE.out]
      exact ⟨rfl, htr.out, htu.out⟩

end Go.Proofs.YtomboeiaajggoaaGreatDoor

/-
  Rows of prims as values, beside trees.
-/
namespace Go.Proofs.YtomboeiaajggoaaGreatDoor
open Go.RowKit Go.Maps

section
variable {w w' : World} {v u : Value} {l m : List Pr}
theorem RowK.turnS {k : Nat} {A : Option Addr} {n : Nat} {css : List (List Value)} {B : Nat} (h : RowK k w A n css) (hg : Turned B w w') {es : Array MapEntry} {c : Nat} (hm : w.heap[B]? = some (.map es c)) : RowK k w' A n css := by
  refine ⟨h.1, h.2.1, fun h0 => ?_⟩
  obtain ⟨b, o, e, hc⟩ := h.2.2 h0
  refine ⟨b, o, e, fun j i cs u hj hi => ?_⟩
  have h1 := hc j i cs u hj hi
  by_cases hb : b = B
  · subst hb
    unfold World.cell? at h1
    simp [hm] at h1
  · exact hg.cell h1 hb
theorem PsAt.turnS {B : Nat} (h : PsAt w v l) (hg : Turned B w w') {es : Array MapEntry} {c : Nat} (hm : w.heap[B]? = some (.map es c)) : PsAt w' v l := by
  obtain ⟨A, n, c, xs, rfl, hc, hp, hv⟩ := h
  exact ⟨A, n, c, xs, rfl, hc, ⟨hp.row.turnS hg hm, fun x hx => (hp.each x hx).turnS hg hm⟩, hv⟩
theorem apply_s {p B k h : Nat} {t : Tr} (ht : TreeAt w p B t) (hx : PsAt w v l) (hs : Sized k h t) (hn : k + l.length ≤ 60000) (hh : h + 2 * linesS l ≤ 65536) :
    Calls Tryz.prog 28 #[.pointer (some ⟨p, 0, none⟩), v] w (Does (applyS t l) p B w) := by
  obtain ⟨A, c, xs, rfl, hc, hp, rfl⟩ := hx.open
  exact seqApply_any p B k h t A _ c xs w ht hp hs hc hn hh
end

end Go.Proofs.YtomboeiaajggoaaGreatDoor

/-
  What calls of the library come to, laid at this program: A builder: written into, and told as a text.
-/
namespace Go.Proofs
open Go.Shelf
def Tryz.lays169_ren : Go.Shelf.Ren := ⟨fun | 169 => 66 | n => n, fun | 70 => 103 | 9 => 9 | 0 => 0 | 72 => 106 | 37 => 104 | 127 => 135 | 3 => 3 | 5 => 5 | n => n, fun | n => n⟩
theorem Tryz.lays169 : Go.Proofs.Lays.n169 Tryz.prog Tryz.lays169_ren := {
  mixed := by kernel_rfl
  f169 := Tryz.func66.trans (congrArg some (by kernel_rfl))
  t0 := Tryz.underlying0
  a0 := Tryz.isAgg0
  z0 := Tryz.sizeOf0
  v0 := Tryz.zeroValue0
  t3 := Tryz.underlying3
  a3 := Tryz.isAgg3
  z3 := Tryz.sizeOf3
  v3 := Tryz.zeroValue3
  t9 := Tryz.underlying9
  a9 := Tryz.isAgg9
  z9 := Tryz.sizeOf9
  v9 := Tryz.zeroValue9
  t37 := Tryz.underlying104
  a37 := Tryz.isAgg104
  z37 := Tryz.sizeOf104
  v37 := Tryz.zeroValue104
  t70 := Tryz.underlying103
  a70 := Tryz.isAgg103
  z70 := Tryz.sizeOf103
  v70 := Tryz.zeroValue103
  t72 := Tryz.underlying106
  a72 := Tryz.isAgg106
  z72 := Tryz.sizeOf106
  v72 := Tryz.zeroValue106
  t127 := Tryz.underlying135
  a127 := Tryz.isAgg135
  z127 := Tryz.sizeOf135
  v127 := Tryz.zeroValue135 }
theorem Tryz.Builder_Extra_169 : Builder.Extra Tryz.prog Tryz.lays169_ren := {
  sizeBuilder := by kernel_rfl
  liesBuilder := by kernel_rfl
  t5 := Tryz.underlying5
  a5 := Tryz.isAgg5
  z5 := Tryz.sizeOf5
  v5 := Tryz.zeroValue5
  infoByte := by kernel_rfl
  cellsByte := by kernel_rfl
  sizeByte := by kernel_rfl
  neB5 := by decide }
open Go.RowKit in
theorem Tryz.Builder_String_any (B b : Nat) (l : List UInt8) (w : World) (h : Lib.IsBuilder 106 5 B b (Lib.byteCells l) w) (hBw : B ≤ w.heap.size) :
    Calls Tryz.prog 66 #[.pointer (some ⟨b, 0, none⟩)] w fun e w' => e = .returned (.string ⟨l.toArray⟩) ∧ Below B w w' := Any.Builder_String_any Tryz.lays169 Tryz.Builder_Extra_169 B b l w h hBw
def Tryz.lays166_ren : Go.Shelf.Ren := ⟨fun | 166 => 63 | 240 => 93 | 276 => 122 | n => n, fun | 0 => 0 | 3 => 3 | 4 => 4 | 5 => 5 | 9 => 9 | 20 => 20 | 37 => 104 | 70 => 103 | 72 => 106 | 75 => 109 | 80 => 69 | 164 => 156 | n => n, fun | n => n⟩
theorem Tryz.lays166 : Go.Proofs.Lays.n166 Tryz.prog Tryz.lays166_ren := {
  mixed := by kernel_rfl
  f166 := Tryz.func63.trans (congrArg some (by kernel_rfl))
  f240 := Tryz.func93.trans (congrArg some (by kernel_rfl))
  f276 := Tryz.func122.trans (congrArg some (by kernel_rfl))
  t0 := Tryz.underlying0
  a0 := Tryz.isAgg0
  z0 := Tryz.sizeOf0
  v0 := Tryz.zeroValue0
  t3 := Tryz.underlying3
  a3 := Tryz.isAgg3
  z3 := Tryz.sizeOf3
  v3 := Tryz.zeroValue3
  t4 := Tryz.underlying4
  a4 := Tryz.isAgg4
  z4 := Tryz.sizeOf4
  v4 := Tryz.zeroValue4
  t9 := Tryz.underlying9
  a9 := Tryz.isAgg9
  z9 := Tryz.sizeOf9
  v9 := Tryz.zeroValue9
  t20 := Tryz.underlying20
  a20 := Tryz.isAgg20
  z20 := Tryz.sizeOf20
  v20 := Tryz.zeroValue20
  t37 := Tryz.underlying104
  a37 := Tryz.isAgg104
  z37 := Tryz.sizeOf104
  v37 := Tryz.zeroValue104
  t70 := Tryz.underlying103
  a70 := Tryz.isAgg103
  z70 := Tryz.sizeOf103
  v70 := Tryz.zeroValue103
  t72 := Tryz.underlying106
  a72 := Tryz.isAgg106
  z72 := Tryz.sizeOf106
  v72 := Tryz.zeroValue106
  t75 := Tryz.underlying109
  a75 := Tryz.isAgg109
  z75 := Tryz.sizeOf109
  v75 := Tryz.zeroValue109
  t164 := Tryz.underlying156
  a164 := Tryz.isAgg156
  z164 := Tryz.sizeOf156
  v164 := Tryz.zeroValue156 }
theorem Tryz.Builder_Extra_166 : Builder.Extra Tryz.prog Tryz.lays166_ren := {
  sizeBuilder := by kernel_rfl
  liesBuilder := by kernel_rfl
  t5 := Tryz.underlying5
  a5 := Tryz.isAgg5
  z5 := Tryz.sizeOf5
  v5 := Tryz.zeroValue5
  infoByte := by kernel_rfl
  cellsByte := by kernel_rfl
  sizeByte := by kernel_rfl
  neB5 := by decide }
open Go.RowKit in
theorem Tryz.Builder_WriteString (B b : Nat) (bs : List Value) (s : ByteArray) (w : World) (h : Lib.IsBuilder 106 5 B b bs w) (hlen : bs.length + s.size ≤ 140737488355328) (hBw : B ≤ w.heap.size) :
    Calls Tryz.prog 63 #[.pointer (some ⟨b, 0, none⟩), .string s] w fun e w' => e = .returned (.tuple #[.int .i64 s.size, .nilIface]) ∧ (Lib.BuilderAt 106 5 B b (.pointer (some ⟨b, 0, none⟩)) (bs ++ Lib.strCells s) w' ∧ Below B w w') := Any.Builder_WriteString Tryz.lays166 Tryz.Builder_Extra_166 B b bs s w h hlen hBw
end Go.Proofs

/-
  What calls of the library come to, laid at this program: a builder, beside which other rows are kept.
-/
namespace Go.Proofs
open Go.Shelf Go.RowKit
theorem Tryz.Builder_WriteString_k (B b : Nat) (bs : List Value) (s : ByteArray) (w : World) (h : Lib.IsBuilderF 106 5 B b bs w) (hlen : bs.length + s.size ≤ 140737488355328) (hBw : B ≤ w.heap.size) :
    Calls Tryz.prog 63 #[.pointer (some ⟨b, 0, none⟩), .string s] w fun e w' => e = .returned (.tuple #[.int .i64 s.size, .nilIface]) ∧ (Lib.BuilderAtF 106 5 B b (.pointer (some ⟨b, 0, none⟩)) (bs ++ Lib.strCells s) w' ∧ Below B w w' ∧ Lib.OthersKept 5 (some b) w w') := Any.Builder_WriteString_k Tryz.lays166 Tryz.Builder_Extra_166 B b bs s w h hlen hBw
theorem Tryz.Builder_String_any_k (B b : Nat) (l : List UInt8) (w : World) (h : Lib.IsBuilderF 106 5 B b (Lib.byteCells l) w) (hBw : B ≤ w.heap.size) :
    Calls Tryz.prog 66 #[.pointer (some ⟨b, 0, none⟩)] w fun e w' => e = .returned (.string ⟨l.toArray⟩) ∧ (Lib.IsBuilderF 106 5 B b (Lib.byteCells l) w' ∧ Below B w w' ∧ Lib.OthersKept 5 (some b) w w') := Any.Builder_String_any_k Tryz.lays169 Tryz.Builder_Extra_169 B b l w h hBw
end Go.Proofs

/-
  What calls of the library come to, laid at this program: a number in decimal digits.
-/
namespace Go.Proofs
open Go.Shelf
def Tryz.laysItoa_ren : Go.Shelf.Ren := ⟨fun | 171 => 64 | 243 => 94 | 246 => 123 | 283 => 135 | 284 => 136 | 285 => 137 | 286 => 138 | 129 => 108 | 317 => 143 | 318 => 144 | 319 => 145 | 320 => 146 | 337 => 148 | 338 => 149 | n => n, fun | 3 => 3 | 9 => 9 | 2 => 2 | 4 => 4 | 171 => 169 | 0 => 0 | 53 => 148 | 37 => 104 | 5 => 5 | 173 => 171 | 212 => 180 | 51 => 146 | 20 => 20 | 213 => 181 | 46 => 117 | 232 => 183 | 233 => 184 | n => n, fun | 17 => 0 | 18 => 1 | 19 => 2 | n => n⟩
theorem Tryz.laysItoa : Go.Proofs.LaysM.n171 Tryz.prog Tryz.laysItoa_ren := {
  mixed := by kernel_rfl
  f129 := Tryz.func108.trans (congrArg some (by kernel_rfl))
  f171 := Tryz.func64.trans (congrArg some (by kernel_rfl))
  f243 := Tryz.func94.trans (congrArg some (by kernel_rfl))
  f246 := Tryz.func123.trans (congrArg some (by kernel_rfl))
  f283 := Tryz.func135.trans (congrArg some (by kernel_rfl))
  f284 := Tryz.func136.trans (congrArg some (by kernel_rfl))
  f285 := Tryz.func137.trans (congrArg some (by kernel_rfl))
  f286 := Tryz.func138.trans (congrArg some (by kernel_rfl))
  f317 := Tryz.func143.trans (congrArg some (by kernel_rfl))
  f318 := Tryz.func144.trans (congrArg some (by kernel_rfl))
  f319 := Tryz.func145.trans (congrArg some (by kernel_rfl))
  f320 := Tryz.func146.trans (congrArg some (by kernel_rfl))
  f337 := Tryz.func148.trans (congrArg some (by kernel_rfl))
  f338 := Tryz.func149.trans (congrArg some (by kernel_rfl))
  t0 := Tryz.underlying0
  a0 := Tryz.isAgg0
  z0 := Tryz.sizeOf0
  v0 := Tryz.zeroValue0
  t2 := Tryz.underlying2
  a2 := Tryz.isAgg2
  z2 := Tryz.sizeOf2
  v2 := Tryz.zeroValue2
  t3 := Tryz.underlying3
  a3 := Tryz.isAgg3
  z3 := Tryz.sizeOf3
  v3 := Tryz.zeroValue3
  t4 := Tryz.underlying4
  a4 := Tryz.isAgg4
  z4 := Tryz.sizeOf4
  v4 := Tryz.zeroValue4
  t5 := Tryz.underlying5
  a5 := Tryz.isAgg5
  z5 := Tryz.sizeOf5
  v5 := Tryz.zeroValue5
  t9 := Tryz.underlying9
  a9 := Tryz.isAgg9
  z9 := Tryz.sizeOf9
  v9 := Tryz.zeroValue9
  t20 := Tryz.underlying20
  a20 := Tryz.isAgg20
  z20 := Tryz.sizeOf20
  v20 := Tryz.zeroValue20
  t37 := Tryz.underlying104
  a37 := Tryz.isAgg104
  z37 := Tryz.sizeOf104
  v37 := Tryz.zeroValue104
  t46 := Tryz.underlying117
  a46 := Tryz.isAgg117
  z46 := Tryz.sizeOf117
  v46 := Tryz.zeroValue117
  t51 := Tryz.underlying146
  a51 := Tryz.isAgg146
  z51 := Tryz.sizeOf146
  v51 := Tryz.zeroValue146
  t53 := Tryz.underlying148
  a53 := Tryz.isAgg148
  z53 := Tryz.sizeOf148
  v53 := Tryz.zeroValue148
  t171 := Tryz.underlying169
  a171 := Tryz.isAgg169
  z171 := Tryz.sizeOf169
  v171 := Tryz.zeroValue169
  t173 := Tryz.underlying171
  a173 := Tryz.isAgg171
  z173 := Tryz.sizeOf171
  v173 := Tryz.zeroValue171
  t212 := Tryz.underlying180
  a212 := Tryz.isAgg180
  z212 := Tryz.sizeOf180
  v212 := Tryz.zeroValue180
  t213 := Tryz.underlying181
  a213 := Tryz.isAgg181
  z213 := Tryz.sizeOf181
  t232 := Tryz.underlying183
  a232 := Tryz.isAgg183
  z232 := Tryz.sizeOf183
  v232 := Tryz.zeroValue183
  t233 := Tryz.underlying184
  a233 := Tryz.isAgg184
  z233 := Tryz.sizeOf184
  v233 := Tryz.zeroValue184
  g17 := by kernel_rfl
  g18 := by kernel_rfl
  g19 := by kernel_rfl
  i0 := by kernel_rfl
  i2 := by kernel_rfl
  i3 := by kernel_rfl
  i4 := by kernel_rfl
  i5 := by kernel_rfl
  i9 := by kernel_rfl
  i20 := by kernel_rfl
  i37 := by kernel_rfl
  i46 := by kernel_rfl
  i51 := by kernel_rfl
  i53 := by kernel_rfl
  i171 := by kernel_rfl
  i173 := by kernel_rfl
  i212 := by kernel_rfl
  i232 := by kernel_rfl
  i233 := by kernel_rfl
  m17 := by kernel_rfl
  m18 := by kernel_rfl
  m19 := by kernel_rfl }
open Go.RowKit Go.Sort Go.Lib in
/-- A number in decimal digits. -/
theorem Tryz.strconv_Itoa (n : Int) (h0 : -9223372036854775808 ≤ n) (h1 : n ≤ 9223372036854775807) (w : World) (htab : Lib.TabIs Tryz.prog w "internal/strconv.uint64pow10" .u64 Lib.pow10Tab) :
    Calls Tryz.prog 64 #[.int .i64 n] w fun e w' => e = .returned (.string ⟨(Lib.itoa n).toArray⟩) ∧ ∃ k os, w' = grow (w.drewN k) os := Any.strconv_Itoa Tryz.laysItoa n h0 h1 w htab

end Go.Proofs

/-
  What line.Text comes to, as a call.
-/
namespace Go.Proofs.YtomboeiaajggoaaGreatDoor
open Go.RowKit

theorem cells_room1 {a : List UInt8} {x : ByteArray} {m : Nat} (h : a.length + x.size + 1 ≤ m) (hm : m ≤ 1000000) : (Lib.byteCells a).length + x.size ≤ 140737488355328 := by
  rw [Lib.byteCells, List.length_map]; omega

theorem cells_room {a : List UInt8} {x : ByteArray} {m : Nat} (h : a.length + x.size + 1 ≤ m) (hm : m ≤ 1000000) : (Lib.byteCells a ++ Lib.strCells x).length + (⟨#[10]⟩ : ByteArray).size ≤ 140737488355328 := by
  rw [List.length_append, Lib.byteCells, List.length_map, Lib.strCells_length]
  have : (⟨#[10]⟩ : ByteArray).size = 1 := rfl
  omega

set_option maxHeartbeats 400000 in
theorem text_any (A : Option Addr) (n c : Nat) (l : List ByteArray) (w : World) (hx : Row w A n l) (hn : n ≤ 65536) (hb : (textL l).length ≤ 1000000) :
    Calls Tryz.prog 65 #[.slice A n c] w fun e w' => e = .returned (.string (txt (textL l))) ∧ Later w w' := by
  have HX := Lib.hid hx; clear hx
  go_enter Tryz.func65, Tryz.ntmps65
  go_wp2
  go_loopg [8] (n + 1) (fun g s8 wr => ∃ k : Nat, k ≤ n ∧ n - k ≤ g ∧ s8 = .int .i64 k ∧ Later w wr ∧ Lib.IsBuilder 106 5 w.heap.size w.heap.size (Lib.byteCells (textL (l.take k))) wr)
  case atStart =>
    exact ⟨0, Nat.zero_le _, by omega, rfl, (Later.refl w).alloc _, .inl ⟨Nat.le_refl _, .slice none 0 0, heap_alloc_new w _, World.ownsRow_nil _ _ _ _, by simp [Value.ownBlock]⟩⟩
  case round =>
    obtain ⟨k, hk, hg, rfl, hwr, hB⟩ := hrel
    have hle := hwr.le
    have HW := Lib.hid hwr; clear hwr
    have HB := Lib.hid hB; clear hB
    by_cases hlt : k < n
    · obtain ⟨b1, o1, rfl, g1⟩ := (HX.out.later HW.out).get hlt
      have hkl : k < l.length := by rw [HX.out.len]; exact hlt
      have hroom := textL_room hkl
      have hnext := textL_next hkl
      generalize l.getD k ByteArray.empty = x at g1 hroom hnext
      have HN := Lib.hid hnext; clear hnext
      go_wp2_with fail
      refine (Tryz.Builder_WriteString w.heap.size w.heap.size _ x wr HB.out (cells_room1 hroom hb) hle).mono ?_
      rintro e w1 ⟨rfl, hb1, hl1⟩
      have HB1 := Lib.hid hb1; clear hb1
      have HL1 := Lib.hid hl1; clear hl1
      have hle1 := HL1.out.size
      go_wp2_with fail
      refine (Tryz.Builder_WriteString w.heap.size w.heap.size _ _ w1 (.inr HB1.out) (cells_room hroom hb) (by omega)).mono ?_
      rintro e w2 ⟨rfl, hb2, hl2⟩
      have HB2 := Lib.hid hb2; clear hb2
      have HL2 := Lib.hid hl2; clear hl2
      go_wp2
      go_roundg (n - (k + 1))
      case measure => omega
      case rel =>
        refine ⟨k + 1, by omega, Nat.le_refl _, by go_num, Below.trans (Below.trans HW.out HL1.out) HL2.out, .inr ?_⟩
        rw [HN.out]
        have := HB2.out
        simpa [Lib.byteCells, Lib.strCells, bytes] using this
    · have hkn : k = n := by omega
      have e : l.take k = l := List.take_of_length_le (by rw [HX.out.len]; omega)
      rw [e] at HB
      clear e
      go_wp2_with fail
      refine (Tryz.Builder_String_any w.heap.size w.heap.size _ wr HB.out hle).mono ?_
      rintro e w1 ⟨rfl, hl1⟩
      have HL1 := Lib.hid hl1; clear hl1
      go_wp2
      go_ret
      exact ⟨rfl, Below.trans HW.out HL1.out⟩

end Go.Proofs.YtomboeiaajggoaaGreatDoor
