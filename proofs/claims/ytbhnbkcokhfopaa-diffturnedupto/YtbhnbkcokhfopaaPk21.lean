import Derived.Test.YtbhnbkcokhfopaaPk11
import Derived.Test.YtbhnbkcokhfopaaPk20
import Derived.Test.YtbhnbkcokhfopaaPk4
import Derived.Deep.RegionHeld3
import Derived.Test.YtbhnbkcokhfopaaChecked
import Derived.Test.YtbhnbkcokhfopaaPk19
import Derived.Test.YtbhnbkcokhfopaaPk3
import Derived.Deep.LoopGhost
import Derived.Lib.Hide
import Derived.Test.YtbhnbkcokhfopaaPk5
import Derived.Test.YtbhnbkcokhfopaaPk17
import Derived.Deep.QuietTactic
import Derived.BigQuiet

/-
  What prim's Apply comes to, as a call.
-/
namespace Go.Proofs.Ytbhnbkcokhfopaa
open Go.RowKit Go.Maps

theorem deed_enters {k : Int} (hk : k = 0 ∨ k = 1 ∨ k = 2 ∨ k = 3) : ∀ (args : Array Value) (w : World), (callFunc (deedAt k) args).run Try.prog w = .ok (.enter (deedAt k) args) w := by
  rcases hk with rfl | rfl | rfl | rfl
  · exact enters_of Try.func81 (by kernel_rfl) rfl
  · exact enters_of Try.func82 (by kernel_rfl) rfl
  · exact enters_of Try.func83 (by kernel_rfl) rfl
  · exact enters_of Try.func84 (by kernel_rfl) rfl

/-- Each kind by its own function. -/
theorem deed_any (x : PrC) (p B k h : Nat) (t : Tr) (w : World) (ht : TreeAt w p B t) (hx : PrOk w x) (hr : rightP x.v = true) (hs : Sized k h t) (hk : k ≤ 60000) (hh : h + x.m ≤ 65536) :
    ∃ r : Tr × Int, Calls Try.prog (deedAt x.v.kind) #[prV x, .pointer (some ⟨p, 0, none⟩)] w (Deed r p B w) ∧ applyP t x.v = (r.1, if (r.2 == 0) = true then 0 else 31) := by
  have hl : t.length ≤ 65536 := by have := hs.many; omega
  have hb : ∀ f ∈ t, f.2.length ≤ 65536 := fun f hf => by have := (hs.each f hf).2.2; omega
  rcases (right_parts hr).2.1 with e | e | e | e
  · refine ⟨hunkT t x.v, by rw [e]; exact deedSplice_any x p B k h t w ht hx hr hs hk hh, ?_⟩
    rw [apply_hunk hr e]
    unfold hunkT
    split
    · rfl
    · split <;> rfl
  · refine ⟨addT t x.v.name, by rw [e]; exact deedAdd_any x p B t w ht hx hl, ?_⟩
    rw [apply_add hr e]; simp
  · refine ⟨removeT t x.v.name, by rw [e]; exact deedRemove_any x p B t w ht hx hb, ?_⟩
    rw [apply_rm hr e]; simp
  · refine ⟨moveT t x.v.name x.v.to, by rw [e]; exact deedMove_any x p B t w ht hx hl, ?_⟩
    rw [apply_move hr e]; simp

set_option maxRecDepth 100000 in
set_option maxHeartbeats 800000 in
theorem apply_any (x : PrC) (p B k h : Nat) (t : Tr) (w : World) (ht : TreeAt w p B t) (hx : PrOk w x) (hs : Sized k h t) (hk : k ≤ 60000) (hh : h + x.m ≤ 65536) :
    Calls Try.prog 45 #[.pointer (some ⟨p, 0, none⟩), prV x] w (Does (applyP t x.v) p B w) := by
  have hlb : Later w (w.alloc (.cells #[.int .i64 x.v.kind, .string x.v.name, .string x.v.to, .int .i64 x.v.place, .slice x.A x.n x.c, .slice x.B x.m x.d] 51)) := (Later.refl w).alloc _
  have hri := primRight_any x _ (hx.later hlb)
  have hbx : BoxAt (w.alloc (.cells #[.int .i64 x.v.kind, .string x.v.name, .string x.v.to, .int .i64 x.v.place, .slice x.A x.n x.c, .slice x.B x.m x.d] 51)) w.heap.size #[.int .i64 x.v.kind, .string x.v.name, .string x.v.to, .int .i64 x.v.place, .slice x.A x.n x.c, .slice x.B x.m x.d] 51 := BoxAt.made w _ _
  have HLB := Lib.hid hlb; have HT := Lib.hid ht; have HBX := Lib.hid hbx
  cases hr : rightP x.v
  · rw [hr] at hri
    have HR := Lib.hid hri
    rw [apply_wrong hr]
    clear hri hr hx hs hlb ht hbx
    unfold prV at HR ⊢
    go_enter Try.func45, Try.ntmps45
    go_wp2_with fail
    refine HR.out.mono ?_
    rintro e w1 ⟨rfl, hl1⟩
    have HL1 := Lib.hid (HLB.out.trans hl1); clear hl1
    go_wp2
    go_ret
    exact ⟨rfl, HT.out.later HL1.out, HL1.out.turned B⟩
  · rw [hr] at hri
    have HR := Lib.hid hri
    have HD := Lib.hid (fun (w1 : World) (hl : Later w w1) => deed_any x p B k h t w1 (ht.later hl) (hx.later hl) hr hs hk hh)
    have HK := Lib.hid (right_parts hr).2.1
    clear hri hr hx hs hlb ht hbx
    unfold prV at HR HD ⊢
    go_enter Try.func45, Try.ntmps45
    go_wp2_with fail
    refine HR.out.mono ?_
    rintro e w1 ⟨rfl, hl1⟩
    have hb1 := HBX.out.later hl1
    have HL1 := Lib.hid (HLB.out.trans hl1)
    have x0 := hb1.cell (i := 0) rfl
    have HB1 := Lib.hid hb1
    clear hl1 hb1
    go_wp2_with fail
    go_region_held3 (fun w' => w'.cell? ⟨w.heap.size, 0, none⟩ = some (.int .i64 x.v.kind)) (go_keep)
      (first | (go_at_call 59; refine (deeds_any _).mono ?_; rintro e w2 ⟨B2, rfl, hd2, hl2⟩; have HL2 : Hid (Later w1 w2) := Later.trans (by first | exact Later.refl _ | exact (Later.refl _).drew | exact (Later.refl _).drewN _) hl2; have x02 := HL2.out.cell x0; have hlk := hd2.look HK.out; have HD2 := Lib.hid hd2; clear hd2 hl2))
    have hb2 := HB1.out.later HL2.out
    have y0 := hb2.cell (i := 0) rfl; have y1 := hb2.cell (i := 1) rfl; have y2 := hb2.cell (i := 2) rfl; have y3 := hb2.cell (i := 3) rfl; have y4 := hb2.cell (i := 4) rfl; have y5 := hb2.cell (i := 5) rfl
    obtain ⟨r, hcall, happ⟩ := HD.out w2 (HL1.out.trans HL2.out)
    have HCL := Lib.hid hcall; have HAP := Lib.hid happ
    have eg := deed_enters HK.out
    generalize deedAt x.v.kind = f at HCL eg hlk ⊢
    clear hb2 hcall happ hlk x0 x02 HD
    unfold Deed at HCL
    generalize (r.2 == 0) = b at HCL HAP
    cases b
    · go_wp2_with (go_at_fn f; refine HCL.out.mono ?_; rintro e w3 ⟨rfl, h3, h4⟩; have H3 := Lib.hid h3; have H4 := Lib.hid h4; clear h3 h4)
      go_ret
      rw [HAP.out]
      exact ⟨rfl, H3.out, ((HL1.out.trans HL2.out).turned B).trans H4.out⟩
    · go_wp2_with (go_at_fn f; refine HCL.out.mono ?_; rintro e w3 ⟨rfl, h3, h4⟩; have H3 := Lib.hid h3; have H4 := Lib.hid h4; clear h3 h4)
      go_ret
      rw [HAP.out]
      exact ⟨rfl, H3.out, ((HL1.out.trans HL2.out).turned B).trans H4.out⟩

end Go.Proofs.Ytbhnbkcokhfopaa

/-
  What maps.EqualFunc at files with line.Same, and tree.Same, come to, as calls.
-/
namespace Go.Proofs.Ytbhnbkcokhfopaa
open Go.RowKit Go.Maps

section
variable {α : Type}
theorem rising_le : ∀ {a b : Fl α}, Rising a → Rising b → (∀ f ∈ a, f ∈ b) → a.length ≤ b.length
  | [], _, _, _, _ => Nat.zero_le _
  | x :: a, [], _, _, h => absurd (h x List.mem_cons_self) (by simp)
  | x :: a, y :: b, ha, hb, h => by
    by_cases e : x = y
    · subst e
      have := rising_le (rising_tail ha) (rising_tail hb) fun f hf => by
        rcases List.mem_cons.1 (h f (List.mem_cons_of_mem _ hf)) with rfl | h1
        · exact absurd rfl (ltN_ne (rising_head ha hf))
        · exact h1
      simpa using this
    · have hx : x ∈ b := (List.mem_cons.1 (h x List.mem_cons_self)).resolve_left e
      have hlt := rising_head hb hx
      have := rising_le (a := x :: a) ha (rising_tail hb) fun f hf => by
        rcases List.mem_cons.1 (h f hf) with rfl | h1
        · rcases List.mem_cons.1 hf with rfl | hf
          · exact absurd rfl e
          · have := ltN_asymm (rising_head ha hf); rw [hlt] at this; cases this
        · exact h1
      simp at this ⊢; omega
/-- As many files, all of them there: the same. -/
theorem rising_sub : ∀ {a b : Fl α}, Rising a → Rising b → (∀ f ∈ a, f ∈ b) → b.length ≤ a.length → a = b
  | [], [], _, _, _, _ => rfl
  | [], y :: b, _, _, _, h => absurd h (by simp)
  | x :: a, [], _, _, h, _ => absurd (h x List.mem_cons_self) (by simp)
  | x :: a, y :: b, ha, hb, h, hl => by
    have e : x = y := by
      rcases Classical.em (x = y) with e | e
      · exact e
      · have hx : x ∈ b := (List.mem_cons.1 (h x List.mem_cons_self)).resolve_left e
        have hlt := rising_head hb hx
        have := rising_le (a := x :: a) ha (rising_tail hb) fun f hf => by
          rcases List.mem_cons.1 (h f hf) with rfl | h1
          · rcases List.mem_cons.1 hf with rfl | hf
            · exact absurd rfl e
            · have := ltN_asymm (rising_head ha hf); rw [hlt] at this; cases this
          · exact h1
        simp at this hl; omega
    subst e
    refine congrArg _ (rising_sub (rising_tail ha) (rising_tail hb) (fun f hf => ?_) (by simpa using hl))
    rcases List.mem_cons.1 (h f (List.mem_cons_of_mem _ hf)) with rfl | h1
    · exact absurd rfl (ltN_ne (rising_head ha hf))
    · exact h1
end

theorem FA.step {w w' : World} {B r n cnt : Nat} {z : Fl Held} {D : DataW Value} {left : Lit → Bool} {B0 : Nat} (h : FA w B z) (hr : w.ranges Try.prog 9 raw B0 r n D left cnt) (hg : Turned r w w') (hne : B ≠ r) : FA w' B z :=
  ⟨h.own.kept hg (by simpa using hne), h.rise, fun f hf => by
    obtain ⟨A, m, c, e, h1, h2⟩ := h.reads f hf
    exact ⟨A, m, c, e, h1, h2.1, fun hn => by
      obtain ⟨b, o, e, hc⟩ := h2.2 hn
      exact ⟨b, o, e, fun j s hs => hg.cell (hc j s hs) (iter_cell hr (hc j s hs))⟩⟩⟩

end Go.Proofs.Ytbhnbkcokhfopaa

/-
  What stands while a tree turns: blocks, prims, other trees; how great trees become.
-/
namespace Go.Proofs.Ytbhnbkcokhfopaa
open Go.RowKit Go.Maps

theorem PrOk.turnS {w w' : World} {x : PrC} {B : Nat} (h : PrOk w x) (hg : Turned B w w') {es : Array MapEntry} {c : Nat} (hm : w.heap[B]? = some (.map es c)) : PrOk w' x :=
  ⟨h.old.turned hg hm, h.new.turned hg hm, h.oroom, h.nroom, h.omost, h.nmost, h.name, h.to, h.lo, h.hi, h.olds, h.news⟩
theorem BoxAt.turnS {w w' : World} {g B : Nat} {cs : Array Value} {t : TypeId} (h : BoxAt w g cs t) (hg : Turned B w w') {es : Array MapEntry} {c : Nat} (hm : w.heap[B]? = some (.map es c)) : BoxAt w' g cs t :=
  h.other hg (by rintro rfl; unfold BoxAt at h; rw [h] at hm; cases hm)
theorem Fits.sizedS {k : Nat} {t : Tr} (h : Fits k t) : Sized k 8000 t := ⟨h.many, fun f hf => ⟨(h.each f hf).1, (h.each f hf).2.1, by have := (h.each f hf).2.2; unfold heavy at this; omega⟩⟩
theorem Sized.lines {k h : Nat} {t : Tr} (hs : Sized k h t) (hh : h ≤ 65536) : ∀ f ∈ t, f.2.length ≤ 65536 := fun f hf => Nat.le_trans (hs.each f hf).2.2 hh

end Go.Proofs.Ytbhnbkcokhfopaa

/-
  A row of two prims, written out.
-/
namespace Go.Proofs.Ytbhnbkcokhfopaa
open Go.RowKit Go.Maps

theorem prims_two {w w0 : World} {x y : PrC} (hx : CameP w x) (hy : CameP w y) (hl : Later w w0) (t : TypeId) : Prims (w0.alloc (.cells #[.int .i64 x.v.kind, .string x.v.name, .string x.v.to, .int .i64 x.v.place, .slice x.A x.n x.c, .slice x.B x.m x.d, .int .i64 y.v.kind, .string y.v.name, .string y.v.to, .int .i64 y.v.place, .slice y.A y.n y.c, .slice y.B y.m y.d] t)) (some ⟨w0.heap.size, 0, none⟩) 2 [x, y] := by
  refine ⟨⟨rfl, fun cs hcs => ?_, fun _ => ⟨_, _, rfl, fun j i cs v hj hi => ?_⟩⟩, fun z hz => ?_⟩
  · simp at hcs
    rcases hcs with rfl | rfl <;> rfl
  · have hb : (w0.alloc (.cells #[.int .i64 x.v.kind, .string x.v.name, .string x.v.to, .int .i64 x.v.place, .slice x.A x.n x.c, .slice x.B x.m x.d, .int .i64 y.v.kind, .string y.v.name, .string y.v.to, .int .i64 y.v.place, .slice y.A y.n y.c, .slice y.B y.m y.d] t)).heap[w0.heap.size]? = some (.cells #[.int .i64 x.v.kind, .string x.v.name, .string x.v.to, .int .i64 x.v.place, .slice x.A x.n x.c, .slice x.B x.m x.d, .int .i64 y.v.kind, .string y.v.name, .string y.v.to, .int .i64 y.v.place, .slice y.A y.n y.c, .slice y.B y.m y.d] t (0, 0)) := heap_alloc_new w0 _
    have key : ∀ (k : Nat) v, (prL x ++ prL y)[k]? = some v → (w0.alloc (.cells #[.int .i64 x.v.kind, .string x.v.name, .string x.v.to, .int .i64 x.v.place, .slice x.A x.n x.c, .slice x.B x.m x.d, .int .i64 y.v.kind, .string y.v.name, .string y.v.to, .int .i64 y.v.place, .slice y.A y.n y.c, .slice y.B y.m y.d] t)).cell? ⟨w0.heap.size, k, none⟩ = some v := fun k v hk => by
      simp only [World.cell?, hb]
      show (prL x ++ prL y).toArray[k]? = some v
      rw [List.getElem?_toArray]
      exact hk
    match j, hj with
    | 0, hj =>
      simp at hj; subst hj
      have hil : i < (prL x).length := (List.getElem?_eq_some_iff.1 hi).1
      rw [Nat.zero_mul, Nat.zero_add]
      exact key i v (by rw [List.getElem?_append_left hil]; exact hi)
    | 1, hj =>
      simp at hj; subst hj
      rw [Nat.one_mul, Nat.zero_add]
      exact key (6 + i) v (by rw [List.getElem?_append_right (by show 6 ≤ 6 + i; omega), show 6 + i - (prL x).length = i from by show 6 + i - 6 = i; omega]; exact hi)
  · simp at hz
    rcases hz with rfl | rfl
    · exact hx.later (hl.alloc _)
    · exact hy.later (hl.alloc _)
theorem weightPs_two (x y : PrC) : weightPs [x, y] = weightP x.v + weightP y.v := by simp [weightPs]

end Go.Proofs.Ytbhnbkcokhfopaa

/-
  What the law DiffTurned comes to, as a call.
-/
namespace Go.Proofs.Ytbhnbkcokhfopaa
open Go.RowKit Go.Maps

theorem trees_length {a b : Tr} (la : longT a = false) (lb : longT b = false) (na : a.length ≤ 80) (nb : b.length ≤ 80) : (treesP a b).length ≤ 48480 := by
  have h1 := gone_length b a; have h2 := come_length a b; have h3 := stay_length b a
  rw [trees_is la lb, List.length_append, List.length_append]
  omega
theorem long_snoc (l : Tr) (f : ByteArray × List ByteArray) : longT (l ++ [f]) = (longT l || decide (200 < f.2.length)) := by simp [longT]
theorem Sized.mild {k h : Nat} {t : Tr} (hs : Sized k h t) : MildT t := fun f hf => ⟨Nat.le_trans (named_size (hs.each f hf).1).2 (by decide), fun s hm => Nat.le_trans (right_size (hs.each f hf).2.1 hm) (by decide)⟩
theorem lines_le {t : Tr} (h : longT t = false) (hn : t.length ≤ 80) : linesTr t ≤ 1000000 := by
  have key : ∀ l : Tr, (∀ f ∈ l, f.2.length ≤ 200) → linesTr l ≤ l.length * 200 := by
    intro l
    induction l with
    | nil => intro _; simp [linesTr]
    | cons f l ih =>
      intro hf
      have h1 := ih (fun g hg => hf g (List.mem_cons_of_mem _ hg))
      have h2 := hf f List.mem_cons_self
      simp only [linesTr, List.map_cons, List.sum_cons, List.length_cons] at *
      omega
  have := key t (fun f hf => long_no h hf)
  omega

set_option maxRecDepth 100000 in
set_option maxHeartbeats 800000 in
theorem long6_any (v : Value) (t : Tr) (w : World) (ht : RefAt w v t) (hn : t.length ≤ 65536) (hl : ∀ f ∈ t, f.2.length ≤ 65536) :
    Calls Try.prog 31 #[v] w fun e w' => ∃ q : Nat, e = .returned (.int .i64 (q : Nat)) ∧ (q ≤ 200 ↔ longT t = false) ∧ q ≤ 65536 ∧ Later w w' := by
  obtain ⟨A, n, c, z, rfl, hc, hr, rfl⟩ := ht
  have hzn := hr.len
  rw [mapT_length] at hn
  have HR := Lib.hid hr; have HL := Lib.hid hl
  clear hr hl
  go_enter Try.func31, Try.ntmps31
  go_wp2
  go_loopg [3, 8] (n + 1) (fun g s3 s8 wr => ∃ k q : Nat, k ≤ n ∧ n - k ≤ g ∧ s8 = .int .i64 (k : Nat) ∧ s3 = .int .i64 (q : Nat) ∧ q ≤ 65536 ∧ Hid (q ≤ 200 ↔ longT (mapT (·.2) (z.take k)) = false) ∧ Hid (Later w wr))
  case atStart => exact ⟨0, 0, Nat.zero_le _, by omega, rfl, rfl, by omega, by simp [Hid, longT, mapT], Later.refl w⟩
  case round =>
    obtain ⟨k, q, hk, hg, rfl, rfl, hq, hQ, hwr⟩ := hrel
    by_cases hlt : k < n
    · obtain ⟨b, o, f, rfl, hz, c0, c1⟩ := (HR.out.later hwr.out).get hlt
      obtain ⟨Af, nf, cf, hvf, hcf, hrf⟩ := (HR.out.later hwr.out).reads f (List.mem_of_getElem? hz)
      have hfl : f.2.2.length ≤ 65536 := HL.out (f.1, f.2.2) (by simp only [mapT, List.mem_map]; exact ⟨f, List.mem_of_getElem? hz, rfl⟩)
      have hfn := hrf.len
      rw [hvf] at c1
      have hsn : longT (mapT (·.2) (z.take (k + 1))) = (longT (mapT (·.2) (z.take k)) || decide (200 < nf)) := by
        rw [take_snoc hz, show mapT (·.2) (z.take k ++ [f]) = mapT (·.2) (z.take k) ++ [(f.1, f.2.2)] from by simp [mapT], long_snoc, ← hfn]
      have HQ2 : Hid (max q nf ≤ 200 ↔ longT (mapT (·.2) (z.take (k + 1))) = false) := by
        show _ ↔ _
        rw [hsn, Bool.or_eq_false_iff, ← hQ.out, decide_eq_false_iff_not]
        omega
      rw [hfn] at hfl
      have HLB : Hid (Later wr (wr.alloc (.cells #[.string f.1, .slice Af nf cf] 92))) := (Later.refl wr).alloc _
      clear hz hvf hrf hsn hfn
      go_wp2
      go_roundg (n - (k + 1))
      case measure => omega
      case rel => exact ⟨k + 1, max q nf, by omega, Nat.le_refl _, by go_num, by first | rfl | (congr 1; omega) | (congr 1; split <;> omega), by omega, HQ2, hwr.out.trans HLB.out⟩
    · have HE : Hid (q ≤ 200 ↔ longT (mapT (·.2) z) = false) := by
        have := hQ.out
        rw [List.take_of_length_le (by omega)] at this
        exact this
      go_wp2
      go_ret
      exact ⟨q, rfl, HE.out, hq, hwr.out⟩

set_option maxRecDepth 100000 in
set_option maxHeartbeats 6400000 in
theorem diffTurned_walk (A : Option Addr) (n c : Nat) (os : List OpC) (A2 : Option Addr) (n2 c2 : Nat) (os2 : List OpC) (w : World) (hs : CameS w A n os) (hs2 : CameS w A2 n2 os2) :
    Calls Try.prog 8 #[.slice A n c, .slice A2 n2 c2] w (Says true w) := by
  have HF1 := Lib.hid (few_any A n c os w hs.script hs.many hs.weigh)
  have hbd1 : fewN n (weightL os) ≤ 4000000 := by have h1 := hs.many; have h2 := hs.weigh; unfold fewN; split <;> omega
  have hz1 := @few_zero n (weightL os)
  generalize fewN n (weightL os) = fw1 at HF1 hbd1 hz1
  have HF2 := Lib.hid (fun w' (h : Later w w') => few_any A2 n2 c2 os2 w' (hs2.script.later h) hs2.many hs2.weigh)
  have hbd2 : fewN n2 (weightL os2) ≤ 4000000 := by have h1 := hs2.many; have h2 := hs2.weigh; unfold fewN; split <;> omega
  have hz2 := @few_zero n2 (weightL os2)
  generalize fewN n2 (weightL os2) = fw2 at HF2 hbd2 hz2
  have HS := Lib.hid hs; have HS2 := Lib.hid hs2
  clear hs hs2
  by_cases h0 : fw1 = 0
  case neg =>
    have hpos : (0 : Int) < fw1 := by omega
    have hd : decide ((0 : Int) < fw1) = true := by simp; omega
    clear hz1 hz2
    go_enter Try.func8, Try.ntmps8
    go_wp2_with fail
    refine HF1.out.mono ?_
    rintro e m1 ⟨rfl, hl⟩
    have L0 := Lib.hid hl
    clear hl HF1
    have HC := Lib.hid (alive6_any m1)
    go_wp2_with fail
    refine HC.out.mono ?_
    rintro e m2 ⟨rfl, hl⟩
    replace L0 := Lib.hid (L0.out.trans hl)
    clear hl HC
    go_wp2
    go_ret
    exact ⟨rfl, L0.out⟩

  obtain ⟨hn1, hW1⟩ := hz1.1 h0
  subst h0
  by_cases h0 : fw2 = 0
  case neg =>
    have hpos : (0 : Int) < fw2 := by omega
    have hd : decide ((0 : Int) < fw2) = true := by simp; omega
    clear hz1 hz2
    go_enter Try.func8, Try.ntmps8
    go_wp2_with fail
    refine HF1.out.mono ?_
    rintro e m1 ⟨rfl, hl⟩
    have L0 := Lib.hid hl
    clear hl HF1
    go_wp2_with fail
    refine (HF2.out m1 L0.out).mono ?_
    rintro e m2 ⟨rfl, hl⟩
    replace L0 := Lib.hid (L0.out.trans hl)
    clear hl HF2
    have HC := Lib.hid (alive6_any m2)
    go_wp2_with fail
    refine HC.out.mono ?_
    rintro e m3 ⟨rfl, hl⟩
    replace L0 := Lib.hid (L0.out.trans hl)
    clear hl HC
    go_wp2
    go_ret
    exact ⟨rfl, L0.out⟩

  obtain ⟨hn2, hW2⟩ := hz2.1 h0
  subst h0
  clear hz1 hz2
  go_enter Try.func8, Try.ntmps8
  go_wp2_with fail
  refine HF1.out.mono ?_
  rintro e m1 ⟨rfl, hl⟩
  have L0 := Lib.hid hl
  clear hl HF1
  go_wp2_with fail
  refine (HF2.out m1 L0.out).mono ?_
  rintro e m2 ⟨rfl, hl⟩
  replace L0 := Lib.hid (L0.out.trans hl)
  clear hl HF2
  have HC := Lib.hid (made_any A n c os m2 (HS.out.script.later L0.out) hn1 hW1)
  have HFIT1 := Lib.hid (made_fits HS.out.script hW1).sizedS
  generalize madeT os = t1 at HC HFIT1
  go_wp2_with fail
  refine HC.out.mono ?_
  rintro e m3 ⟨p, B, v1, rfl, ht, hr, -, -, hl⟩
  have T1 := Lib.hid ht; have R1 := Lib.hid hr
  replace L0 := Lib.hid (L0.out.trans hl)
  clear ht hr hl HC
  have HC := Lib.hid (made_any A2 n2 c2 os2 m3 (HS2.out.script.later L0.out) hn2 hW2)
  have HFIT2 := Lib.hid (made_fits HS2.out.script hW2).sizedS
  generalize madeT os2 = t2 at HC HFIT2
  go_wp2_with fail
  refine HC.out.mono ?_
  rintro e m4 ⟨q, D, v2, rfl, ht, hr, -, -, hl⟩
  have T2 := Lib.hid ht; have R2 := Lib.hid hr
  replace L0 := Lib.hid (L0.out.trans hl)
  replace T1 := Lib.hid (T1.out.later hl); replace R1 := Lib.hid (R1.out.later hl)
  clear ht hr hl HC
  have HC := Lib.hid (long6_any v1 t1 m4 R1.out (by have := HFIT1.out.many; omega) (HFIT1.out.lines (by omega)))
  go_wp2_with fail
  refine HC.out.mono ?_
  rintro e m5 ⟨q1, rfl, hq1, hq1b, hl⟩
  replace L0 := Lib.hid (L0.out.trans hl); replace T1 := Lib.hid (T1.out.later hl); replace T2 := Lib.hid (T2.out.later hl); replace R2 := Lib.hid (R2.out.later hl)
  clear hl HC R1
  by_cases h1 : q1 ≤ 200
  case neg =>
    have hd : decide ((200 : Int) < q1) = true := by simp; omega
    clear hq1
    have HC := Lib.hid (alive6_any m5)
    go_wp2_with fail
    refine HC.out.mono ?_
    rintro e m6 ⟨rfl, hl⟩
    replace L0 := Lib.hid (L0.out.trans hl)
    clear hl HC
    go_wp2
    go_ret
    exact ⟨rfl, L0.out⟩

  have hd : decide ((200 : Int) < q1) = false := by simp; omega
  have LA := Lib.hid (hq1.1 h1)
  clear hq1
  have HC := Lib.hid (long6_any v2 t2 m5 R2.out (by have := HFIT2.out.many; omega) (HFIT2.out.lines (by omega)))
  go_wp2_with fail
  refine HC.out.mono ?_
  rintro e m6 ⟨q2, rfl, hq2, hq2b, hl⟩
  replace L0 := Lib.hid (L0.out.trans hl); replace T1 := Lib.hid (T1.out.later hl); replace T2 := Lib.hid (T2.out.later hl)
  clear hl HC R2
  by_cases h2 : q2 ≤ 200
  case neg =>
    have hd2 : decide ((200 : Int) < q2) = true := by simp; omega
    clear hq2
    have HC := Lib.hid (alive6_any m6)
    go_wp2_with fail
    refine HC.out.mono ?_
    rintro e m7 ⟨rfl, hl⟩
    replace L0 := Lib.hid (L0.out.trans hl)
    clear hl HC
    go_wp2
    go_ret
    exact ⟨rfl, L0.out⟩

  have hd2 : decide ((200 : Int) < q2) = false := by simp; omega
  have LB := Lib.hid (hq2.1 h2)
  clear hq2
  have hN1 : t1.length ≤ 80 := by have := HFIT1.out.many; omega
  have hN2 : t2.length ≤ 80 := by have := HFIT2.out.many; omega
  have M1 := Lib.hid (HFIT1.out.mild); have M2 := Lib.hid (HFIT2.out.mild)
  have hlt : linesTr t1 ≤ 1000000 := lines_le LA.out hN1
  have HC := Lib.hid (many_any p B t1 m6 T1.out (by omega) hlt)
  go_wp2_with fail
  refine HC.out.mono ?_
  rintro e m7 ⟨rfl, hl⟩
  replace L0 := Lib.hid (L0.out.trans hl); replace T1 := Lib.hid (T1.out.later hl); replace T2 := Lib.hid (T2.out.later hl)
  clear hl HC
  have E1 := Lib.hid (trees_turned T1.out.files.rise T2.out.files.rise)
  have E2 : Hid (costP (treesP [] t1) = linesTr t1) := trees_from LA.out
  have E3 : Hid (costP (treesP t1 []) = linesTr t1) := trees_gone LA.out
  have HC := Lib.hid (alive6_any m7)
  go_wp2_with fail
  refine HC.out.mono ?_
  rintro e m8 ⟨rfl, hl⟩
  replace L0 := Lib.hid (L0.out.trans hl)
  replace T1 := Lib.hid (T1.out.later hl); replace T2 := Lib.hid (T2.out.later hl)
  clear hl HC
  have HC := Lib.hid (trees_any (.pointer (some ⟨p, 0, none⟩)) (.pointer (some ⟨q, 0, none⟩)) t1 t2 m8 (.inr ⟨p, B, rfl, T1.out⟩) (.inr ⟨q, D, rfl, T2.out⟩) hN1 hN2 M1.out M2.out LA.out LB.out)
  go_wp2_with fail
  refine HC.out.mono ?_
  rintro e m9 ⟨v5, xs5, rfl, ho, hv⟩
  obtain ⟨A5, c5, hs, -, hp⟩ := ho.row
  have hxl : xs5.length ≤ 48480 := by have := congrArg List.length hv; rw [valsP_length] at this; rw [this]; exact trees_length LA.out LB.out hN1 hN2
  have hcb := cost_ok hp.each
  subst hs
  replace L0 := Lib.hid (L0.out.trans ho.later); replace T1 := Lib.hid (T1.out.later ho.later); replace T2 := Lib.hid (T2.out.later ho.later)
  have HC := Lib.hid (cost_any A5 _ c5 xs5 m9 hp (by omega) (by omega))
  rw [hv] at HC
  clear ho hv hp hxl hcb
  go_wp2_with fail
  refine HC.out.mono ?_
  rintro e m10 ⟨rfl, hl⟩
  replace L0 := Lib.hid (L0.out.trans hl); replace T1 := Lib.hid (T1.out.later hl); replace T2 := Lib.hid (T2.out.later hl)
  clear hl HC
  have HC := Lib.hid (trees_any (.pointer (some ⟨q, 0, none⟩)) (.pointer (some ⟨p, 0, none⟩)) t2 t1 m10 (.inr ⟨q, D, rfl, T2.out⟩) (.inr ⟨p, B, rfl, T1.out⟩) hN2 hN1 M2.out M1.out LB.out LA.out)
  go_wp2_with fail
  refine HC.out.mono ?_
  rintro e m11 ⟨v6, xs6, rfl, ho, hv⟩
  obtain ⟨A6, c6, hs, -, hp⟩ := ho.row
  have hxl : xs6.length ≤ 48480 := by have := congrArg List.length hv; rw [valsP_length] at this; rw [this]; exact trees_length LB.out LA.out hN2 hN1
  have hcb := cost_ok hp.each
  subst hs
  replace L0 := Lib.hid (L0.out.trans ho.later); replace T1 := Lib.hid (T1.out.later ho.later); replace T2 := Lib.hid (T2.out.later ho.later)
  have HC := Lib.hid (cost_any A6 _ c6 xs6 m11 hp (by omega) (by omega))
  rw [hv] at HC
  clear ho hv hp hxl hcb
  rw [← E1.out] at HC
  go_wp2_with fail
  refine HC.out.mono ?_
  rintro e m12 ⟨rfl, hl⟩
  replace L0 := Lib.hid (L0.out.trans hl); replace T1 := Lib.hid (T1.out.later hl); replace T2 := Lib.hid (T2.out.later hl)
  clear hl HC
  have HC := Lib.hid (trees_any (.pointer none) (.pointer (some ⟨p, 0, none⟩)) [] t1 m12 (.inl ⟨rfl, rfl⟩) (.inr ⟨p, B, rfl, T1.out⟩) (by simp) hN1 (fun f hf => by cases hf) M1.out rfl LA.out)
  go_wp2_with fail
  refine HC.out.mono ?_
  rintro e m13 ⟨v7, xs7, rfl, ho, hv⟩
  obtain ⟨A7, c7, hs, -, hp⟩ := ho.row
  have hxl : xs7.length ≤ 48480 := by have := congrArg List.length hv; rw [valsP_length] at this; rw [this]; exact trees_length rfl LA.out (by simp) hN1
  have hcb := cost_ok hp.each
  subst hs
  replace L0 := Lib.hid (L0.out.trans ho.later); replace T1 := Lib.hid (T1.out.later ho.later); replace T2 := Lib.hid (T2.out.later ho.later)
  have HC := Lib.hid (cost_any A7 _ c7 xs7 m13 hp (by omega) (by omega))
  rw [hv] at HC
  clear ho hv hp hxl hcb
  rw [E2.out] at HC
  go_wp2_with fail
  refine HC.out.mono ?_
  rintro e m14 ⟨rfl, hl⟩
  replace L0 := Lib.hid (L0.out.trans hl); replace T1 := Lib.hid (T1.out.later hl); replace T2 := Lib.hid (T2.out.later hl)
  clear hl HC
  have HC := Lib.hid (trees_any (.pointer (some ⟨p, 0, none⟩)) (.pointer none) t1 [] m14 (.inr ⟨p, B, rfl, T1.out⟩) (.inl ⟨rfl, rfl⟩) hN1 (by simp) M1.out (fun f hf => by cases hf) LA.out rfl)
  go_wp2_with fail
  refine HC.out.mono ?_
  rintro e m15 ⟨v8, xs8, rfl, ho, hv⟩
  obtain ⟨A8, c8, hs, -, hp⟩ := ho.row
  have hxl : xs8.length ≤ 48480 := by have := congrArg List.length hv; rw [valsP_length] at this; rw [this]; exact trees_length LA.out rfl hN1 (by simp)
  have hcb := cost_ok hp.each
  subst hs
  replace L0 := Lib.hid (L0.out.trans ho.later); replace T1 := Lib.hid (T1.out.later ho.later); replace T2 := Lib.hid (T2.out.later ho.later)
  have HC := Lib.hid (cost_any A8 _ c8 xs8 m15 hp (by omega) (by omega))
  rw [hv] at HC
  clear ho hv hp hxl hcb
  rw [E3.out] at HC
  go_wp2_with fail
  refine HC.out.mono ?_
  rintro e m16 ⟨rfl, hl⟩
  replace L0 := Lib.hid (L0.out.trans hl); replace T1 := Lib.hid (T1.out.later hl); replace T2 := Lib.hid (T2.out.later hl)
  clear hl HC
  go_wp2
  go_ret
  exact ⟨rfl, L0.out⟩

end Go.Proofs.Ytbhnbkcokhfopaa
