import Derived.Test.YtbhnbkcokhfopaaPk17
import Derived.Test.YtbhnbkcokhfopaaPk18
import Derived.Deep.Cut
import Derived.Deep.LoopGhost
import Derived.Deep.QuietTactic
import Derived.BigQuiet
import Derived.Lib.Hide

/-
  What the law DiffCommon comes to, as a call.
-/
namespace Go.Proofs.Ytbhnbkcokhfopaa
open Go.RowKit Go.Maps

/-- Rising pairs at which the same line stands. -/
theorem rises_get {n m : Nat} : ∀ {L : List (Nat × Nat)} {i k j : Nat} {s : Nat × Nat}, Rises n m L i k → L[j]? = some s → i ≤ s.1 ∧ k ≤ s.2
  | [], _, _, _, _, _, h => by simp at h
  | x :: L, i, k, 0, s, hr, h => by simp at h; subst h; exact ⟨hr.1, hr.2.1⟩
  | x :: L, i, k, j + 1, s, hr, h => by
    have := rises_get (L := L) hr.2.2.2.2 (by simpa using h)
    have h1 := hr.1; have h2 := hr.2.1
    omega
theorem rises_two {n m : Nat} : ∀ {L : List (Nat × Nat)} {i k j : Nat} {s t : Nat × Nat}, Rises n m L i k → L[j]? = some s → L[j + 1]? = some t → s.1 < t.1 ∧ s.2 < t.2
  | [], _, _, _, _, _, _, h, _ => by simp at h
  | x :: L, i, k, 0, s, t, hr, h, h' => by
    simp at h; subst h
    have := rises_get (j := 0) hr.2.2.2.2 (by simpa using h')
    omega
  | x :: L, i, k, j + 1, s, t, hr, h, h' => rises_two (L := L) hr.2.2.2.2 (by simpa using h) (by simpa using h')
theorem pairs_get {a b : List ByteArray} {i k : Nat} {l : List (Nat × Nat)} (h : Pairs a b i k l) : ∀ {j : Nat} {s : Nat × Nat}, l[j]? = some s → s.1 < a.length ∧ s.2 < b.length ∧ a.getD s.1 ByteArray.empty = b.getD s.2 ByteArray.empty := by
  induction h with
  | nil _ => intro j s hs; simp at hs
  | cons _ _ h3 h4 h5 _ _ ih =>
    intro j s hs
    cases j with
    | zero => simp at hs; subst hs; exact ⟨h3, h4, h5⟩
    | succ j => exact ih (by simpa using hs)

set_option maxRecDepth 100000 in
set_option maxHeartbeats 3200000 in
theorem diffCommon_walk (A B : Option Addr) (n c m d : Nat) (la lb : List ByteArray) (w : World) (hx : Came w A n c la) (hy : Came w B m d lb) :
    Calls Try.prog 3 #[.slice A n c, .slice B m d] w fun e w' => e = .returned (.bool true) ∧ Later w w' := by
  have hrc := hx.room; have hrd := hy.room
  have HFW := Lib.hid (few6_any A B n c m d la lb w hx.row hy.row hx.most hy.most)
  have HX := Lib.hid hx; have HY := Lib.hid hy
  have hlx := hx.row.len; have hly := hy.row.len
  clear hx hy
  have HSX : Hid (∀ s ∈ la, s.size ≤ maxLen) := fun s hs => Nat.le_trans (HX.out.size s hs) (by decide)
  have HSY : Hid (∀ s ∈ lb, s.size ≤ maxLen) := fun s hs => Nat.le_trans (HY.out.size s hs) (by decide)
  have HLX := Lib.hid hlx; have HLY := Lib.hid hly
  clear hlx hly
  go_enter Try.func3, Try.ntmps3
  go_wp2_with fail
  refine HFW.out.mono ?_
  rintro e w1 ⟨b, rfl, hb, hl1⟩
  have L0 := Lib.hid hl1
  clear HFW hl1
  cases b
  · clear hb
    have HC := Lib.hid (alive6_any w1)
    go_wp2_with fail
    refine HC.out.mono ?_
    rintro e w2 ⟨rfl, hl2⟩
    have L2 := Lib.hid (L0.out.trans hl2)
    clear hl2 HC
    go_wp2
    go_ret
    exact ⟨rfl, L2.out⟩
  · obtain ⟨hn40, hm40⟩ := hb rfl
    clear hb
    have hall := common_all (a := la) (b := lb) (by rw [HLX.out]; omega) (by rw [HLY.out]; omega)
    have hris := common_rises (a := la) (b := lb) (by rw [HLX.out]; omega) (by rw [HLY.out]; omega)
    have HPR := Lib.hid hall.1; have HLC := Lib.hid hall.2; have HRI := Lib.hid hris
    clear hall hris
    have hle := common_length la lb
    have HC := Lib.hid (common_any A B n c m d la lb w1 (HX.out.row.later L0.out) (HY.out.row.later L0.out) (by omega) (by omega))
    go_wp2_with fail
    refine HC.out.mono ?_
    rintro e w2 ⟨v1, rfl, ho⟩
    obtain ⟨A1, c1, hs1, -, hr⟩ := ho.row
    rw [pairsV_length] at hs1 hr
    subst hs1
    have R1 := Lib.hid hr
    replace L0 := Lib.hid (L0.out.trans ho.later)
    clear ho hr HC
    have HC := Lib.hid (refCommon6_any A B n c m d la lb w2 (HX.out.row.later L0.out) (HY.out.row.later L0.out) (by omega) (by omega))
    go_wp2_with fail
    refine HC.out.mono ?_
    rintro e w3 ⟨v2, rfl, ho⟩
    obtain ⟨A2, c2, hs2, -, hr⟩ := ho.row
    rw [pairsV_length] at hs2 hr
    subst hs2
    have R2 := Lib.hid hr
    replace L0 := Lib.hid (L0.out.trans ho.later); replace R1 := Lib.hid (R1.out.later ho.later)
    clear ho hr HC
    have HC := Lib.hid (many6_any A B n c m d la lb w3 (HX.out.row.later L0.out) (HY.out.row.later L0.out) (by omega) (by omega))
    rw [← HLC.out] at HC
    generalize hQ : commonL la lb = Q at HC R1 R2 HPR HRI hle ⊢
    clear hQ HLC
    go_wp2_with fail
    refine HC.out.mono ?_
    rintro e w4 ⟨rfl, hl⟩
    replace L0 := Lib.hid (L0.out.trans hl); replace R1 := Lib.hid (R1.out.later hl); replace R2 := Lib.hid (R2.out.later hl)
    clear hl HC
    have hb0 : ((Q.length : Int) != (Q.length : Int)) = false := by simp
    go_wp2
    go_loopg [35] (Q.length + 1) (fun g s35 wr => ∃ k : Nat, k ≤ Q.length ∧ Q.length - k ≤ g ∧ s35 = .int .i64 (k : Nat) ∧ Hid (Later w4 wr))
    case atStart => exact ⟨0, Nat.zero_le _, by omega, rfl, Later.refl _⟩
    case round =>
      obtain ⟨k, hk, hg, rfl, hwr⟩ := hrel
      by_cases hlt : k < Q.length
      · have hr1 := R1.out.later hwr.out
        obtain ⟨b1, o1, hA1, -⟩ := hr1.2.2 (by omega)
        subst hA1
        have hr2 := R2.out.later hwr.out
        obtain ⟨b2, o2, hA2, -⟩ := hr2.2.2 (by omega)
        subst hA2
        obtain ⟨s, hs, p0, p1⟩ := hr1.pair hlt
        obtain ⟨s', hs', q0, q1⟩ := hr2.pair hlt
        obtain rfl : s = s' := Option.some.inj (hs.symm.trans hs')
        obtain ⟨hxa, hyb, hxy⟩ := pairs_get HPR.out hs
        rw [HLX.out] at hxa
        rw [HLY.out] at hyb
        obtain ⟨x, y⟩ := s
        dsimp only at p0 p1 q0 q1 hxa hyb hxy
        obtain ⟨ba, oa, rfl, d1⟩ := (HX.out.row.later (L0.out.trans hwr.out)).get (k := x) hxa
        obtain ⟨bb, ob, rfl, d2⟩ := (HY.out.row.later (L0.out.trans hwr.out)).get (k := y) hyb
        rw [hxy] at d1
        generalize lb.getD y ByteArray.empty = ln at d1 d2
        have hne : (ln.toList != ln.toList) = false := by simp
        cases k with
        | zero =>
          simp only [Nat.zero_mul, Nat.add_zero] at p0 p1 q0 q1
          rw [show ((0 : Nat) : Int) = 0 from rfl]
          go_upto_region 9 with fail
          have hlT : Later wr (wr.alloc (.cells #[.int .i64 (x : Nat), .int .i64 (y : Nat)] 31)) := (Later.refl wr).alloc _
          have bT : BoxAt (wr.alloc (.cells #[.int .i64 (x : Nat), .int .i64 (y : Nat)] 31)) wr.heap.size #[.int .i64 (x : Nat), .int .i64 (y : Nat)] 31 := BoxAt.made wr _ _
          replace q0 := hlT.cell q0; replace q1 := hlT.cell q1; replace d1 := hlT.cell d1; replace d2 := hlT.cell d2
          replace hwr := Lib.hid (hwr.out.trans hlT)
          clear p0 p1 hlT
          generalize (wr.alloc (.cells #[.int .i64 (x : Nat), .int .i64 (y : Nat)] 31)) = wT at bT q0 q1 d1 d2 hwr ⊢
          generalize wr.heap.size = gT at bT ⊢
          have r0 := bT.cell (i := 0) rfl; have r1 := bT.cell (i := 1) rfl
          simp only [List.getElem_toArray, List.getElem_cons_zero, List.getElem_cons_succ] at r0 r1
          clear bT
          go_wp2
          go_region
          go_wp2
          go_roundg (Q.length - (0 + 1))
          case measure => omega
          case rel => exact ⟨0 + 1, by omega, Nat.le_refl _, by go_num, hwr.out.trans (Later.refl _).drew⟩
        | succ k =>
          obtain ⟨t, ht, z0, z1⟩ := hr1.pair (j := k) (by omega)
          obtain ⟨hz1, hz2⟩ := rises_two (j := k) HRI.out (by rw [List.getElem?_append_left (by omega)]; exact ht) (by rw [List.getElem?_append_left (by omega)]; exact hs)
          obtain ⟨x0, y0⟩ := t
          dsimp only at z0 z1 hz1 hz2
          clear ht
          have hd1 : decide ((x : Int) ≤ (x0 : Int)) = false := by simp; omega
          have hd2 : decide ((y : Int) ≤ (y0 : Int)) = false := by simp; omega
          have hn1 : ¬ x ≤ x0 := by omega
          have hn2 : ¬ y ≤ y0 := by omega
          have hd3 : decide (x ≤ x0) = false := decide_eq_false hn1
          have hd4 : decide (y ≤ y0) = false := decide_eq_false hn2
          rw [show ((k + 1 : Nat) : Int) = (k : Int) + 1 from by omega]
          go_upto_region 9 with fail
          have hlT : Later wr (wr.alloc (.cells #[.int .i64 (x : Nat), .int .i64 (y : Nat)] 31)) := (Later.refl wr).alloc _
          have bT : BoxAt (wr.alloc (.cells #[.int .i64 (x : Nat), .int .i64 (y : Nat)] 31)) wr.heap.size #[.int .i64 (x : Nat), .int .i64 (y : Nat)] 31 := BoxAt.made wr _ _
          replace q0 := hlT.cell q0; replace q1 := hlT.cell q1; replace d1 := hlT.cell d1; replace d2 := hlT.cell d2
          replace z0 := hlT.cell z0; replace z1 := hlT.cell z1
          replace hwr := Lib.hid (hwr.out.trans hlT)
          clear p0 p1 hlT
          generalize (wr.alloc (.cells #[.int .i64 (x : Nat), .int .i64 (y : Nat)] 31)) = wT at bT q0 q1 d1 d2 z0 z1 hwr ⊢
          generalize wr.heap.size = gT at bT ⊢
          have r0 := bT.cell (i := 0) rfl; have r1 := bT.cell (i := 1) rfl
          simp only [List.getElem_toArray, List.getElem_cons_zero, List.getElem_cons_succ] at r0 r1
          clear bT
          go_wp2
          go_region
          go_wp2
          go_roundg (Q.length - (k + 1 + 1))
          case measure => omega
          case rel => exact ⟨k + 1 + 1, by omega, Nat.le_refl _, by go_num, hwr.out.trans (Later.refl _).drew⟩
      · have HC := Lib.hid (alive6_any wr)
        go_wp2_with fail
        refine HC.out.mono ?_
        rintro e w9 ⟨rfl, hl⟩
        have L9 := Lib.hid ((L0.out.trans hwr.out).trans hl)
        clear hl HC
        go_wp2
        go_ret
        exact ⟨rfl, L9.out⟩

end Go.Proofs.Ytbhnbkcokhfopaa
