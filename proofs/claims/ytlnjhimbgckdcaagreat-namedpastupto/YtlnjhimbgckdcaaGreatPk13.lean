import Derived.Test.YtlnjhimbgckdcaaGreatPk2
import Derived.Test.YtlnjhimbgckdcaaGreatPk12
import Derived.Test.YtlnjhimbgckdcaaGreatPk6
import Derived.Lib.SliceRun
import Derived.Deep.LoopGhost
import Derived.Deep.QuietTactic
import Derived.BigQuiet
import Derived.Lib.Hide
import Derived.Test.YtlnjhimbgckdcaaGreatPk9
import Derived.Test.YtlnjhimbgckdcaaGreatPk8
import Derived.Test.YtlnjhimbgckdcaaGreatPk7

/-
  More of patches as plain values: numbers that rise, told one by one; Past and Group, round by round. Nothing of any program.
-/
namespace Go.Proofs.YtlnjhimbgckdcaaGreat
open Go.RowKit

def wrongN (id last d : Int) : Bool := decide (d <= last) || !decide (1 <= d /\ d <= 1000000000) || decide (d = id)
def anyWrong (id : Int) : Int -> List Int -> Bool
  | _, [] => false
  | last, d :: r => wrongN id last d || anyWrong id d r
def lastN (l : List Int) (k : Nat) : Int := if k = 0 then 0 else l.getD (k - 1) 0

theorem anyWrong_rising (id : Int) : ∀ (l : List Int) (last : Int), anyWrong id last l = !((l.all fun d => decide (1 <= d /\ d <= 1000000000) && decide (d ≠ id)) && risingI l && (l.head?.all fun d => decide (last < d)))
  | [], last => by simp [anyWrong, risingI]
  | [d], last => by
    simp only [anyWrong, wrongN, risingI, List.all_cons, List.all_nil, List.head?_cons, Option.all_some, Bool.or_false, Bool.and_true]
    rw [Bool.eq_iff_iff]
    simp only [Bool.or_eq_true, Bool.not_eq_true', Bool.and_eq_false_iff, decide_eq_true_eq, decide_eq_false_iff_not]
    omega
  | d :: e :: r, last => by
    rw [anyWrong, anyWrong_rising id (e :: r) d]
    simp only [wrongN, risingI, List.all_cons, List.head?_cons, Option.all_some]
    generalize (r.all fun d => decide (1 <= d /\ d <= 1000000000) && decide (d ≠ id)) = A
    generalize risingI (e :: r) = B
    cases A <;> cases B <;> rw [Bool.eq_iff_iff] <;> simp <;> omega
theorem anyWrong_zero (id : Int) (l : List Int) : anyWrong id 0 l = !((l.all fun d => decide (1 <= d /\ d <= 1000000000) && decide (d ≠ id)) && risingI l) := by
  rw [anyWrong_rising]
  cases l with
  | nil => simp [risingI]
  | cons d r =>
    simp only [List.all_cons, List.head?_cons, Option.all_some]
    generalize (r.all fun d => decide (1 <= d /\ d <= 1000000000) && decide (d ≠ id)) = A
    generalize risingI (d :: r) = B
    cases A <;> cases B <;> rw [Bool.eq_iff_iff] <;> simp <;> omega
theorem anyWrong_at (id : Int) : ∀ (l : List Int) (last : Int), anyWrong id last l = true ↔ ∃ k d, l[k]? = some d /\ wrongN id (if k = 0 then last else l.getD (k - 1) 0) d = true
  | [], last => by simp [anyWrong]
  | d :: r, last => by
    rw [anyWrong, Bool.or_eq_true, anyWrong_at id r d]
    constructor
    · rintro (h | ⟨k, e, h1, h2⟩)
      · exact ⟨0, d, rfl, by simpa using h⟩
      · refine ⟨k + 1, e, by simpa using h1, ?_⟩
        cases k with
        | zero => simpa using h2
        | succ k => simpa using h2
    · rintro ⟨k, e, h1, h2⟩
      cases k with
      | zero => left; simp at h1; subst h1; simpa using h2
      | succ k =>
        right
        refine ⟨k, e, by simpa using h1, ?_⟩
        cases k with
        | zero => simpa using h2
        | succ k => simpa using h2
theorem rightN_parts (p : Pa) : rightN p = (decide (1 <= p.id /\ p.id <= 1000000000) && (rightB p.note && ((decide (p.deps.length <= 8) && !anyWrong p.id 0 p.deps) && (decide (1 <= p.l.length) && (decide (p.l.length <= 24) && p.l.all rightP))))) := by
  rw [anyWrong_zero, rightN]
  generalize (p.deps.all fun d => decide (1 <= d /\ d <= 1000000000) && decide (d ≠ p.id)) = A
  generalize risingI p.deps = B
  generalize p.l.all rightP = C
  generalize rightB p.note = E
  rw [show decide (1 <= p.l.length /\ p.l.length <= 24) = (decide (1 <= p.l.length) && decide (p.l.length <= 24)) from Bool.decide_and _ _]
  generalize decide (1 <= p.id /\ p.id <= 1000000000) = a
  generalize decide (p.deps.length <= 8) = b
  generalize decide (1 <= p.l.length) = c
  generalize decide (p.l.length <= 24) = d
  cases A <;> cases B <;> cases C <;> cases E <;> cases a <;> cases b <;> cases c <;> cases d <;> rfl

section
variable {ls : List Pa} {p q q' a b : Pa} {rest : List Pa} {j : Nat}
theorem pastN_step (h : pastN (ls.drop (j + 1)) q = some (q', rest)) (hp : ls[j]? = some p) (hs : swapN p q' = some (a, b)) : pastN (ls.drop j) q = some (a, b :: rest) := by
  obtain ⟨hj, rfl⟩ := List.getElem?_eq_some_iff.1 hp
  rw [List.drop_eq_getElem_cons hj]
  exact pastN_cons.2 ⟨q', rest, a, b, h, hs, rfl⟩
theorem pastN_none : ∀ (j : Nat) {ls : List Pa}, pastN (ls.drop j) q = none -> pastN ls q = none
  | 0, _, h => h
  | j + 1, [], h => h
  | j + 1, p :: ls, h => by
    have := pastN_none j (ls := ls) (by simpa using h)
    simp [pastN, this]
theorem pastN_stop (h : pastN (ls.drop (j + 1)) q = some (q', rest)) (hp : ls[j]? = some p) (hs : swapN p q' = none) : pastN ls q = none := by
  obtain ⟨hj, rfl⟩ := List.getElem?_eq_some_iff.1 hp
  refine pastN_none j ?_
  rw [List.drop_eq_getElem_cons hj]
  simp [pastN, h, hs]
theorem groupN_one (hp : ls[0]? = some p) : groupN (ls.take 1) = ([p], []) := by
  cases ls with
  | nil => simp at hp
  | cons x ls => simp at hp; subst hp; rfl
theorem groupN_step {k : Nat} (hp : ls[k]? = some p) (hk : 0 < k) : groupN (ls.take (k + 1)) = groupStep (groupN (ls.take k)) p := by
  obtain ⟨hj, rfl⟩ := List.getElem?_eq_some_iff.1 hp
  cases ls with
  | nil => simp at hj
  | cons x ls =>
    obtain ⟨m, rfl⟩ : ∃ m, k = m + 1 := ⟨k - 1, by omega⟩
    simp only [List.length_cons] at hj
    rw [List.take_succ_cons, List.take_succ_cons, groupN, groupN, List.take_succ_eq_append_getElem (by omega : m < ls.length), List.foldl_append]
    rfl
end

end Go.Proofs.YtlnjhimbgckdcaaGreat

/-
  What slices.Clone, Equal, Index and Contains at rows of numbers come to, as calls.
-/
namespace Go.Proofs.YtlnjhimbgckdcaaGreat
open Go.RowKit Go.Maps

def RowI (w : World) (A : Option Addr) (n : Nat) (l : List Int) : Prop := RowK 1 w A n (l.map numL)
section
variable {w w' : World} {A : Option Addr} {n : Nat} {l : List Int}
theorem RowI.len (h : RowI w A n l) : l.length = n := by have := RowK.len h; simpa using this
theorem RowI.later (h : RowI w A n l) (hl : Later w w') : RowI w' A n l := RowK.later h hl
theorem RowI.get (h : RowI w A n l) {j : Nat} (hj : j < n) : ∃ b o, A = some ⟨b, o, none⟩ /\ w.cell? ⟨b, o + j, none⟩ = some (.int .i64 (l.getD j 0)) := by
  obtain ⟨b, o, e, cs, hcs, _, hc⟩ := RowK.get h hj
  have hl : j < l.length := by rw [h.len]; exact hj
  have hz := List.getElem?_eq_getElem hl
  simp only [List.getElem?_map, hz, Option.map_some, Option.some.injEq] at hcs
  subst hcs
  have h0 := hc 0 _ rfl
  rw [Nat.mul_one, Nat.add_zero] at h0
  refine ⟨b, o, e, ?_⟩
  simp only [List.getD, hz, Option.getD_some]
  exact h0
theorem RowI.nil (h : RowI w none n l) : l = [] := by
  rcases Nat.eq_zero_or_pos n with h0 | h0
  · exact List.eq_nil_of_length_eq_zero (h.len.trans h0)
  · obtain ⟨_, _, e, _⟩ := RowK.get h h0; cases e
end
theorem memI_getD {l : List Int} {k : Nat} (h : k < l.length) : l.getD k 0 ∈ l := by
  simp only [List.getD, List.getElem?_eq_getElem h, Option.getD_some]
  exact List.getElem_mem h
theorem not_memI {l : List Int} {p : Int -> Prop} (h : ∀ j : Nat, j < l.length -> ¬ p (l.getD j 0)) : ¬ ∃ s ∈ l, p s := by
  rintro ⟨s, hs, hp⟩
  obtain ⟨j, hj, rfl⟩ := List.getElem_of_mem hs
  refine h j hj ?_
  simpa only [List.getD, List.getElem?_eq_getElem hj, Option.getD_some] using hp
theorem Tryz.intInfo : (Tryz.prog.info? 3).map (fun i => (i.zero, i.size, i.bytes)) = some (some (.int .i64 0), 1, 8) := by kernel_rfl

set_option maxHeartbeats 400000 in
theorem indexI_any (A : Option Addr) (n c : Nat) (l : List Int) (s : Int) (w : World) (hx : RowI w A n l) (hn : n <= 65536) (Q : Prop) (hQ : Q ↔ ∃ x ∈ l, s = x) :
    Calls Tryz.prog 62 #[.slice A n c, .int .i64 s] w (FindsAt Q w) := by
  have HX := Lib.hid hx; have HQ := Lib.hid hQ; clear hx hQ
  go_enter Tryz.func62, Tryz.ntmps62
  go_wp2
  go_loop [5, 8] (fun _ i => ∃ k : Nat, k <= n /\ i = .int .i64 k /\ Hid (∀ j : Nat, j < k -> ¬ s = (l.getD j 0))) (fun _ i => n - (intOf i).toNat)
  case atStart => exact ⟨0, Nat.zero_le _, rfl, fun j hj => absurd hj (Nat.not_lt_zero _)⟩
  case round =>
    obtain ⟨k, hk, rfl, hall⟩ := hrel
    by_cases hlt : k < n
    · obtain ⟨b1, o1, rfl, g1⟩ := HX.out.get hlt
      have hkl : k < l.length := by rw [HX.out.len]; exact hlt
      have HM := Lib.hid (memI_getD hkl)
      generalize hy : l.getD k 0 = y at g1 HM
      have HY := Lib.hid hy
      clear hkl hy
      by_cases he : s = y
      · subst he
        clear hall HY
        go_wp2
        go_ret
        exact ⟨⟨k, rfl, fun _ => HQ.out.2 ⟨s, HM.out, rfl⟩, fun _ => by omega⟩, rfl⟩
      · have HA : Hid (∀ j : Nat, j < k + 1 -> ¬ s = (l.getD j 0)) := fun j hj => by
          by_cases e : j = k
          · rw [e, HY.out]; exact he
          · exact hall.out j (by omega)
        clear hall HY HM
        have he' : ¬ y = s := fun e => he e.symm
        go_wp2
        exact ⟨⟨k + 1, by omega, by go_num, HA⟩, by simp [intOf]; omega⟩
    · have E : Hid (¬ ∃ x ∈ l, s = x) := not_memI fun j hj => hall.out j (by rw [HX.out.len] at hj; omega)
      clear hall
      go_wp2
      go_ret
      exact ⟨⟨-1, rfl, fun h => absurd h (by omega), fun h => absurd (HQ.out.1 h) E.out⟩, rfl⟩

theorem containsI_any (A : Option Addr) (n c : Nat) (l : List Int) (s : Int) (w : World) (hx : RowI w A n l) (hn : n <= 65536) :
    Calls Tryz.prog 46 #[.slice A n c, .int .i64 s] w fun e w' => e = .returned (.bool (decide (s ∈ l))) /\ w = w' := by
  have HI := Lib.hid (indexI_any A n c l s w hx hn (decide (s ∈ l) = true) (by simp))
  clear hx
  generalize decide (s ∈ l) = b at HI ⊢
  go_enter Tryz.func46, Tryz.ntmps46
  go_wp2_with fail
  refine HI.out.mono ?_
  rintro e w' ⟨⟨k, rfl, hk⟩, rfl⟩
  have e1 : decide (0 <= k) = b := by
    rw [Bool.eq_iff_iff, decide_eq_true_eq, hk]
  have E1 := Lib.hid e1
  clear e1 hk HI
  go_wp2
  go_ret
  refine ⟨?_, rfl⟩
  first | exact ret_bool E1.out | (rw [← E1.out]; rfl) | (rw [← E1.out]; simp)

theorem takeI {xs ys : List Int} {k : Nat} (hx : k < xs.length) (hy : k < ys.length) (h : xs.take k = ys.take k) (e : xs.getD k 0 = ys.getD k 0) : xs.take (k + 1) = ys.take (k + 1) := by
  simp only [List.getD, List.getElem?_eq_getElem hx, List.getElem?_eq_getElem hy, Option.getD_some] at e
  rw [List.take_succ_eq_append_getElem hx, List.take_succ_eq_append_getElem hy, h, e]

set_option maxHeartbeats 400000 in
theorem equalI_any (A B : Option Addr) (n c m d : Nat) (xs ys : List Int) (w : World) (hx : RowI w A n xs) (hy : RowI w B m ys) (hn : n <= 65536) (hm : m <= 65536) :
    Calls Tryz.prog 40 #[.slice A n c, .slice B m d] w (Says (decide (xs = ys)) w) := by
  by_cases hnm : n = m
  · subst hnm
    have HX := Lib.hid hx; clear hx
    have HY := Lib.hid hy; clear hy
    go_enter Tryz.func40, Tryz.ntmps40
    go_wp2
    go_loopg [13] n (fun g s13 wr => ∃ k q : Nat, k <= n /\ n - k <= g /\ s13 = .int .i64 k /\ wr = w.drewN q /\ Hid (xs.take k = ys.take k))
    case atStart => exact ⟨0, 0, Nat.zero_le _, by omega, rfl, rfl, by simp [Hid]⟩
    case round =>
      obtain ⟨k, q, hk, hg, rfl, rfl, heq⟩ := hrel
      by_cases hlt : k < n
      · obtain ⟨b1, o1, rfl, g1⟩ := HX.out.get hlt
        obtain ⟨b2, o2, rfl, g2⟩ := HY.out.get hlt
        generalize hxk : xs.getD k 0 = x at g1
        generalize hyk : ys.getD k 0 = y at g2
        have X := Lib.hid hxk; clear hxk
        have Y := Lib.hid hyk; clear hyk
        by_cases hxy : x = y
        · subst hxy
          go_wp2_with fail
          go_quiet (fail)
          go_wp2
          go_roundg (n - (k + 1))
          case measure => omega
          case rel => exact ⟨k + 1, _, by omega, by omega, by go_num, rfl, takeI (by rw [HX.out.len]; exact hlt) (by rw [HY.out.len]; exact hlt) heq.out (X.out.trans Y.out.symm)⟩
        · go_wp2_with fail
          go_quiet (fail)
          go_wp2
          go_ret
          refine ⟨?_, ((Later.refl w).drewN _).drewN _⟩
          rw [decide_eq_false (fun e => hxy (by rw [← X.out, ← Y.out, e]))]
          rfl
      · have hkn : k = n := by omega
        have e : xs = ys := by
          rw [hkn, List.take_of_length_le (by rw [HX.out.len]; omega), List.take_of_length_le (by rw [HY.out.len]; omega)] at heq
          exact heq.out
        have E := Lib.hid e; clear e heq
        go_wp2
        go_ret
        exact ⟨by rw [decide_eq_true E.out]; rfl, (Later.refl w).drewN _⟩
  · have e : ¬ xs = ys := by
      intro h; rw [h] at hx; exact hnm (hx.len.symm.trans hy.len)
    have E := Lib.hid e; clear e hx hy
    have hnm' : ¬ (n : Int) = (m : Int) := by omega
    go_enter Tryz.func40, Tryz.ntmps40
    go_wp2
    go_ret
    exact ⟨by rw [decide_eq_false E.out]; rfl, Later.refl w⟩

def OwnI (w0 w : World) (v : Value) (l : List Int) : Prop := OwnK 3 1 w0 w v (l.map numL)
theorem OwnK.empty {e : TypeId} {k : Nat} {w0 w : World} (h : Later w0 w) : OwnK e k w0 (w.alloc (.cells #[] e)) (.slice (some ⟨w.heap.size, 0, none⟩) 0 0) [] :=
  ⟨World.ownsRow_made w #[] 0 h.size (Nat.zero_le _) (by simp), (fun _ h => by cases h), h.alloc _⟩

set_option maxHeartbeats 400000 in
theorem cloneI_any (A : Option Addr) (n c : Nat) (l : List Int) (w : World) (hx : RowI w A n l) (hn : n <= 65536) :
    Calls Tryz.prog 50 #[.slice A n c] w fun e w' => ∃ v, e = .returned v /\ OwnI w w' v l := by
  have q29 : ∀ (w : World) (a : Option Addr) (n c n' c' : Nat), (binOp .eql 22 (.slice a n c) (.slice none n' c')).run Tryz.prog w = .ok (.bool a.isNone) w := fun w a n c n' c' => Lib.run_eql_slice_nil w _ _ a n c n' c' Tryz.underlying22
  cases A with
  | none =>
    have e := hx.nil
    subst e
    clear hx
    go_enter Tryz.func50, Tryz.ntmps50
    go_wp2
    go_ret
    exact ⟨_, rfl, OwnK.nil (Later.refl w)⟩
  | some a =>
    have HX := Lib.hid hx; clear hx
    obtain ⟨i0, hi, hz0, hz1, hz2⟩ := info_parts Tryz.intInfo
    go_enter Tryz.func50, Tryz.ntmps50
    go_wp2_with (at_builtin; refine wpList_append_rowK (w0 := w) rfl _ _ 22 rfl i0 _ 8 Tryz.underlying22 hi hz0 hz1 hz2 rfl (by decide) (OwnK.empty (Later.refl w)) rfl _ _ _ _ rfl (RowI.later HX.out ((Later.refl w).alloc _)) (by
      intro cs hcs u hu
      obtain ⟨d, _, rfl⟩ := List.mem_map.1 hcs
      simp only [numL, List.mem_cons, List.not_mem_nil, or_false] at hu
      subst hu; rfl) (by simp; omega) (by omega) ?_; intro v2 w2 hown2 hg2; have HO2 := Lib.hid hown2; clear hown2 hg2)
    go_ret
    exact ⟨_, rfl, by simpa [OwnI] using HO2.out⟩

end Go.Proofs.YtlnjhimbgckdcaaGreat

/-
  What named's numbers, with and dependsOn come to, as calls.
-/
namespace Go.Proofs.YtlnjhimbgckdcaaGreat
open Go.RowKit Go.Maps

theorem Tryz.patchSize : (Tryz.prog.info? 30).map (·.size) = some 4 := by kernel_rfl
theorem Tryz.patchInfo : (Tryz.prog.info? 30).map (fun i => (i.zero, i.size, i.bytes)) = some (some (.agg #[.int .i64 0, .string ByteArray.empty, .slice none 0 0, .slice none 0 0]), 4, 72) := by kernel_rfl
section
variable {w w' : World} {g : Nat} {t : TypeId}
theorem BoxAt.set4 {x0 x1 x2 x3 : Value} (h : BoxAt w g #[x0, x1, x2, x3] t) (v0 v1 v2 v3 : Value) : BoxAt ((((w.setCell ⟨g, 0, none⟩ v0).setCell ⟨g, 1, none⟩ v1).setCell ⟨g, 2, none⟩ v2).setCell ⟨g, 3, none⟩ v3) g #[v0, v1, v2, v3] t :=
  (((h.set 0 v0).set 1 v1).set 2 v2).set 3 v3
theorem turned_set4 (w : World) (g : Nat) (v0 v1 v2 v3 : Value) : Turned g w ((((w.setCell ⟨g, 0, none⟩ v0).setCell ⟨g, 1, none⟩ v1).setCell ⟨g, 2, none⟩ v2).setCell ⟨g, 3, none⟩ v3) :=
  (((turned_set w g 0 v0).trans (turned_set _ g 1 v1)).trans (turned_set _ g 2 v2)).trans (turned_set _ g 3 v3)
theorem OwnK.other {e : TypeId} {k : Nat} {w0 : World} {v : Value} {css : List (List Value)} (h : OwnK e k w0 w v css) (hg : Turned g w w') (hv : v.ownBlock ≠ some g) (hl : Later w0 w') : OwnK e k w0 w' v css :=
  ⟨h.1.kept hg (by
    cases hb : v.ownBlock with
    | none => exact .inl rfl
    | some b => right; rw [hb] at hv; exact hv), h.2.1, hl⟩
theorem OwnK.base {e : TypeId} {k : Nat} {w0 w1 : World} {v : Value} {css : List (List Value)} (h : OwnK e k w0 w v css) (hl : Later w1 w0) : OwnK e k w1 w v css :=
  ⟨by
    refine ⟨h.1.1, ?_⟩
    rcases h.1.2 with h1 | ⟨g, cap, cur, h1, h2, h3⟩
    · exact .inl h1
    · exact .inr ⟨g, cap, cur, h1, Nat.le_trans hl.le h2, h3⟩, h.2.1, hl.trans h.2.2⟩
end

theorem numbers_any (d : Int) (w : World) : Calls Tryz.prog 42 #[.int .i64 d] w fun e w' => e = .returned (.bool (decide (1 <= d /\ d <= 1000000000))) /\ w = w' := by
  by_cases h1 : 1 <= d
  · by_cases h2 : d <= 1000000000
    · rw [decide_eq_true (show 1 <= d /\ d <= 1000000000 from ⟨h1, h2⟩)]
      go_enter Tryz.func42, Tryz.ntmps42
      go_wp2
      go_ret
      exact ⟨rfl, rfl⟩
    · rw [decide_eq_false (fun h : 1 <= d /\ d <= 1000000000 => h2 h.2)]
      go_enter Tryz.func42, Tryz.ntmps42
      go_wp2
      go_ret
      exact ⟨rfl, rfl⟩
  · rw [decide_eq_false (fun h : 1 <= d /\ d <= 1000000000 => h1 h.1)]
    go_enter Tryz.func42, Tryz.ntmps42
    go_wp2
    go_ret
    exact ⟨rfl, rfl⟩

set_option maxRecDepth 100000 in
set_option maxHeartbeats 400000 in
theorem with_any (x : PaC) (L : Option Addr) (n c : Nat) (w : World) (hd : RowI w x.D x.nd x.v.deps) (hn : x.nd <= 65536) :
    Calls Tryz.prog 29 #[paV x, .slice L n c] w fun e w' => ∃ D cd, e = .returned (.agg #[.int .i64 x.v.id, .string x.v.note, .slice D x.v.deps.length cd, .slice L n c]) /\ OwnI w w' (.slice D x.v.deps.length cd) x.v.deps := by
  obtain ⟨⟨id, nt, deps, l⟩, D, nd, cd, L0, nl, cl, xs⟩ := x
  unfold paV
  dsimp only at hd hn ⊢
  have HX := Lib.hid hd
  clear hd
  go_enter Tryz.func29, Tryz.ntmps29
  go_wp2_with fail
  have hb0 : BoxAt ((w.alloc (.cells #[.int .i64 id, .string nt, .slice D nd cd, .slice L0 nl cl] 30)).alloc (.cells #[.int .i64 0, .string ⟨#[]⟩, .slice none 0 0, .slice none 0 0] 30)) w.heap.size #[.int .i64 id, .string nt, .slice D nd cd, .slice L0 nl cl] 30 := (BoxAt.made w _ _).alloc _
  have hb1 : BoxAt ((w.alloc (.cells #[.int .i64 id, .string nt, .slice D nd cd, .slice L0 nl cl] 30)).alloc (.cells #[.int .i64 0, .string ⟨#[]⟩, .slice none 0 0, .slice none 0 0] 30)) (w.heap.size + 1) #[.int .i64 0, .string ⟨#[]⟩, .slice none 0 0, .slice none 0 0] 30 := by
    have := BoxAt.made (w.alloc (.cells #[.int .i64 id, .string nt, .slice D nd cd, .slice L0 nl cl] 30)) #[.int .i64 0, .string ⟨#[]⟩, .slice none 0 0, .slice none 0 0] 30
    simpa using this
  have hlb : Later w ((w.alloc (.cells #[.int .i64 id, .string nt, .slice D nd cd, .slice L0 nl cl] 30)).alloc (.cells #[.int .i64 0, .string ⟨#[]⟩, .slice none 0 0, .slice none 0 0] 30)) := ((Later.refl w).alloc _).alloc _
  generalize (w.alloc (.cells #[.int .i64 id, .string nt, .slice D nd cd, .slice L0 nl cl] 30)).alloc (.cells #[.int .i64 0, .string ⟨#[]⟩, .slice none 0 0, .slice none 0 0] 30) = wb at hb0 hb1 hlb ⊢
  have hlt := hb1.lt
  refine (cloneI_any D nd cd deps wb (HX.out.later hlb) hn).mono ?_
  rintro e w1 ⟨u, rfl, hu⟩
  obtain ⟨A1, c1, hv1, hcc1, hr1⟩ := OwnK.row hu
  simp only [List.length_map] at hv1
  subst hv1
  have hul : Later wb w1 := OwnK.later hu
  have hub : ∀ b, (Value.slice A1 deps.length c1).ownBlock = some b -> wb.heap.size <= b := OwnK.block hu
  have b0 := hb0.later hul
  have b1 := hb1.later hul
  have c2 := b0.cell (i := 2) rfl; have f2 := b0.frozen 2
  have b0' := b0.set 2 (.slice A1 deps.length c1)
  have t1 := turned_set w1 w.heap.size 2 (.slice A1 deps.length c1)
  have b1' := b1.other t1 (by omega)
  have c3 := b0'.cell (i := 3) rfl; have f3 := b0'.frozen 3
  have t2 := turned_set (w1.setCell ⟨w.heap.size, 2, none⟩ (.slice A1 deps.length c1)) w.heap.size 3 (.slice L n c)
  have d0 := b0'.set 3 (.slice L n c)
  have d1 := b1'.other t2 (by omega)
  have hl1 := (hlb.trans hul).turn t1 (Nat.le_refl _)
  have hl2 := hl1.turn t2 (Nat.le_refl _)
  have HO := Lib.hid (OwnK.other (OwnK.other (OwnK.base hu hlb) t1 (fun e => by have := hub _ e; omega) hl1) t2 (fun e => by have := hub _ e; omega) hl2)
  have HUB := Lib.hid hub; have HL2 := Lib.hid hl2
  clear hb0 hb1 hu b0 b1 b0' b1' hr1 hcc1 t1 t2 hl1 hl2 hub
  have x0 := d0.cell (i := 0) rfl; have x1 := d0.cell (i := 1) rfl; have x2 := d0.cell (i := 2) rfl; have x3 := d0.cell (i := 3) rfl
  have y0 := d1.cell (i := 0) rfl; have y1 := d1.cell (i := 1) rfl; have y2 := d1.cell (i := 2) rfl; have y3 := d1.cell (i := 3) rfl
  have z0 := d1.frozen 0; have z1 := d1.frozen 1; have z2 := d1.frozen 2; have z3 := d1.frozen 3
  have HD1 := Lib.hid d1
  clear d0 d1
  go_wp2
  have hset := turned_set4 ((w1.setCell ⟨w.heap.size, 2, none⟩ (.slice A1 deps.length c1)).setCell ⟨w.heap.size, 3, none⟩ (.slice L n c)) (w.heap.size + 1) (.int .i64 id) (.string nt) (.slice A1 deps.length c1) (.slice L n c)
  refine bodyPost_ret (results_cell_row rfl _ _ (w.heap.size + 1) 30 _ (0, 0) _ rfl (HD1.out.set4 (.int .i64 id) (.string nt) (.slice A1 deps.length c1) (.slice L n c)) Tryz.underlying30 rfl Tryz.patchSize) rfl ?_
  exact ⟨A1, c1, rfl, OwnK.other HO.out hset (fun e => by have := HUB.out _ e; omega) (HL2.out.turn hset (by omega))⟩

set_option maxRecDepth 100000 in
set_option maxHeartbeats 400000 in
theorem dependsOn_any (x y : PaC) (w : World) (hx : PaOk w x) :
    Calls Tryz.prog 27 #[paV x, paV y] w (Says (decide (y.v.id ∈ x.v.deps)) w) := by
  have hlb : Later w ((w.alloc (.cells #[.int .i64 x.v.id, .string x.v.note, .slice x.D x.nd x.cd, .slice x.L x.nl x.cl] 30)).alloc (.cells #[.int .i64 y.v.id, .string y.v.note, .slice y.D y.nd y.cd, .slice y.L y.nl y.cl] 30)) := ((Later.refl w).alloc _).alloc _
  have HC := Lib.hid (containsI_any x.D x.nd x.cd x.v.deps y.v.id _ (RowK.later hx.deps hlb) hx.dmost)
  have HL := Lib.hid hlb
  clear hx hlb
  unfold paV
  generalize decide (y.v.id ∈ x.v.deps) = b at HC ⊢
  go_enter Tryz.func27, Tryz.ntmps27
  go_wp2_with fail
  refine HC.out.mono ?_
  rintro e w' ⟨rfl, rfl⟩
  go_wp2
  go_ret
  exact ⟨rfl, HL.out⟩

end Go.Proofs.YtlnjhimbgckdcaaGreat

/-
  Operations over patches, in a region that draws its order.
-/
namespace Go.Proofs.YtlnjhimbgckdcaaGreat
open Go.RowKit Go.Maps

section
variable {ops : Array Oper} {Q : Exit -> Act -> World -> Prop} {K : Act -> World -> Prop} {i : Nat} {dst : Option Tmp} {js : List Nat} {a : Act} {w w0 : World}
theorem OpIs.loadA {ty : TypeId} {k : Tmp} {g : Nat} {x : PaC} {t : TypeId} {fs : Array Field} (h : OpIs ops i (.load ty (.tmp k)) dst js) (hu : Tryz.prog.underlying ty = some (.struct fs)) (hi : (Tryz.prog.info? ty).map (·.size) = some 4)
    (he : a.eval (.tmp k) = .pointer (some ⟨g, 0, none⟩)) (hb : BoxAt w g (paL x).toArray t) (hk : K (a.put dst (paV x)) w) : wpOp Tryz.prog ops Q i K a w :=
  h.go fun o h1 h2 => by
    refine wp_load_row ty (.tmp k) h1 g he t (paL x).toArray (0, 0) _ hb hu rfl hi ?_
    rw [h2]
    exact hk
theorem OpIs.storeA {j k : Tmp} {T t : TypeId} {g : Nat} {x : PaC} {cs : Array Value} (h : OpIs ops i (.store T (.tmp j) (.tmp k)) none js) (hi : (Tryz.prog.info? T).map (·.size) = some 4) (hj : a.eval (.tmp j) = .pointer (some ⟨g, 0, none⟩)) (hv : a.eval (.tmp k) = paV x) (hb : BoxAt w g cs t) (hs : cs.size = 4)
    (hk : ∀ w', BoxAt w' g (paL x).toArray t -> Turned g w w' -> K a w') : wpOp Tryz.prog ops Q i K a w :=
  h.go fun o h1 h2 => by
    match cs, hs with
    | ⟨[x0, x1, x2, x3]⟩, _ =>
      have y0 : w.cell? ⟨g, 0, none⟩ = some x0 := hb.cell rfl
      have y1 : w.cell? ⟨g, 1, none⟩ = some x1 := hb.cell rfl
      have y2 : w.cell? ⟨g, 2, none⟩ = some x2 := hb.cell rfl
      have y3 : w.cell? ⟨g, 3, none⟩ = some x3 := hb.cell rfl
      have hth : w.there g 0 4 := by
        intro r hr
        refine ⟨?_, hb.frozen _⟩
        match r, hr with
        | 0, _ => rw [Nat.add_zero, y0]; rfl
        | 1, _ => rw [Nat.zero_add, y1]; rfl
        | 2, _ => rw [Nat.zero_add, y2]; rfl
        | 3, _ => rw [Nat.zero_add, y3]; rfl
      refine wp_store_mid T (.tmp j) (.tmp k) h1 g 0 (paL x).toArray hj (hv.trans (paV_is x)) hth hi (paL_one x) ?_
      rw [h2, put_none]
      exact hk _ (hb.set4 _ _ _ _) (turned_set4 w g _ _ _ _)
theorem OpIs.loadV1 {k : Tmp} {g : Nat} {v : Value} {t : TypeId} (h : OpIs ops i (.load 40 (.tmp k)) dst js) (he : a.eval (.tmp k) = .pointer (some ⟨g, 0, none⟩)) (hb : BoxAt w g #[v] t) (hk : K (a.put dst v) w) : wpOp Tryz.prog ops Q i K a w :=
  h.go fun o h1 h2 => by
    have hc := hb.cell (i := 0) rfl
    have hr : (execOp a.eval o).run Tryz.prog w = .ok (.value v) w := by
      clear hb hk
      unfold execOp
      rw [h1]
      dsimp only
      rw [he]
      go_simp
    unfold Oper.wp
    rw [hr]
    show K _ _
    rw [h2]
    exact hk
theorem OpIs.storeV1 {j k : Tmp} {g : Nat} {A : Option Addr} {n c : Nat} {u : Value} {t : TypeId} (h : OpIs ops i (.store 40 (.tmp j) (.tmp k)) none js) (hj : a.eval (.tmp j) = .pointer (some ⟨g, 0, none⟩)) (hv : a.eval (.tmp k) = .slice A n c) (hb : BoxAt w g #[u] t)
    (hk : ∀ w', BoxAt w' g #[.slice A n c] t -> Turned g w w' -> K a w') : wpOp Tryz.prog ops Q i K a w :=
  h.go fun o h1 h2 => by
    have hc := hb.cell (i := 0) rfl
    have hf := hb.frozen 0
    have hb' := hb.set 0 (.slice A n c)
    have ht := turned_set w g 0 (.slice A n c)
    have hr : (execOp a.eval o).run Tryz.prog w = .ok .skip (w.setCell ⟨g, 0, none⟩ (.slice A n c)) := by
      clear hb hb' ht hk
      unfold execOp
      rw [h1]
      dsimp only
      rw [hj, hv]
      go_simp
    unfold Oper.wp
    rw [hr]
    show K _ _
    rw [h2]
    exact hk _ hb' ht
theorem OpIs.assignB {b : Bool} (h : OpIs ops i (.assign (.const (.bool b))) dst js) (hk : K (a.put dst (.bool b)) w) : wpOp Tryz.prog ops Q i K a w :=
  h.go fun o h1 h2 => by
    unfold Oper.wp execOp
    rw [h1]
    simp only [Sem.run_pure]
    show K _ _
    rw [h2]
    exact hk
theorem made_zeroN (n : Nat) : (madeCells (Value.agg #[.int .i64 0, .string ByteArray.empty, .slice none 0 0, .slice none 0 0]).cells (n * 4)).toList = ((List.replicate n zeroN).map paL).flatten := by
  have hk : ∀ cs ∈ (List.replicate n zeroN).map paL, cs.length = 4 := by
    intro cs hcs
    obtain ⟨y, _, rfl⟩ := List.mem_map.1 hcs
    rfl
  refine List.ext_getElem? fun j => ?_
  rcases Nat.lt_or_ge j (n * 4) with hj | hj
  · have hq : j / 4 < n := by omega
    have hat := flat_at (j := j / 4) (i := j % 4) hk (cs := paL zeroN) (by simp [hq]) (Nat.mod_lt _ (by decide))
    rw [show j / 4 * 4 + j % 4 = j by omega] at hat
    rw [hat]
    have h6 : j % 4 = 0 ∨ j % 4 = 1 ∨ j % 4 = 2 ∨ j % 4 = 3 := by omega
    simp only [madeCells, Value.cells]
    rcases h6 with h | h | h | h <;> simp [hj, h, paL, zeroN, zeroPa]
  · rw [List.getElem?_eq_none (by simp [madeCells]; exact hj), List.getElem?_eq_none (by rw [flat_length hk]; simpa using hj)]
theorem OpIs.lenN {k : Tmp} {A : Option Addr} {n c : Nat} (h : OpIs ops i (.call { callee := .builtin .len, args := #[.tmp k], argTypes := #[40] }) dst js) (he : a.eval (.tmp k) = .slice A n c) (hk : K (a.put dst (.int .i64 n)) w) : wpOp Tryz.prog ops Q i K a w :=
  h.go fun o h1 h2 => by
    have hr : (execOp a.eval o).run Tryz.prog w = .ok (.value (.int .i64 n)) w := by
      unfold execOp
      rw [h1]
      simp only [resolve, invoke, builtin, Sem.run_bind, List.map_toArray, List.map_cons, List.map_nil, he]
      go_simp
    unfold Oper.wp
    rw [hr]
    show K _ _
    rw [h2]
    exact hk
theorem OpIs.makeN {j k : Tmp} {n : Nat} (h : OpIs ops i (.makeSlice 40 (.tmp j) (.tmp k)) dst js) (hj : a.eval (.tmp j) = .int .i64 n) (hk' : a.eval (.tmp k) = .int .i64 n) (hn : n <= 1000000) (hl : Later w0 w)
    (hk : ∀ w', OwnNs 30 w0 w' (.slice (some ⟨w.heap.size, 0, none⟩) n n) (List.replicate n zeroN) -> Later w w' -> K (a.put dst (.slice (some ⟨w.heap.size, 0, none⟩) n n)) w') : wpOp Tryz.prog ops Q i K a w :=
  h.go fun o h1 h2 => by
    obtain ⟨i0, hi, hz0, hz1, hz2⟩ := info_parts Tryz.patchInfo
    obtain ⟨w', hrun, r1, r2⟩ := run_make_full (P := Tryz.prog) w w0.heap.size 40 30 i0 _ 4 Tryz.underlying40 hi hz0 hz1 .i64 .i64 n (by rw [hz2]; omega) (by simp only [maxLen]; omega) hl.le
    have hlw : Later w w' := ⟨r2.os, r2.tape, r2.output, r2.size, fun i hi => r2.block i hi (by simp)⟩
    unfold Oper.wp execOp
    simp only [h1, hj, hk', hrun, Sem.run_bind, Sem.run_pure, Result.andThen_ok]
    show K _ _
    rw [h2]
    rw [made_zeroN] at r1
    refine hk w' ⟨⟨by simpa using r1, fun cs hcs => ?_, hl.trans hlw⟩, fun x hx => ?_, fun x hx g _ => ?_⟩ hlw
    · obtain ⟨y, _, rfl⟩ := List.mem_map.1 hcs
      rfl
    · rw [List.eq_of_mem_replicate hx]; exact zeroN_ok _
    · rw [List.eq_of_mem_replicate hx]; exact zeroN_away g
theorem OpIs.indexN {j k : Tmp} {g o n c m : Nat} (h : OpIs ops i (.indexAddr 40 (.tmp j) (.tmp k)) dst js) (hj : a.eval (.tmp j) = .slice (some ⟨g, o, none⟩) n c) (hk' : a.eval (.tmp k) = .int .i64 (m : Nat)) (hm : m < n) (hk : K (a.put dst (.pointer (some ⟨g, o + m * 4, none⟩))) w) : wpOp Tryz.prog ops Q i K a w :=
  h.go fun op h1 h2 => by
    have hr : (execOp a.eval op).run Tryz.prog w = .ok (.value (.pointer (some ⟨g, o + m * 4, none⟩))) w := by
      unfold execOp
      rw [h1]
      dsimp only
      rw [hj, hk']
      go_simp
    unfold Oper.wp
    rw [hr]
    show K _ _
    rw [h2]
    exact hk
theorem OpIs.storeNs {j k : Tmp} {T e : TypeId} {g o n c m : Nat} {xs : List PaC} {x : PaC} (h : OpIs ops i (.store T (.tmp j) (.tmp k)) none js) (hi : (Tryz.prog.info? T).map (·.size) = some 4) (hj : a.eval (.tmp j) = .pointer (some ⟨g, o + m * 4, none⟩)) (hv : a.eval (.tmp k) = paV x)
    (hown : OwnNs e w0 w (.slice (some ⟨g, o, none⟩) n c) xs) (hin : m < n) (hx : PaOk w x) (ha : AwayN g x) (hk : ∀ w', OwnNs e w0 w' (.slice (some ⟨g, o, none⟩) n c) (xs.set m x) -> Turned g w w' -> K a w') : wpOp Tryz.prog ops Q i K a w :=
  h.go fun op h1 h2 => by
    obtain ⟨b', o', q, hA, hz, hok, g0, g1, g2, g3⟩ := hown.ns.get hin
    cases hA
    have hth : w.there g (o + m * 4) 4 := by
      intro r hr
      refine ⟨?_, hown.frozen _⟩
      match r, hr with
      | 0, _ => rw [Nat.add_zero, g0]; rfl
      | 1, _ => rw [g1]; rfl
      | 2, _ => rw [g2]; rfl
      | 3, _ => rw [g3]; rfl
    refine wp_store_mid T (.tmp j) (.tmp k) h1 g (o + m * 4) (paL x).toArray hj (hv.trans (paV_is x)) hth hi (paL_one x) ?_
    rw [h2, put_none]
    exact hk _ (hown.set hin x hx ha) (turned_sets4 w g o m _ _ _ _)
end

end Go.Proofs.YtlnjhimbgckdcaaGreat

/-
  What named's Clone comes to, as a call.
-/
namespace Go.Proofs.YtlnjhimbgckdcaaGreat
open Go.RowKit Go.Maps

theorem with_ok {w w1 w2 : World} {x : PaC} {D L : Option Addr} {cd n c : Nat} {ys : List PrC} (hx : PaOk w x) (hl : Later w w1) (ho : OwnPs 58 w w1 (.slice L n c) ys) (hn : n <= 30000) (hf : ∀ y ∈ ys, Fresh w y) (hd : OwnI w1 w2 (.slice D x.v.deps.length cd) x.v.deps) :
    ∃ y : PaC, .agg #[.int .i64 x.v.id, .string x.v.note, .slice D x.v.deps.length cd, .slice L n c] = paV y /\ y.v = { x.v with l := valsP ys } /\ PaOk w2 y /\ FreshN w y := by
  have hlen : x.v.deps.length = x.nd := by have := hx.deps.len; simpa using this
  obtain ⟨A1, c1, hv1, hcc, hr⟩ := OwnK.row hd
  simp only [List.length_map] at hv1 hcc hr
  cases hv1
  have hl2 : Later w1 w2 := OwnK.later hd
  obtain ⟨A2, c2, hv2, hcc2, hr2⟩ := (ho.on hl2).row
  have hsz := ho.size
  rw [hsz] at hv2 hcc2 hr2
  cases hv2
  exact ⟨⟨{ x.v with l := valsP ys }, D, x.v.deps.length, cd, L, n, c, ys⟩, rfl, rfl, ⟨hr, hr2, rfl, hcc, hcc2, by rw [hlen]; exact hx.dmost, hn, hx.note, hx.lo, hx.hi, hx.dlo, hx.dhi⟩, ⟨fun k hk => Nat.le_trans hl.le (OwnK.block hd k hk), ho.block, hf⟩⟩

set_option maxRecDepth 100000 in
set_option maxHeartbeats 800000 in
theorem clone7_any (x : PaC) (w : World) (hx : PaOk w x) :
    Calls Tryz.prog 23 #[paV x] w fun e w' => ∃ y : PaC, e = .returned (paV y) /\ y.v = x.v /\ PaOk w' y /\ FreshN w y /\ Later w w' := by
  obtain ⟨p, Dx, nd, cdx, Lx, nl, clx, xs⟩ := x
  have hb0 : BoxAt ((w.alloc (.cells #[.int .i64 p.id, .string p.note, .slice Dx nd cdx, .slice Lx nl clx] 30)).alloc (.cells #[.int .i64 0, .string ⟨#[]⟩, .slice none 0 0, .slice none 0 0] 30)) w.heap.size (paL (⟨p, Dx, nd, cdx, Lx, nl, clx, xs⟩ : PaC)).toArray 30 := (BoxAt.made w (paL (⟨p, Dx, nd, cdx, Lx, nl, clx, xs⟩ : PaC)).toArray 30).alloc _
  have hb1 : BoxAt ((w.alloc (.cells #[.int .i64 p.id, .string p.note, .slice Dx nd cdx, .slice Lx nl clx] 30)).alloc (.cells #[.int .i64 0, .string ⟨#[]⟩, .slice none 0 0, .slice none 0 0] 30)) (w.heap.size + 1) #[.int .i64 0, .string ⟨#[]⟩, .slice none 0 0, .slice none 0 0] 30 := by
    have := BoxAt.made (w.alloc (.cells #[.int .i64 p.id, .string p.note, .slice Dx nd cdx, .slice Lx nl clx] 30)) #[.int .i64 0, .string ⟨#[]⟩, .slice none 0 0, .slice none 0 0] 30
    rw [World.size_alloc] at this
    exact this
  have hlb : Later w ((w.alloc (.cells #[.int .i64 p.id, .string p.note, .slice Dx nd cdx, .slice Lx nl clx] 30)).alloc (.cells #[.int .i64 0, .string ⟨#[]⟩, .slice none 0 0, .slice none 0 0] 30)) := ((Later.refl w).alloc _).alloc _
  have HX := Lib.hid hx; have HXB := Lib.hid (hx.later hlb); have HB0 := Lib.hid hb0; have HB1 := Lib.hid hb1; have HLB := Lib.hid hlb
  obtain ⟨i0, hi, hz0, hz1, hz2⟩ := info_parts Tryz.primInfo
  have hm := hx.lmost
  clear hx hb0 hb1 hlb
  dsimp only at hm ⊢
  unfold paV
  dsimp only
  go_enter Tryz.func23, Tryz.ntmps23
  go_wp2
  generalize ((w.alloc (.cells #[.int .i64 p.id, .string p.note, .slice Dx nd cdx, .slice Lx nl clx] 30)).alloc (.cells #[.int .i64 0, .string ⟨#[]⟩, .slice none 0 0, .slice none 0 0] 30)) = wb at HXB HB0 HB1 HLB ⊢
  go_loopg [3, 9] (nl + 1) (fun g s3 s9 wr => ∃ (k : Nat) (v : Value) (ys : List PrC), k <= nl /\ nl - k <= g /\ s9 = .int .i64 k /\ s3 = v /\ ys.length = k /\ Hid (valsP ys = (valsP xs).take k) /\ Hid (OwnPs 58 wb wr v ys) /\ Hid (∀ y ∈ ys, Fresh wb y))
  case atStart => exact ⟨0, _, [], Nat.zero_le _, by omega, rfl, rfl, rfl, by simp [Hid, valsP], OwnPs.nil (Later.refl wb), fun y hy => by cases hy⟩
  case round =>
    obtain ⟨k, v, ys, hk, hg, rfl, hv, hyl, hys, hown, hfr⟩ := hrel
    obtain rfl := hv.symm
    clear hv
    by_cases hlt : k < nl
    · obtain ⟨b, o, q, hL, hz, hok, g0, g1, g2, g3, g4, g5⟩ := (HXB.out.row.later hown.out.later).get hlt
      have HLQ : Hid (Later wr (wr.alloc (.cells #[.int .i64 q.v.kind, .string q.v.name, .string q.v.to, .int .i64 q.v.place, .slice q.A q.n q.c, .slice q.B q.m q.d] 58))) := (Later.refl wr).alloc _
      have HC := Lib.hid (cloneP_any q _ (hok.later HLQ.out))
      have HTK := Lib.hid (valsP_take hz)
      clear hok hz
      unfold prV at HC
      subst hL
      go_wp2_with fail
      refine HC.out.mono ?_
      rintro e w2 ⟨y, rfl, hy, hoky, hfry, hl2⟩
      have HL2 := Lib.hid hl2; have HVY := Lib.hid hy; have HOK := Lib.hid hoky; have HFY := Lib.hid (hfry.base (hown.out.later.trans HLQ.out))
      have HO1 := Lib.hid ((hown.out.on HLQ.out).on hl2 |>.on ((Later.refl w2).alloc (.cells #[.int .i64 y.v.kind, .string y.v.name, .string y.v.to, .int .i64 y.v.place, .slice y.A y.n y.c, .slice y.B y.m y.d] 58)))
      have HAW : Hid (∀ z ∈ [y], ∀ g, v.ownBlock = some g -> Away g z) := by
        intro z hz g hgb
        simp at hz; subst hz
        have h1 := hown.out.lt g hgb
        have h2 := HLQ.out.le
        exact hfry.away (by omega)
      clear hl2 hy hoky hfry HC g0 g1 g2 g3 g4 g5
      go_wp2_with (at_builtin; refine wpList_append_ps rfl _ _ 28 rfl i0 _ 96 Tryz.underlying28 hi hz0 hz1 hz2 rfl HO1.out rfl _ _ _ [y] rfl (row_one _ _ _) (fun z hz => by simp at hz; subst hz; exact HOK.out.later6 _) HAW.out (by omega) (by omega) ?_; intro v4 w4 hown4 hg4; have HO4 := Lib.hid hown4; clear hown4 hg4)
      go_roundg (nl - (k + 1))
      case measure => omega
      case rel =>
        exact ⟨k + 1, v4, ys ++ [y], by omega, Nat.le_refl _, by go_num, rfl, by simp; omega, by show valsP (ys ++ [y]) = _; rw [HTK.out, ← hys.out, ← HVY.out]; simp [valsP], HO4, fun z hz => by
          rcases List.mem_append.1 hz with h | h
          · exact hfr.out z h
          · simp at h; subst h; exact HFY.out⟩
    · have HE : Hid (valsP ys = valsP xs) := by
        have := hys.out
        have hrl : xs.length = nl := HXB.out.row.len
        rw [List.take_of_length_le (by rw [valsP_length, hrl]; omega)] at this
        exact this
      obtain ⟨L, c, hv, hcc, hr⟩ := hown.out.row
      rw [hyl] at hv
      subst hv
      have HW := Lib.hid (with_any (⟨p, Dx, nd, cdx, Lx, nl, clx, xs⟩ : PaC) L k c wr (RowK.later HXB.out.deps hown.out.later) HXB.out.dmost)
      have HOW := Lib.hid hown.out
      have B0 := Lib.hid (HB0.out.later hown.out.later)
      have B1 := Lib.hid (HB1.out.later hown.out.later)
      have q0 : wr.cell? ⟨w.heap.size, 0, none⟩ = some (.int .i64 p.id) := B0.out.cell rfl
      have q1 : wr.cell? ⟨w.heap.size, 1, none⟩ = some (.string p.note) := B0.out.cell rfl
      have q2 : wr.cell? ⟨w.heap.size, 2, none⟩ = some (.slice Dx nd cdx) := B0.out.cell rfl
      have q3 : wr.cell? ⟨w.heap.size, 3, none⟩ = some (.slice Lx nl clx) := B0.out.cell rfl
      unfold paV at HW
      dsimp only at HW
      clear hown hr hcc
      go_wp2_with fail
      refine HW.out.mono ?_
      rintro e w2 ⟨D, cd, rfl, hd⟩
      obtain ⟨y, hyv, hy1, hy2, hy3⟩ := with_ok (x := (⟨p, Dx, nd, cdx, Lx, nl, clx, xs⟩ : PaC)) HXB.out HOW.out.later HOW.out (by omega) hfr.out hd
      have hl2 : Later wr w2 := OwnK.later hd
      have b1 := B1.out.later hl2
      have hlt1 := B1.out.lt
      have y0 := b1.cell (i := 0) rfl; have y1 := b1.cell (i := 1) rfl; have y2 := b1.cell (i := 2) rfl; have y3 := b1.cell (i := 3) rfl
      have z0 := b1.frozen 0; have z1 := b1.frozen 1; have z2 := b1.frozen 2; have z3 := b1.frozen 3
      have HY1 := Lib.hid hy1; have HY2 := Lib.hid hy2; have HY3 := Lib.hid hy3; have HYV := Lib.hid hyv; have HB2 := Lib.hid b1; have HLW := Lib.hid ((HLB.out.trans HOW.out.later).trans hl2)
      have hsb := HB1.out.lt
      clear hd hl2 b1 hy1 hy2 hy3 hyv HW q0 q1 q2 q3
      go_wp2
      have hset := turned_set4 w2 (w.heap.size + 1) (.int .i64 p.id) (.string p.note) (.slice D p.deps.length cd) (.slice L k c)
      refine bodyPost_ret (results_cell_row rfl _ _ (w.heap.size + 1) 30 _ (0, 0) _ rfl (HB2.out.set4 (.int .i64 p.id) (.string p.note) (.slice D p.deps.length cd) (.slice L k c)) Tryz.underlying30 rfl Tryz.patchSize) rfl ?_
      refine ⟨y, (show Ending.returned _ = Ending.returned (paV y) from by rw [← HYV.out]), ?_, HY2.out.off hset (HY3.out.away (by omega)), HY3.out.base HLB.out, HLW.out.turn hset (by omega)⟩
      rw [HY1.out, HE.out, HX.out.is]

end Go.Proofs.YtlnjhimbgckdcaaGreat
