import Derived.Test.YtalgapoigkbiaaaPk8
import Derived.Test.YtalgapoigkbiaaaPk7
import Derived.Test.YtalgapoigkbiaaaChecked
import Derived.WalkKit
import Derived.Laws.StructEq
import Derived.Deep.RegionHeld3

/-
  What slices.Index, Contains, IndexFunc and ContainsFunc come to, as calls, over rows of texts.
-/
namespace Go.Proofs.Ytalgapoigkbiaaa
open Go.RowKit Go.Maps

theorem mem_getD {l : List ByteArray} {k : Nat} (h : k < l.length) : l.getD k ByteArray.empty ∈ l := by
  simp only [List.getD, List.getElem?_eq_getElem h, Option.getD_some]
  exact List.getElem_mem h
theorem not_mem_of {l : List ByteArray} {p : ByteArray → Prop} (h : ∀ j : Nat, j < l.length → ¬ p (l.getD j ByteArray.empty)) : ¬ ∃ s ∈ l, p s := by
  rintro ⟨s, hs, hp⟩
  obtain ⟨j, hj, rfl⟩ := List.getElem_of_mem hs
  refine h j hj ?_
  simpa only [List.getD, List.getElem?_eq_getElem hj, Option.getD_some] using hp

/-- A place, or none. -/
def FindsAt (Q : Prop) (w : World) (e : Ending) (w' : World) : Prop := (∃ k : Int, e = .returned (.int .i64 k) ∧ (0 ≤ k ↔ Q)) ∧ w = w'

set_option maxHeartbeats 400000 in
theorem index_any (A : Option Addr) (n c : Nat) (l : List ByteArray) (s : ByteArray) (w : World) (hx : Row w A n l) (hn : n ≤ 65536) (Q : Prop) (hQ : Q ↔ ∃ x ∈ l, s = x) :
    Calls Try.prog 82 #[.slice A n c, .string s] w (FindsAt Q w) := by
  have HX := Lib.hid hx; have HQ := Lib.hid hQ; clear hx hQ
  go_enter Try.func82, Try.ntmps82
  go_wp2
  go_loop [5, 8] (fun _ i => ∃ k : Nat, k ≤ n ∧ i = .int .i64 k ∧ Hid (∀ j : Nat, j < k → ¬ s = (l.getD j ByteArray.empty))) (fun _ i => n - (intOf i).toNat)
  case atStart => exact ⟨0, Nat.zero_le _, rfl, fun j hj => absurd hj (Nat.not_lt_zero _)⟩
  case round =>
    obtain ⟨k, hk, rfl, hall⟩ := hrel
    by_cases hlt : k < n
    · obtain ⟨b1, o1, rfl, g1⟩ := HX.out.get hlt
      have hkl : k < l.length := by rw [HX.out.len]; exact hlt
      have HM := Lib.hid (mem_getD hkl)
      generalize hy : l.getD k ByteArray.empty = y at g1 HM
      have HY := Lib.hid hy
      clear hkl hy
      by_cases he : s = y
      · subst he
        clear hall HY
        go_wp2
        go_ret
        exact ⟨⟨k, rfl, fun _ => HQ.out.2 ⟨s, HM.out, rfl⟩, fun _ => by omega⟩, rfl⟩
      · have t1 := text_ne he
        have HA : Hid (∀ j : Nat, j < k + 1 → ¬ s = (l.getD j ByteArray.empty)) := fun j hj => by
          by_cases e : j = k
          · rw [e, HY.out]; exact he
          · exact hall.out j (by omega)
        clear hall HY HM
        go_wp2
        exact ⟨⟨k + 1, by omega, by go_num, HA⟩, by simp [intOf]; omega⟩
    · have E : Hid (¬ ∃ x ∈ l, s = x) := not_mem_of fun j hj => hall.out j (by rw [HX.out.len] at hj; omega)
      clear hall
      go_wp2
      go_ret
      exact ⟨⟨-1, rfl, fun h => absurd h (by omega), fun h => absurd (HQ.out.1 h) E.out⟩, rfl⟩

theorem contains_any (A : Option Addr) (n c : Nat) (l : List ByteArray) (s : ByteArray) (w : World) (hx : Row w A n l) (hn : n ≤ 65536) (b : Bool) (hb : b = true ↔ ∃ x ∈ l, s = x) :
    Calls Try.prog 71 #[.slice A n c, .string s] w fun e w' => e = .returned (.bool b) ∧ w = w' := by
  have HI := Lib.hid (index_any A n c l s w hx hn (b = true) hb)
  clear hx hb
  go_enter Try.func71, Try.ntmps71
  go_wp2_with fail
  refine HI.out.mono ?_
  rintro e w' ⟨⟨k, rfl, hk⟩, rfl⟩
  have e1 : decide (0 ≤ k) = b := by
    rw [Bool.eq_iff_iff, decide_eq_true_eq, hk]
  have E1 := Lib.hid e1
  clear e1 hk HI
  go_wp2
  go_ret
  refine ⟨?_, rfl⟩
  first | exact ret_bool E1.out | (rw [← E1.out]; rfl) | (rw [← E1.out]; simp)

set_option maxHeartbeats 400000 in
theorem meetFn_any (B : Option Addr) (m d : Nat) (r : List ByteArray) (b : Nat) (s : ByteArray) (w : World) (hb : w.cell? ⟨b, 0, none⟩ = some (.slice B m d)) (hy : Row w B m r) (hm : m ≤ 65536) :
    Calls Try.prog 70 #[.string s, .pointer (some ⟨b, 0, none⟩)] w fun e w' => e = .returned (.bool (r.any fun x => decide (s = x))) ∧ w = w' := by
  have HC := Lib.hid (contains_any B m d r s w hy hm (r.any fun x => decide (s = x)) (by simp only [List.any_eq_true, decide_eq_true_eq]))
  clear hy
  generalize (r.any fun x => decide (s = x)) = t at HC ⊢
  go_enter Try.func70, Try.ntmps70
  go_wp2_with fail
  refine HC.out.mono ?_
  rintro e w' ⟨rfl, rfl⟩
  go_wp2
  go_ret
  exact ⟨rfl, rfl⟩

set_option maxHeartbeats 400000 in
theorem indexFunc_any (A : Option Addr) (n c : Nat) (l : List ByteArray) (B : Option Addr) (m d : Nat) (r : List ByteArray) (b : Nat) (w : World) (hx : Row w A n l) (hn : n ≤ 65536) (hb : w.cell? ⟨b, 0, none⟩ = some (.slice B m d)) (hy : Row w B m r) (hm : m ≤ 65536) (Q : Prop) (hQ : Q ↔ ∃ x ∈ l, (r.any fun y => decide (x = y)) = true) :
    Calls Try.prog 81 #[.slice A n c, .func (.func 70) #[] #[.pointer (some ⟨b, 0, none⟩)]] w (FindsAt Q w) := by
  have HX := Lib.hid hx
  have HF := Lib.hid (fun s => meetFn_any B m d r b s w hb hy hm)
  have eg : ∀ (args : Array Value) (w : World), (callFunc 70 args).run Try.prog w = .ok (.enter 70 args) w := enters_of Try.func70 (by kernel_rfl) rfl
  have HQ := Lib.hid hQ
  clear hx hb hy hQ
  go_enter Try.func81, Try.ntmps81
  go_wp2
  go_loop [5, 8] (fun _ i => ∃ k : Nat, k ≤ n ∧ i = .int .i64 k ∧ Hid (∀ j : Nat, j < k → ¬ (r.any fun y => decide ((l.getD j ByteArray.empty) = y)) = true)) (fun _ i => n - (intOf i).toNat)
  case atStart => exact ⟨0, Nat.zero_le _, rfl, fun j hj => absurd hj (Nat.not_lt_zero _)⟩
  case round =>
    obtain ⟨k, hk, rfl, hall⟩ := hrel
    by_cases hlt : k < n
    · obtain ⟨b1, o1, rfl, g1⟩ := HX.out.get hlt
      have hkl : k < l.length := by rw [HX.out.len]; exact hlt
      have HM := Lib.hid (mem_getD hkl)
      generalize hy : l.getD k ByteArray.empty = y at g1 HM
      have HY := Lib.hid hy
      clear hkl hy
      have hf := HF.out y
      cases he : (r.any fun z => decide (y = z))
      · rw [he] at hf
        have HFy := Lib.hid hf
        have HA : Hid (∀ j : Nat, j < k + 1 → ¬ (r.any fun y => decide ((l.getD j ByteArray.empty) = y)) = true) := fun j hj => by
          by_cases e : j = k
          · rw [e, HY.out, he]; exact Bool.false_ne_true
          · exact hall.out j (by omega)
        clear hall HY HM he hf
        go_wp2_with (go_at_fn 70; refine HFy.out.mono ?_; rintro e w' ⟨rfl, rfl⟩)
        exact ⟨⟨k + 1, by omega, by go_num, HA⟩, by simp [intOf]; omega⟩
      · rw [he] at hf
        have HFy := Lib.hid hf
        have HE := Lib.hid he
        clear hall HY he hf
        go_wp2_with (go_at_fn 70; refine HFy.out.mono ?_; rintro e w' ⟨rfl, rfl⟩)
        go_ret
        exact ⟨⟨k, rfl, fun _ => HQ.out.2 ⟨y, HM.out, HE.out⟩, fun _ => by omega⟩, rfl⟩
    · have E : Hid (¬ ∃ x ∈ l, (r.any fun y => decide (x = y)) = true) := not_mem_of (p := fun x => (r.any fun y => decide (x = y)) = true) fun j hj => hall.out j (by rw [HX.out.len] at hj; omega)
      clear hall
      go_wp2
      go_ret
      exact ⟨⟨-1, rfl, fun h => absurd h (by omega), fun h => absurd (HQ.out.1 h) E.out⟩, rfl⟩

theorem containsFunc_any (A : Option Addr) (n c : Nat) (l : List ByteArray) (B : Option Addr) (m d : Nat) (r : List ByteArray) (b : Nat) (w : World) (hx : Row w A n l) (hn : n ≤ 65536) (hb : w.cell? ⟨b, 0, none⟩ = some (.slice B m d)) (hy : Row w B m r) (hm : m ≤ 65536) :
    Calls Try.prog 69 #[.slice A n c, .func (.func 70) #[] #[.pointer (some ⟨b, 0, none⟩)]] w fun e w' => e = .returned (.bool (l.any fun x => r.any fun y => decide (x = y))) ∧ w = w' := by
  have HI := Lib.hid (indexFunc_any A n c l B m d r b w hx hn hb hy hm ((l.any fun x => r.any fun y => decide (x = y)) = true) (by rw [List.any_eq_true]))
  clear hx hb hy
  go_enter Try.func69, Try.ntmps69
  go_wp2_with fail
  refine HI.out.mono ?_
  rintro e w' ⟨⟨k, rfl, hk⟩, rfl⟩
  have e1 : decide (0 ≤ k) = (l.any fun x => r.any fun y => decide (x = y)) := by
    rw [Bool.eq_iff_iff, decide_eq_true_eq, hk]
  have E1 := Lib.hid e1
  clear e1 hk HI
  go_wp2
  go_ret
  refine ⟨?_, rfl⟩
  first | exact ret_bool E1.out | (rw [← E1.out]; rfl) | (rw [← E1.out]; simp)

end Go.Proofs.Ytalgapoigkbiaaa

/-
  What swap's meet comes to, as a call.
-/
namespace Go.Proofs.Ytalgapoigkbiaaa
open Go.RowKit Go.Maps

theorem two_boxes (w : World) (a b : Array Value) (t : TypeId) : BoxAt ((w.alloc (.cells a t)).alloc (.cells b t)) w.heap.size a t ∧ BoxAt ((w.alloc (.cells a t)).alloc (.cells b t)) (w.heap.size + 1) b t ∧ Later w ((w.alloc (.cells a t)).alloc (.cells b t)) := by
  refine ⟨(BoxAt.made w a t).alloc _, ?_, ((Later.refl w).alloc _).alloc _⟩
  have := BoxAt.made (w.alloc (.cells a t)) b t
  simpa using this
theorem BoxAt.all {w : World} {g : Nat} {x : PrC} {t : TypeId} (h : BoxAt w g (prL x).toArray t) : w.cell? ⟨g, 0, none⟩ = some (.int .i64 x.v.kind) ∧ w.cell? ⟨g, 1, none⟩ = some (.string x.v.name) ∧ w.cell? ⟨g, 2, none⟩ = some (.string x.v.to) ∧ w.cell? ⟨g, 3, none⟩ = some (.int .i64 x.v.place) ∧ w.cell? ⟨g, 4, none⟩ = some (.slice x.A x.n x.c) ∧ w.cell? ⟨g, 5, none⟩ = some (.slice x.B x.m x.d) :=
  ⟨h.cell rfl, h.cell rfl, h.cell rfl, h.cell rfl, h.cell rfl, h.cell rfl⟩

set_option maxRecDepth 100000 in
set_option maxHeartbeats 800000 in
theorem meet_any (x y : PrC) (w : World) : Calls Try.prog 46 #[prV x, prV y] w (Says (commonP x.v y.v) w) := by
  obtain ⟨b0, b1, hl⟩ := two_boxes w (prL x).toArray (prL y).toArray 27
  have HN := Lib.hid (fun w' => primNames_any y w')
  have HM := Lib.hid (fun w' => primNames_any x w')
  have hn1 := namesP_length x.v
  have hn2 := namesP_length y.v
  have HE : Hid (commonP x.v y.v = (namesP x.v).any fun a => (namesP y.v).any fun b => decide (a = b)) := rfl
  generalize commonP x.v y.v = cm at HE ⊢
  generalize namesP x.v = l at HM hn1 HE
  generalize namesP y.v = r at HN hn2 HE
  have HB0 := Lib.hid b0; have HL := Lib.hid hl
  clear b0 b1 hl
  unfold prV at HN HM ⊢
  go_enter Try.func46, Try.ntmps46
  go_wp2_with fail
  refine (HN.out _).mono ?_
  rintro e w1 ⟨A1, c1, rfl, hc1, hr1, hl1⟩
  have b2 := (HB0.out.later hl1).alloc (.cells #[.slice A1 r.length c1] 22)
  obtain ⟨q0, q1, q2, q3, q4, q5⟩ := b2.all
  have hb : Hid ((w1.alloc (.cells #[.slice A1 r.length c1] 22)).cell? ⟨w1.heap.size, 0, none⟩ = some (.slice A1 r.length c1)) := by simp [Hid]
  have HR1 := Lib.hid (hr1.later ((Later.refl w1).alloc (.cells #[.slice A1 r.length c1] 22)))
  have HL1 := Lib.hid ((HL.out.trans hl1).alloc (.cells #[.slice A1 r.length c1] 22))
  clear hr1 hl1 b2
  go_wp2_with fail
  refine (HM.out _).mono ?_
  rintro e w2 ⟨A2, c2, rfl, hc2, hr2, hl2⟩
  have HCF := Lib.hid (containsFunc_any A2 l.length c2 l A1 r.length c1 r w1.heap.size w2 hr2 hn1 (hl2.cell hb.out) (HR1.out.later hl2) hn2)
  rw [← HE.out] at HCF
  have HL2 := Lib.hid (HL1.out.trans hl2)
  clear hr2 hl2 q0 q1 q2 q3 q4 q5
  go_wp2_with fail
  refine HCF.out.mono ?_
  rintro e w3 ⟨rfl, rfl⟩
  go_wp2
  go_ret
  exact ⟨rfl, HL2.out⟩

end Go.Proofs.Ytalgapoigkbiaaa

/-
  Two arrays of two ints, compared.
-/
namespace Go.Proofs.Ytalgapoigkbiaaa
open Go.RowKit

theorem kinds_eqAt (n : Nat) (hin : ∀ (x y : Int) (w : World), (Op.equalIn n 3 (.int .i64 x) (.int .i64 y)).run Try.prog w = .ok (x == y) w) (a b c d : Int) (w : World) :
    (Op.equalIn (n + 1) 75 (.agg #[.int .i64 a, .int .i64 b]) (.agg #[.int .i64 c, .int .i64 d])).run Try.prog w = .ok (a == c && b == d) w := by
  have p1 : ∀ (x y : Int) (w : World), (part 3 #[.int .i64 x, .int .i64 y] 0).run Try.prog w = .ok (.int .i64 x) w := fun x y w => by
    simp [part, Try.isAgg3]
  have p2 : ∀ (x y : Int) (w : World), (part 3 #[.int .i64 x, .int .i64 y] 1).run Try.prog w = .ok (.int .i64 y) w := fun x y w => by
    simp [part, Try.isAgg3]
  simp only [Op.equalIn, Sem.run_bind, run_underlying Try.underlying75, Result.andThen_ok, Try.sizeOf3]
  simp only [Std.Legacy.Range.forIn_eq_forIn_range', Std.Legacy.Range.size, Nat.sub_zero, Nat.add_sub_cancel, Nat.div_one, List.range', List.forIn_cons, List.forIn_nil, Nat.zero_add, Nat.mul_one, Sem.run_bind, p1, hin, Result.andThen_ok]
  cases h1 : a == c
  · simp
  · cases h2 : b == d
    · simp only [beq_eq_false_iff_ne, ne_eq] at h2
      simp [p2, hin, h2]
    · simp only [beq_iff_eq] at h2
      simp [p2, hin, h2]

theorem kinds_eqIn (a b c d : Int) (w : World) : (Op.equalIn 10000 75 (.agg #[.int .i64 a, .int .i64 b]) (.agg #[.int .i64 c, .int .i64 d])).run Try.prog w = .ok (a == c && b == d) w :=
  kinds_eqAt 9999 (fun x y w => run_equalIn_int w 9998 3 .i64 .i64 x y Try.underlying3) a b c d w

theorem kinds_eq (a b c d : Int) (w : World) : (binOp .eql 75 (.agg #[.int .i64 a, .int .i64 b]) (.agg #[.int .i64 c, .int .i64 d])).run Try.prog w = .ok (.bool (a == c && b == d)) w := by
  rw [run_eql_struct, kinds_eqIn]; rfl

end Go.Proofs.Ytalgapoigkbiaaa

/-
  What swap's turn comes to, as a call.
-/
namespace Go.Proofs.Ytalgapoigkbiaaa
open Go.RowKit Go.Maps

theorem both_all {w : World} {g k : Nat} {x y : PrC} {t : TypeId} (h : BoxAt w g (prL x).toArray t) (h' : BoxAt w k (prL y).toArray t) : w.cell? ⟨g, 0, none⟩ = some (.int .i64 x.v.kind) ∧ w.cell? ⟨g, 1, none⟩ = some (.string x.v.name) ∧ w.cell? ⟨g, 2, none⟩ = some (.string x.v.to) ∧ w.cell? ⟨g, 3, none⟩ = some (.int .i64 x.v.place) ∧ w.cell? ⟨g, 4, none⟩ = some (.slice x.A x.n x.c) ∧ w.cell? ⟨g, 5, none⟩ = some (.slice x.B x.m x.d) ∧ w.cell? ⟨k, 0, none⟩ = some (.int .i64 y.v.kind) ∧ w.cell? ⟨k, 1, none⟩ = some (.string y.v.name) ∧ w.cell? ⟨k, 2, none⟩ = some (.string y.v.to) ∧ w.cell? ⟨k, 3, none⟩ = some (.int .i64 y.v.place) ∧ w.cell? ⟨k, 4, none⟩ = some (.slice y.A y.n y.c) ∧ w.cell? ⟨k, 5, none⟩ = some (.slice y.B y.m y.d) :=
  ⟨h.cell rfl, h.cell rfl, h.cell rfl, h.cell rfl, h.cell rfl, h.cell rfl, h'.cell rfl, h'.cell rfl, h'.cell rfl, h'.cell rfl, h'.cell rfl, h'.cell rfl⟩
set_option maxRecDepth 100000 in
set_option maxHeartbeats 1600000 in
theorem turn_any (x y : PrC) (w : World) (hx : PrOk w x) (hy : PrOk w y) (hp : rightP x.v = true) (hq : rightP y.v = true) :
    Calls Try.prog 28 #[prV x, prV y] w (GivesW x y (turnP x.v y.v) w) := by
  have hgd : Try.prog.eqGuardType Try.prog.depth 75 = false := by kernel_rfl
  have he := fun (c d : Int) (w : World) => kinds_eqIn x.v.kind y.v.kind c d w
  by_cases h1 : x.v.kind = 0 ∧ y.v.kind = 0
  · obtain ⟨b0, b1, b2, b3, hl⟩ := four_boxes w #[.int .i64 x.v.kind, .string x.v.name, .string x.v.to, .int .i64 x.v.place, .slice x.A x.n x.c, .slice x.B x.m x.d] #[.int .i64 y.v.kind, .string y.v.name, .string y.v.to, .int .i64 y.v.place, .slice y.A y.n y.c, .slice y.B y.m y.d] #[.int .i64 0, .string ⟨#[]⟩, .string ⟨#[]⟩, .int .i64 0, .slice none 0 0, .slice none 0 0] #[.int .i64 0, .string ⟨#[]⟩, .string ⟨#[]⟩, .int .i64 0, .slice none 0 0, .slice none 0 0] 27
    replace b0 := b0.alloc (.cells #[.int .i64 x.v.kind, .int .i64 y.v.kind] 75)
    replace b1 := b1.alloc (.cells #[.int .i64 x.v.kind, .int .i64 y.v.kind] 75)
    replace b2 := b2.alloc (.cells #[.int .i64 x.v.kind, .int .i64 y.v.kind] 75)
    replace b3 := b3.alloc (.cells #[.int .i64 x.v.kind, .int .i64 y.v.kind] 75)
    replace hl := hl.alloc (.cells #[.int .i64 x.v.kind, .int .i64 y.v.kind] 75)
    have E : turnP x.v y.v = turnHH x.v y.v := by unfold turnP; rw [if_pos h1]
    have d1 : (x.v.kind == 0 && y.v.kind == 0) = true := by rw [Bool.and_eq_true, beq_iff_eq, beq_iff_eq]; exact h1
    have e1 := he 0 0
    rw [d1] at e1
    rw [E]
    have HT := Lib.hid (fun (w' : World) (hl : Later w w') => turnHH_any x y w' (hx.later hl) (hy.later hl) (place_in hp h1.1) (place_in hq h1.2))
    generalize turnHH x.v y.v = rr at HT ⊢
    clear E hx hy hp hq he h1 d1
    unfold prV at HT ⊢
    go_enter Try.func28, Try.ntmps28
    go_wp2_with fail
    refine (HT.out _ hl).mono ?_
    generalize ((((w.alloc (.cells #[.int .i64 x.v.kind, .string x.v.name, .string x.v.to, .int .i64 x.v.place, .slice x.A x.n x.c, .slice x.B x.m x.d] 27)).alloc (.cells #[.int .i64 y.v.kind, .string y.v.name, .string y.v.to, .int .i64 y.v.place, .slice y.A y.n y.c, .slice y.B y.m y.d] 27)).alloc (.cells #[.int .i64 0, .string ⟨#[]⟩, .string ⟨#[]⟩, .int .i64 0, .slice none 0 0, .slice none 0 0] 27)).alloc (.cells #[.int .i64 0, .string ⟨#[]⟩, .string ⟨#[]⟩, .int .i64 0, .slice none 0 0, .slice none 0 0] 27)).alloc (.cells #[.int .i64 x.v.kind, .int .i64 y.v.kind] 75) = wb at b0 b1 b2 b3 hl ⊢
    rintro e w1 ⟨a, b, rfl, ha, hb, hao, hlw⟩
    have hsz := b3.lt
    have c2 := b2.later hlw
    have u0 := c2.cell (i := 0) rfl; have u1 := c2.cell (i := 1) rfl; have u2 := c2.cell (i := 2) rfl; have u3 := c2.cell (i := 3) rfl; have u4 := c2.cell (i := 4) rfl; have u5 := c2.cell (i := 5) rfl
    have v0 := c2.frozen 0; have v1 := c2.frozen 1; have v2 := c2.frozen 2; have v3 := c2.frozen 3; have v4 := c2.frozen 4; have v5 := c2.frozen 5
    have k2 := turned_set6 w1 (w.heap.size + 1 + 1) (.int .i64 a.v.kind) (.string a.v.name) (.string a.v.to) (.int .i64 a.v.place) (.slice a.A a.n a.c) (.slice a.B a.m a.d)
    have c3 := (b3.later hlw).other k2 (by omega)
    have r0 := c3.cell (i := 0) rfl; have r1 := c3.cell (i := 1) rfl; have r2 := c3.cell (i := 2) rfl; have r3 := c3.cell (i := 3) rfl; have r4 := c3.cell (i := 4) rfl; have r5 := c3.cell (i := 5) rfl
    have t0 := c3.frozen 0; have t1 := c3.frozen 1; have t2 := c3.frozen 2; have t3 := c3.frozen 3; have t4 := c3.frozen 4; have t5 := c3.frozen 5
    have k3 := turned_set6 ((((((w1.setCell ⟨w.heap.size + 1 + 1, 0, none⟩ (.int .i64 a.v.kind)).setCell ⟨w.heap.size + 1 + 1, 1, none⟩ (.string a.v.name)).setCell ⟨w.heap.size + 1 + 1, 2, none⟩ (.string a.v.to)).setCell ⟨w.heap.size + 1 + 1, 3, none⟩ (.int .i64 a.v.place)).setCell ⟨w.heap.size + 1 + 1, 4, none⟩ (.slice a.A a.n a.c)).setCell ⟨w.heap.size + 1 + 1, 5, none⟩ (.slice a.B a.m a.d)) (w.heap.size + 1 + 1 + 1) (.int .i64 b.v.kind) (.string b.v.name) (.string b.v.to) (.int .i64 b.v.place) (.slice b.A b.n b.c) (.slice b.B b.m b.d)
    have HLW := Lib.hid (hl.trans hlw); have HK2 := Lib.hid k2; have HK3 := Lib.hid k3; have HC2 := Lib.hid c2; have HC3 := Lib.hid c3; have HA := Lib.hid ha; have HB := Lib.hid hb; have HAO := Lib.hid hao
    clear b0 b1 b2 b3 hl hlw k2 k3 c2 c3 ha hb hao HT hgd
    unfold prV
    go_wp2
    exact bodyPost_ret (results_two rfl _ _ _ _ _ _ _ _ _ _ _ _ rfl rfl rfl ((HC2.out.set6 (.int .i64 a.v.kind) (.string a.v.name) (.string a.v.to) (.int .i64 a.v.place) (.slice a.A a.n a.c) (.slice a.B a.m a.d)).other HK3.out (by omega)) (HC3.out.set6 (.int .i64 b.v.kind) (.string b.v.name) (.string b.v.to) (.int .i64 b.v.place) (.slice b.A b.n b.c) (.slice b.B b.m b.d)) Try.underlying27 rfl Try.primSize Try.primSize) rfl
      ⟨a, b, rfl, HA.out, HB.out, HAO.out, (HLW.out.turn HK2.out (by omega)).turn HK3.out (by omega)⟩
  by_cases h2 : x.v.kind = 0 ∧ y.v.kind = 3
  · obtain ⟨b0, b1, b2, b3, hl⟩ := four_boxes w #[.int .i64 x.v.kind, .string x.v.name, .string x.v.to, .int .i64 x.v.place, .slice x.A x.n x.c, .slice x.B x.m x.d] #[.int .i64 y.v.kind, .string y.v.name, .string y.v.to, .int .i64 y.v.place, .slice y.A y.n y.c, .slice y.B y.m y.d] #[.int .i64 0, .string ⟨#[]⟩, .string ⟨#[]⟩, .int .i64 0, .slice none 0 0, .slice none 0 0] #[.int .i64 0, .string ⟨#[]⟩, .string ⟨#[]⟩, .int .i64 0, .slice none 0 0, .slice none 0 0] 27
    replace b0 := b0.alloc (.cells #[.int .i64 x.v.kind, .int .i64 y.v.kind] 75)
    replace b1 := b1.alloc (.cells #[.int .i64 x.v.kind, .int .i64 y.v.kind] 75)
    replace b2 := b2.alloc (.cells #[.int .i64 x.v.kind, .int .i64 y.v.kind] 75)
    replace b3 := b3.alloc (.cells #[.int .i64 x.v.kind, .int .i64 y.v.kind] 75)
    replace hl := hl.alloc (.cells #[.int .i64 x.v.kind, .int .i64 y.v.kind] 75)
    have E : turnP x.v y.v = turnHM x.v y.v := by unfold turnP; rw [if_neg h1, if_pos h2]
    have d1 : (x.v.kind == 0 && y.v.kind == 0) = false := by rw [← Bool.not_eq_true, Bool.and_eq_true, beq_iff_eq, beq_iff_eq]; exact h1
    have d2 : (x.v.kind == 0 && y.v.kind == 3) = true := by rw [Bool.and_eq_true, beq_iff_eq, beq_iff_eq]; exact h2
    have e1 := he 0 0; have e2 := he 0 3
    rw [d1] at e1; rw [d2] at e2
    rw [E]
    have HT := Lib.hid (fun (w' : World) (hl : Later w w') => turnHM_any x y w' (hx.later hl) (hy.later hl))
    generalize turnHM x.v y.v = rr at HT ⊢
    clear E hx hy hp hq he h1 h2 d1 d2
    unfold prV at HT ⊢
    go_enter Try.func28, Try.ntmps28
    go_wp2_with fail
    refine (HT.out _ hl).mono ?_
    generalize ((((w.alloc (.cells #[.int .i64 x.v.kind, .string x.v.name, .string x.v.to, .int .i64 x.v.place, .slice x.A x.n x.c, .slice x.B x.m x.d] 27)).alloc (.cells #[.int .i64 y.v.kind, .string y.v.name, .string y.v.to, .int .i64 y.v.place, .slice y.A y.n y.c, .slice y.B y.m y.d] 27)).alloc (.cells #[.int .i64 0, .string ⟨#[]⟩, .string ⟨#[]⟩, .int .i64 0, .slice none 0 0, .slice none 0 0] 27)).alloc (.cells #[.int .i64 0, .string ⟨#[]⟩, .string ⟨#[]⟩, .int .i64 0, .slice none 0 0, .slice none 0 0] 27)).alloc (.cells #[.int .i64 x.v.kind, .int .i64 y.v.kind] 75) = wb at b0 b1 b2 b3 hl ⊢
    rintro e w1 ⟨a, b, rfl, ha, hb, hao, hlw⟩
    have hsz := b3.lt
    have c2 := b2.later hlw
    have u0 := c2.cell (i := 0) rfl; have u1 := c2.cell (i := 1) rfl; have u2 := c2.cell (i := 2) rfl; have u3 := c2.cell (i := 3) rfl; have u4 := c2.cell (i := 4) rfl; have u5 := c2.cell (i := 5) rfl
    have v0 := c2.frozen 0; have v1 := c2.frozen 1; have v2 := c2.frozen 2; have v3 := c2.frozen 3; have v4 := c2.frozen 4; have v5 := c2.frozen 5
    have k2 := turned_set6 w1 (w.heap.size + 1 + 1) (.int .i64 a.v.kind) (.string a.v.name) (.string a.v.to) (.int .i64 a.v.place) (.slice a.A a.n a.c) (.slice a.B a.m a.d)
    have c3 := (b3.later hlw).other k2 (by omega)
    have r0 := c3.cell (i := 0) rfl; have r1 := c3.cell (i := 1) rfl; have r2 := c3.cell (i := 2) rfl; have r3 := c3.cell (i := 3) rfl; have r4 := c3.cell (i := 4) rfl; have r5 := c3.cell (i := 5) rfl
    have t0 := c3.frozen 0; have t1 := c3.frozen 1; have t2 := c3.frozen 2; have t3 := c3.frozen 3; have t4 := c3.frozen 4; have t5 := c3.frozen 5
    have k3 := turned_set6 ((((((w1.setCell ⟨w.heap.size + 1 + 1, 0, none⟩ (.int .i64 a.v.kind)).setCell ⟨w.heap.size + 1 + 1, 1, none⟩ (.string a.v.name)).setCell ⟨w.heap.size + 1 + 1, 2, none⟩ (.string a.v.to)).setCell ⟨w.heap.size + 1 + 1, 3, none⟩ (.int .i64 a.v.place)).setCell ⟨w.heap.size + 1 + 1, 4, none⟩ (.slice a.A a.n a.c)).setCell ⟨w.heap.size + 1 + 1, 5, none⟩ (.slice a.B a.m a.d)) (w.heap.size + 1 + 1 + 1) (.int .i64 b.v.kind) (.string b.v.name) (.string b.v.to) (.int .i64 b.v.place) (.slice b.A b.n b.c) (.slice b.B b.m b.d)
    have HLW := Lib.hid (hl.trans hlw); have HK2 := Lib.hid k2; have HK3 := Lib.hid k3; have HC2 := Lib.hid c2; have HC3 := Lib.hid c3; have HA := Lib.hid ha; have HB := Lib.hid hb; have HAO := Lib.hid hao
    clear b0 b1 b2 b3 hl hlw k2 k3 c2 c3 ha hb hao HT hgd
    unfold prV
    go_wp2
    exact bodyPost_ret (results_two rfl _ _ _ _ _ _ _ _ _ _ _ _ rfl rfl rfl ((HC2.out.set6 (.int .i64 a.v.kind) (.string a.v.name) (.string a.v.to) (.int .i64 a.v.place) (.slice a.A a.n a.c) (.slice a.B a.m a.d)).other HK3.out (by omega)) (HC3.out.set6 (.int .i64 b.v.kind) (.string b.v.name) (.string b.v.to) (.int .i64 b.v.place) (.slice b.A b.n b.c) (.slice b.B b.m b.d)) Try.underlying27 rfl Try.primSize Try.primSize) rfl
      ⟨a, b, rfl, HA.out, HB.out, HAO.out, (HLW.out.turn HK2.out (by omega)).turn HK3.out (by omega)⟩
  by_cases h3 : x.v.kind = 3 ∧ y.v.kind = 0
  · obtain ⟨b0, b1, b2, b3, hl⟩ := four_boxes w #[.int .i64 x.v.kind, .string x.v.name, .string x.v.to, .int .i64 x.v.place, .slice x.A x.n x.c, .slice x.B x.m x.d] #[.int .i64 y.v.kind, .string y.v.name, .string y.v.to, .int .i64 y.v.place, .slice y.A y.n y.c, .slice y.B y.m y.d] #[.int .i64 0, .string ⟨#[]⟩, .string ⟨#[]⟩, .int .i64 0, .slice none 0 0, .slice none 0 0] #[.int .i64 0, .string ⟨#[]⟩, .string ⟨#[]⟩, .int .i64 0, .slice none 0 0, .slice none 0 0] 27
    replace b0 := b0.alloc (.cells #[.int .i64 x.v.kind, .int .i64 y.v.kind] 75)
    replace b1 := b1.alloc (.cells #[.int .i64 x.v.kind, .int .i64 y.v.kind] 75)
    replace b2 := b2.alloc (.cells #[.int .i64 x.v.kind, .int .i64 y.v.kind] 75)
    replace b3 := b3.alloc (.cells #[.int .i64 x.v.kind, .int .i64 y.v.kind] 75)
    replace hl := hl.alloc (.cells #[.int .i64 x.v.kind, .int .i64 y.v.kind] 75)
    have E : turnP x.v y.v = turnMH x.v y.v := by unfold turnP; rw [if_neg h1, if_neg h2, if_pos h3]
    have d1 : (x.v.kind == 0 && y.v.kind == 0) = false := by rw [← Bool.not_eq_true, Bool.and_eq_true, beq_iff_eq, beq_iff_eq]; exact h1
    have d2 : (x.v.kind == 0 && y.v.kind == 3) = false := by rw [← Bool.not_eq_true, Bool.and_eq_true, beq_iff_eq, beq_iff_eq]; exact h2
    have d3 : (x.v.kind == 3 && y.v.kind == 0) = true := by rw [Bool.and_eq_true, beq_iff_eq, beq_iff_eq]; exact h3
    have e1 := he 0 0; have e2 := he 0 3; have e3 := he 3 0
    rw [d1] at e1; rw [d2] at e2; rw [d3] at e3
    rw [E]
    have HT := Lib.hid (fun (w' : World) (hl : Later w w') => turnMH_any x y w' (hx.later hl) (hy.later hl))
    generalize turnMH x.v y.v = rr at HT ⊢
    clear E hx hy hp hq he h1 h2 h3 d1 d2 d3
    unfold prV at HT ⊢
    go_enter Try.func28, Try.ntmps28
    go_wp2_with fail
    refine (HT.out _ hl).mono ?_
    generalize ((((w.alloc (.cells #[.int .i64 x.v.kind, .string x.v.name, .string x.v.to, .int .i64 x.v.place, .slice x.A x.n x.c, .slice x.B x.m x.d] 27)).alloc (.cells #[.int .i64 y.v.kind, .string y.v.name, .string y.v.to, .int .i64 y.v.place, .slice y.A y.n y.c, .slice y.B y.m y.d] 27)).alloc (.cells #[.int .i64 0, .string ⟨#[]⟩, .string ⟨#[]⟩, .int .i64 0, .slice none 0 0, .slice none 0 0] 27)).alloc (.cells #[.int .i64 0, .string ⟨#[]⟩, .string ⟨#[]⟩, .int .i64 0, .slice none 0 0, .slice none 0 0] 27)).alloc (.cells #[.int .i64 x.v.kind, .int .i64 y.v.kind] 75) = wb at b0 b1 b2 b3 hl ⊢
    rintro e w1 ⟨a, b, rfl, ha, hb, hao, hlw⟩
    have hsz := b3.lt
    have c2 := b2.later hlw
    have u0 := c2.cell (i := 0) rfl; have u1 := c2.cell (i := 1) rfl; have u2 := c2.cell (i := 2) rfl; have u3 := c2.cell (i := 3) rfl; have u4 := c2.cell (i := 4) rfl; have u5 := c2.cell (i := 5) rfl
    have v0 := c2.frozen 0; have v1 := c2.frozen 1; have v2 := c2.frozen 2; have v3 := c2.frozen 3; have v4 := c2.frozen 4; have v5 := c2.frozen 5
    have k2 := turned_set6 w1 (w.heap.size + 1 + 1) (.int .i64 a.v.kind) (.string a.v.name) (.string a.v.to) (.int .i64 a.v.place) (.slice a.A a.n a.c) (.slice a.B a.m a.d)
    have c3 := (b3.later hlw).other k2 (by omega)
    have r0 := c3.cell (i := 0) rfl; have r1 := c3.cell (i := 1) rfl; have r2 := c3.cell (i := 2) rfl; have r3 := c3.cell (i := 3) rfl; have r4 := c3.cell (i := 4) rfl; have r5 := c3.cell (i := 5) rfl
    have t0 := c3.frozen 0; have t1 := c3.frozen 1; have t2 := c3.frozen 2; have t3 := c3.frozen 3; have t4 := c3.frozen 4; have t5 := c3.frozen 5
    have k3 := turned_set6 ((((((w1.setCell ⟨w.heap.size + 1 + 1, 0, none⟩ (.int .i64 a.v.kind)).setCell ⟨w.heap.size + 1 + 1, 1, none⟩ (.string a.v.name)).setCell ⟨w.heap.size + 1 + 1, 2, none⟩ (.string a.v.to)).setCell ⟨w.heap.size + 1 + 1, 3, none⟩ (.int .i64 a.v.place)).setCell ⟨w.heap.size + 1 + 1, 4, none⟩ (.slice a.A a.n a.c)).setCell ⟨w.heap.size + 1 + 1, 5, none⟩ (.slice a.B a.m a.d)) (w.heap.size + 1 + 1 + 1) (.int .i64 b.v.kind) (.string b.v.name) (.string b.v.to) (.int .i64 b.v.place) (.slice b.A b.n b.c) (.slice b.B b.m b.d)
    have HLW := Lib.hid (hl.trans hlw); have HK2 := Lib.hid k2; have HK3 := Lib.hid k3; have HC2 := Lib.hid c2; have HC3 := Lib.hid c3; have HA := Lib.hid ha; have HB := Lib.hid hb; have HAO := Lib.hid hao
    clear b0 b1 b2 b3 hl hlw k2 k3 c2 c3 ha hb hao HT hgd
    unfold prV
    go_wp2
    exact bodyPost_ret (results_two rfl _ _ _ _ _ _ _ _ _ _ _ _ rfl rfl rfl ((HC2.out.set6 (.int .i64 a.v.kind) (.string a.v.name) (.string a.v.to) (.int .i64 a.v.place) (.slice a.A a.n a.c) (.slice a.B a.m a.d)).other HK3.out (by omega)) (HC3.out.set6 (.int .i64 b.v.kind) (.string b.v.name) (.string b.v.to) (.int .i64 b.v.place) (.slice b.A b.n b.c) (.slice b.B b.m b.d)) Try.underlying27 rfl Try.primSize Try.primSize) rfl
      ⟨a, b, rfl, HA.out, HB.out, HAO.out, (HLW.out.turn HK2.out (by omega)).turn HK3.out (by omega)⟩
  have E : turnP x.v y.v = (y.v, x.v, !commonP x.v y.v) := by unfold turnP; rw [if_neg h1, if_neg h2, if_neg h3]
  have d1 : (x.v.kind == 0 && y.v.kind == 0) = false := by rw [← Bool.not_eq_true, Bool.and_eq_true, beq_iff_eq, beq_iff_eq]; exact h1
  have d2 : (x.v.kind == 0 && y.v.kind == 3) = false := by rw [← Bool.not_eq_true, Bool.and_eq_true, beq_iff_eq, beq_iff_eq]; exact h2
  have d3 : (x.v.kind == 3 && y.v.kind == 0) = false := by rw [← Bool.not_eq_true, Bool.and_eq_true, beq_iff_eq, beq_iff_eq]; exact h3
  have e1 := he 0 0; have e2 := he 0 3; have e3 := he 3 0
  rw [d1] at e1; rw [d2] at e2; rw [d3] at e3
  rw [E]
  clear E hx hy hp hq he h1 h2 h3 d1 d2 d3
  unfold prV
  obtain ⟨b0, b1, b2, b3, hl⟩ := four_boxes w #[.int .i64 x.v.kind, .string x.v.name, .string x.v.to, .int .i64 x.v.place, .slice x.A x.n x.c, .slice x.B x.m x.d] #[.int .i64 y.v.kind, .string y.v.name, .string y.v.to, .int .i64 y.v.place, .slice y.A y.n y.c, .slice y.B y.m y.d] #[.int .i64 0, .string ⟨#[]⟩, .string ⟨#[]⟩, .int .i64 0, .slice none 0 0, .slice none 0 0] #[.int .i64 0, .string ⟨#[]⟩, .string ⟨#[]⟩, .int .i64 0, .slice none 0 0, .slice none 0 0] 27
  replace b0 := b0.alloc (.cells #[.int .i64 x.v.kind, .int .i64 y.v.kind] 75)
  replace b1 := b1.alloc (.cells #[.int .i64 x.v.kind, .int .i64 y.v.kind] 75)
  replace b2 := b2.alloc (.cells #[.int .i64 x.v.kind, .int .i64 y.v.kind] 75)
  replace b3 := b3.alloc (.cells #[.int .i64 x.v.kind, .int .i64 y.v.kind] 75)
  replace hl := hl.alloc (.cells #[.int .i64 x.v.kind, .int .i64 y.v.kind] 75)
  have HM := Lib.hid (fun w' => meet_any x y w')
  generalize commonP x.v y.v = cm at HM ⊢
  unfold prV at HM
  go_enter Try.func28, Try.ntmps28
  go_upto_region 8 with fail
  generalize ((((w.alloc (.cells #[.int .i64 x.v.kind, .string x.v.name, .string x.v.to, .int .i64 x.v.place, .slice x.A x.n x.c, .slice x.B x.m x.d] 27)).alloc (.cells #[.int .i64 y.v.kind, .string y.v.name, .string y.v.to, .int .i64 y.v.place, .slice y.A y.n y.c, .slice y.B y.m y.d] 27)).alloc (.cells #[.int .i64 0, .string ⟨#[]⟩, .string ⟨#[]⟩, .int .i64 0, .slice none 0 0, .slice none 0 0] 27)).alloc (.cells #[.int .i64 0, .string ⟨#[]⟩, .string ⟨#[]⟩, .int .i64 0, .slice none 0 0, .slice none 0 0] 27)).alloc (.cells #[.int .i64 x.v.kind, .int .i64 y.v.kind] 75) = wb at b0 b1 b2 b3 hl ⊢
  have hsz := b3.lt
  have HB0 := Lib.hid b0; have HB1 := Lib.hid b1; have HB2 := Lib.hid b2; have HB3 := Lib.hid b3; have HL := Lib.hid hl
  have s0 := both_all (x := x) (y := y) (b0.later (Later.refl wb).drew) (b1.later (Later.refl wb).drew)
  clear b0 b1 b2 b3 hl e1 e2 e3 hgd
  go_region_held3 (fun w' => w'.cell? ⟨w.heap.size, 0, none⟩ = some (.int .i64 x.v.kind) ∧ w'.cell? ⟨w.heap.size, 1, none⟩ = some (.string x.v.name) ∧ w'.cell? ⟨w.heap.size, 2, none⟩ = some (.string x.v.to) ∧ w'.cell? ⟨w.heap.size, 3, none⟩ = some (.int .i64 x.v.place) ∧ w'.cell? ⟨w.heap.size, 4, none⟩ = some (.slice x.A x.n x.c) ∧ w'.cell? ⟨w.heap.size, 5, none⟩ = some (.slice x.B x.m x.d) ∧ w'.cell? ⟨w.heap.size + 1, 0, none⟩ = some (.int .i64 y.v.kind) ∧ w'.cell? ⟨w.heap.size + 1, 1, none⟩ = some (.string y.v.name) ∧ w'.cell? ⟨w.heap.size + 1, 2, none⟩ = some (.string y.v.to) ∧ w'.cell? ⟨w.heap.size + 1, 3, none⟩ = some (.int .i64 y.v.place) ∧ w'.cell? ⟨w.heap.size + 1, 4, none⟩ = some (.slice y.A y.n y.c) ∧ w'.cell? ⟨w.heap.size + 1, 5, none⟩ = some (.slice y.B y.m y.d))
    (first | with_reducible exact s3 | with_reducible exact s2 | with_reducible exact s1 | with_reducible exact s0)
    (first | (go_at_call 46; refine (HM.out _).mono ?_; rintro e w1 ⟨rfl, hl1⟩; have hlw : Later wb w1 := Later.trans (by first | exact Later.refl _ | exact (Later.refl _).drew | exact (Later.refl _).drewN _) hl1; have s1 := both_all (x := x) (y := y) (HB0.out.later hlw) (HB1.out.later hlw); have c2 := HB2.out.later hlw; have u0 := c2.cell (i := 0) rfl; have u1 := c2.cell (i := 1) rfl; have u2 := c2.cell (i := 2) rfl; have u3 := c2.cell (i := 3) rfl; have u4 := c2.cell (i := 4) rfl; have u5 := c2.cell (i := 5) rfl; have v0 := c2.frozen 0; have v1 := c2.frozen 1; have v2 := c2.frozen 2; have v3 := c2.frozen 3; have v4 := c2.frozen 4; have v5 := c2.frozen 5; have k2 := turned_set6 w1 (w.heap.size + 1 + 1) (.int .i64 y.v.kind) (.string y.v.name) (.string y.v.to) (.int .i64 y.v.place) (.slice y.A y.n y.c) (.slice y.B y.m y.d); have c3 := (HB3.out.later hlw).other k2 (by omega); have r0 := c3.cell (i := 0) rfl; have r1 := c3.cell (i := 1) rfl; have r2 := c3.cell (i := 2) rfl; have r3 := c3.cell (i := 3) rfl; have r4 := c3.cell (i := 4) rfl; have r5 := c3.cell (i := 5) rfl; have t0 := c3.frozen 0; have t1 := c3.frozen 1; have t2 := c3.frozen 2; have t3 := c3.frozen 3; have t4 := c3.frozen 4; have t5 := c3.frozen 5; have s2 := both_all (x := x) (y := y) ((HB0.out.later hlw).other k2 (by omega)) ((HB1.out.later hlw).other k2 (by omega)); have k3 := turned_set6 ((((((w1.setCell ⟨w.heap.size + 1 + 1, 0, none⟩ (.int .i64 y.v.kind)).setCell ⟨w.heap.size + 1 + 1, 1, none⟩ (.string y.v.name)).setCell ⟨w.heap.size + 1 + 1, 2, none⟩ (.string y.v.to)).setCell ⟨w.heap.size + 1 + 1, 3, none⟩ (.int .i64 y.v.place)).setCell ⟨w.heap.size + 1 + 1, 4, none⟩ (.slice y.A y.n y.c)).setCell ⟨w.heap.size + 1 + 1, 5, none⟩ (.slice y.B y.m y.d)) (w.heap.size + 1 + 1 + 1) (.int .i64 x.v.kind) (.string x.v.name) (.string x.v.to) (.int .i64 x.v.place) (.slice x.A x.n x.c) (.slice x.B x.m x.d); have s3 := both_all (x := x) (y := y) (((HB0.out.later hlw).other k2 (by omega)).other k3 (by omega)) (((HB1.out.later hlw).other k2 (by omega)).other k3 (by omega)); have HLW := Lib.hid hlw; have HK2 := Lib.hid k2; have HK3 := Lib.hid k3; have HC2 := Lib.hid c2; have HC3 := Lib.hid c3; clear hl1 hlw k2 k3 c2 c3))
  go_wp2
  exact bodyPost_ret (results_two rfl _ _ _ _ _ _ _ _ _ _ _ _ rfl rfl rfl ((HC2.out.set6 (.int .i64 y.v.kind) (.string y.v.name) (.string y.v.to) (.int .i64 y.v.place) (.slice y.A y.n y.c) (.slice y.B y.m y.d)).other HK3.out (by omega)) (HC3.out.set6 (.int .i64 x.v.kind) (.string x.v.name) (.string x.v.to) (.int .i64 x.v.place) (.slice x.A x.n x.c) (.slice x.B x.m x.d)) Try.underlying27 rfl Try.primSize Try.primSize) rfl
    ⟨y, x, rfl, rfl, rfl, (fun _ hx9 hy9 => ⟨hy9, hx9⟩), ((HL.out.trans HLW.out).turn HK2.out (by omega)).turn HK3.out (by omega)⟩

end Go.Proofs.Ytalgapoigkbiaaa
