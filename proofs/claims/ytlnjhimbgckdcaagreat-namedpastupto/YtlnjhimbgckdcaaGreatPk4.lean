import Derived.Shelf.Strings.Search3
import Derived.Test.YtlnjhimbgckdcaaGreatChecked
import Derived.Test.YtlnjhimbgckdcaaGreatPk1
import Derived.Deep.LoopGhost
import Derived.Deep.QuietTactic
import Derived.BigQuiet
import Derived.Lib.Hide
import Derived.Test.YtlnjhimbgckdcaaGreatPk3
import Derived.Test.YtlnjhimbgckdcaaGreatPk2
import Derived.Deep.RegionHeld3

/-
  What calls of the library come to, laid at this program: whether a text has a byte.
-/
namespace Go.Proofs
open Go.Shelf
def Tryz.lays144_ren : Go.Shelf.Ren := ⟨fun | 144 => 58 | 143 => 70 | 219 => 80 | 217 => 88 | 225 => 89 | 224 => 90 | 267 => 91 | 266 => 97 | 314 => 98 | n => n, fun | 9 => 9 | 4 => 4 | 3 => 3 | 5 => 5 | 46 => 117 | 146 => 123 | 51 => 122 | n => n, fun | 1 => 0 | n => n⟩
theorem Tryz.lays144 : Go.Proofs.Lays.n144 Tryz.prog Tryz.lays144_ren := {
  mixed := by kernel_rfl
  f143 := Tryz.func70.trans (congrArg some (by kernel_rfl))
  f144 := Tryz.func58.trans (congrArg some (by kernel_rfl))
  f217 := Tryz.func88.trans (congrArg some (by kernel_rfl))
  f219 := Tryz.func80.trans (congrArg some (by kernel_rfl))
  f224 := Tryz.func90.trans (congrArg some (by kernel_rfl))
  f225 := Tryz.func89.trans (congrArg some (by kernel_rfl))
  f266 := Tryz.func97.trans (congrArg some (by kernel_rfl))
  f267 := Tryz.func91.trans (congrArg some (by kernel_rfl))
  f314 := Tryz.func98.trans (congrArg some (by kernel_rfl))
  t3 := Tryz.underlying3
  a3 := Tryz.isAgg3
  z3 := Tryz.sizeOf3
  v3 := Tryz.zeroValue3
  t4 := Tryz.underlying4
  a4 := Tryz.isAgg4
  z4 := Tryz.sizeOf4
  v4 := Tryz.zeroValue4
  t5 := Tryz.underlying5
  a5 := Tryz.isAgg5
  z5 := Tryz.sizeOf5
  v5 := Tryz.zeroValue5
  t9 := Tryz.underlying9
  a9 := Tryz.isAgg9
  z9 := Tryz.sizeOf9
  v9 := Tryz.zeroValue9
  t46 := Tryz.underlying117
  a46 := Tryz.isAgg117
  z46 := Tryz.sizeOf117
  v46 := Tryz.zeroValue117
  t51 := Tryz.underlying122
  a51 := Tryz.isAgg122
  z51 := Tryz.sizeOf122
  v51 := Tryz.zeroValue122
  t146 := Tryz.underlying123
  a146 := Tryz.isAgg123
  z146 := Tryz.sizeOf123
  v146 := Tryz.zeroValue123
  g1 := by kernel_rfl }
open Go.RowKit Go.Lib in
theorem Tryz.strings_Contains_one (s : ByteArray) (c : UInt8) (w : World) :
    Calls Tryz.prog 58 #[.string s, .string ⟨#[c]⟩] w fun e w' => e = .returned (.bool (decide (0 <= Lib.indexByte s.data.toList c))) /\ w' = w := Any.strings_Contains_one Tryz.lays144 s c w
end Go.Proofs

/-
  What line.Right comes to, as a call.
-/
namespace Go.Proofs.YtlnjhimbgckdcaaGreat
open Go.RowKit

set_option maxHeartbeats 400000 in
theorem right_any (s : ByteArray) (w : World) (hs : s.size <= maxLen) :
    Calls Tryz.prog 43 #[.string s] w fun e w' => e = .returned (.bool (rightB s)) /\ w = w' := by
  unfold maxLen at hs
  have hr : rightB s = (decide (s.size <= 60) && !hasEnd s) := rfl
  by_cases h : s.size <= 60
  · rw [decide_eq_true h, Bool.true_and] at hr
    have HR := Lib.hid hr; clear hr
    have hd : decide ((s.size : Int) <= 60) = true := by simp; omega
    have H := Lib.hid (Tryz.strings_Contains_one s 10 w)
    go_enter Tryz.func43, Tryz.ntmps43
    go_wp2_with (go_at_call 58; refine H.out.mono ?_; rintro e w' ⟨rfl, rfl⟩)
    go_ret
    exact ⟨by rw [HR.out]; rfl, rfl⟩
  · rw [decide_eq_false h, Bool.false_and] at hr
    have HR := Lib.hid hr; clear hr
    have hd : decide ((s.size : Int) <= 60) = false := by simp; omega
    go_enter Tryz.func43, Tryz.ntmps43
    go_wp2
    go_ret
    exact ⟨by rw [HR.out]; rfl, rfl⟩

end Go.Proofs.YtlnjhimbgckdcaaGreat

/-
  What line.All comes to, as a call.
-/
namespace Go.Proofs.YtlnjhimbgckdcaaGreat
open Go.RowKit

set_option maxHeartbeats 400000 in
theorem all_any (A : Option Addr) (n c : Nat) (l : List ByteArray) (w : World) (hx : Row w A n l) (hn : n <= 65536) (hs : ∀ x ∈ l, x.size <= maxLen) :
    Calls Tryz.prog 82 #[.slice A n c] w fun e w' => e = .returned (.bool (allB l)) /\ w = w' := by
  have HX := Lib.hid hx; clear hx
  have HS := Lib.hid hs; clear hs
  go_enter Tryz.func82, Tryz.ntmps82
  go_wp2
  go_loop [7] (fun i => ∃ k : Nat, k <= n /\ i = .int .i64 k /\ Hid (∀ j : Nat, j < k -> rightB (l.getD j ByteArray.empty) = true)) (fun i => n - (intOf i).toNat)
  case atStart => exact ⟨0, Nat.zero_le _, rfl, fun j hj => absurd hj (Nat.not_lt_zero _)⟩
  case round =>
    obtain ⟨k, hk, rfl, hall⟩ := hrel
    by_cases hlt : k < n
    · obtain ⟨b1, o1, rfl, g1⟩ := HX.out.get hlt
      have hkl : k < l.length := by rw [HX.out.len]; exact hlt
      have hsz : (l.getD k ByteArray.empty).size <= maxLen := by
        simp only [List.getD, List.getElem?_eq_getElem hkl, Option.getD_some]
        exact HS.out _ (List.getElem_mem hkl)
      have hr := right_any (l.getD k ByteArray.empty) w hsz
      cases hb : rightB (l.getD k ByteArray.empty)
      · rw [hb] at hr
        have e := allB_get hkl hb
        have E := Lib.hid e
        have HR := Lib.hid hr; clear hr hb hsz e hkl hall
        generalize l.getD k ByteArray.empty = x at g1 HR
        go_wp2_with (go_at_call 43; refine HR.out.mono ?_; rintro e w' ⟨rfl, rfl⟩)
        go_ret
        exact ⟨ret_bool E.out.symm, rfl⟩
      · rw [hb] at hr
        have HA : Hid (∀ j : Nat, j < k + 1 -> rightB (l.getD j ByteArray.empty) = true) := fun j hj => by
          by_cases e : j = k
          · rw [e]; exact hb
          · exact hall.out j (by omega)
        have HR := Lib.hid hr; clear hr hb hsz hkl hall
        generalize l.getD k ByteArray.empty = x at g1 HR
        go_wp2_with (go_at_call 43; refine HR.out.mono ?_; rintro e w' ⟨rfl, rfl⟩)
        exact ⟨⟨k + 1, by omega, by go_num, HA⟩, by simp [intOf]; omega⟩
    · have e : allB l = true := allB_all fun j hj => hall.out j (by rw [HX.out.len] at hj; omega)
      have E := Lib.hid e; clear e hall
      go_wp2
      go_ret
      exact ⟨ret_bool E.out.symm, rfl⟩

end Go.Proofs.YtlnjhimbgckdcaaGreat

/-
  What tree's Add, Remove, Move, Put and Get come to, as calls.
-/
namespace Go.Proofs.YtlnjhimbgckdcaaGreat
open Go.RowKit Go.Maps

def Does (r : Tr × Int) (p B : Nat) (w : World) (e : Ending) (w' : World) : Prop := e = .returned (.int .i64 r.2) /\ TreeAt w' p B r.1 /\ Turned B w w'

theorem Does.same {t : Tr} {p B : Nat} {w : World} {k : Int} (h : TreeAt w p B t) : Does (t, k) p B w (.returned (.int .i64 k)) w := ⟨rfl, h, Turned.refl _ _⟩

end Go.Proofs.YtlnjhimbgckdcaaGreat

/-
  What tree's Put comes to, as a call, where it is taken: the new row lies behind all that was there.
-/
namespace Go.Proofs.YtlnjhimbgckdcaaGreat
open Go.RowKit Go.Maps

def Off (g : Nat) (v : Value) : Prop := v.ownBlock ≠ some g

theorem Row.off {w w' : World} {g n c : Nat} {A : Option Addr} {l : List ByteArray} (h : Row w A n l) (hg : Turned g w w') (ho : l ≠ [] -> Off g (.slice A n c)) : Row w' A n l :=
  ⟨h.1, fun hn => by
    obtain ⟨b, o, rfl, hc⟩ := h.2 hn
    have hl : l ≠ [] := by
      rintro rfl
      have := h.1
      simp at this; omega
    refine ⟨b, o, rfl, fun j s hs => hg.cell (hc j s hs) ?_⟩
    intro e
    exact ho hl (by simp only [Value.ownBlock]; rw [show b = g from e])⟩
theorem FA.off {w w' : World} {B g : Nat} {z : Fl Held} (h : FA w B z) (hg : Turned g w w') (hB : B ≠ g) (ho : ∀ f ∈ z, f.2.2 ≠ [] -> Off g f.2.1) : FA w' B z :=
  ⟨h.own.kept hg (by simpa using hB), h.rise, fun f hf => by
    obtain ⟨A, n, c, e, h1, h2⟩ := h.reads f hf
    exact ⟨A, n, c, e, h1, h2.off (c := c) hg (by rw [← e]; exact ho f hf)⟩⟩

end Go.Proofs.YtlnjhimbgckdcaaGreat

/-
  What slices.Equal at rows of texts comes to, as a call.
-/
namespace Go.Proofs.YtlnjhimbgckdcaaGreat
open Go.RowKit

set_option maxHeartbeats 400000 in
theorem equal_any (A B : Option Addr) (n c m d : Nat) (xs ys : List ByteArray) (w : World) (hx : Row w A n xs) (hy : Row w B m ys) (hn : n <= 65536) (hm : m <= 65536) :
    Calls Tryz.prog 79 #[.slice A n c, .slice B m d] w fun e w' => e = .returned (.bool (sameB xs ys)) /\ ∃ q, w' = w.drewN q := by
  by_cases hnm : n = m
  · subst hnm
    have HX := Lib.hid hx; clear hx
    have HY := Lib.hid hy; clear hy
    go_enter Tryz.func79, Tryz.ntmps79
    go_wp2
    go_loopg [13] n (fun g s13 wr => ∃ k q : Nat, k <= n /\ n - k <= g /\ s13 = .int .i64 k /\ wr = w.drewN q /\ Hid (xs.take k = ys.take k))
    case atStart => exact ⟨0, 0, Nat.zero_le _, by omega, rfl, rfl, by simp [Hid]⟩
    case round =>
      obtain ⟨k, q, hk, hg, rfl, rfl, heq⟩ := hrel
      by_cases hlt : k < n
      · obtain ⟨b1, o1, rfl, g1⟩ := HX.out.get hlt
        obtain ⟨b2, o2, rfl, g2⟩ := HY.out.get hlt
        generalize hxk : xs.getD k ByteArray.empty = x at g1
        generalize hyk : ys.getD k ByteArray.empty = y at g2
        have X := Lib.hid hxk; clear hxk
        have Y := Lib.hid hyk; clear hyk
        by_cases hxy : x = y
        · subst hxy
          go_wp2_with fail
          go_quiet (fail)
          go_wp2
          go_roundg (n - (k + 1))
          case measure => omega
          case rel => exact ⟨k + 1, _, by omega, by omega, by go_num, rfl, take_same (by rw [HX.out.len]; exact hlt) (by rw [HY.out.len]; exact hlt) heq.out (X.out.trans Y.out.symm)⟩
        · have hb := text_ne hxy
          go_wp2_with fail
          go_quiet (fail)
          go_wp2
          go_ret
          refine ⟨?_, _, World.drewN_drewN _ _ _⟩
          rw [beq_of_other (by rw [X.out, Y.out]; exact hxy)]
          rfl
      · have hkn : k = n := by omega
        have e : sameB xs ys = true := by
          rw [hkn, List.take_of_length_le (by rw [HX.out.len]; omega), List.take_of_length_le (by rw [HY.out.len]; omega)] at heq
          exact sameB_yes heq.out
        have E := Lib.hid e; clear e heq
        go_wp2
        go_ret
        exact ⟨by rw [E.out]; rfl, _, rfl⟩
  · have e : sameB xs ys = false := by
      refine sameB_no fun h => ?_; rw [h] at hx; exact hnm (hx.len.symm.trans hy.len)
    have E := Lib.hid e; clear e hx hy
    have hnm' : ¬ (n : Int) = (m : Int) := by omega
    go_enter Tryz.func79, Tryz.ntmps79
    go_wp2
    go_ret
    exact ⟨by rw [E.out]; rfl, 0, rfl⟩

end Go.Proofs.YtlnjhimbgckdcaaGreat

/-
  What line.Same comes to, as a call.
-/
namespace Go.Proofs.YtlnjhimbgckdcaaGreat
open Go.RowKit

set_option maxHeartbeats 400000 in
theorem same_any (A B : Option Addr) (n c m d : Nat) (xs ys : List ByteArray) (w : World) (hx : Row w A n xs) (hy : Row w B m ys) (hn : n <= 65536) (hm : m <= 65536) :
    Calls Tryz.prog 69 #[.slice A n c, .slice B m d] w fun e w' => e = .returned (.bool (sameB xs ys)) /\ ∃ q, w' = w.drewN q := by
  have H := Lib.hid (equal_any A B n c m d xs ys w hx hy hn hm)
  clear hx hy
  go_enter Tryz.func69, Tryz.ntmps69
  go_wp2_with (go_at_call 79; refine H.out.mono ?_; rintro e w' ⟨rfl, q, rfl⟩)
  go_ret
  exact ⟨rfl, q, rfl⟩

end Go.Proofs.YtlnjhimbgckdcaaGreat

/-
  What prim's Same comes to, as a call.
-/
namespace Go.Proofs.YtlnjhimbgckdcaaGreat
open Go.RowKit

set_option maxRecDepth 100000 in
set_option maxHeartbeats 800000 in
theorem primSame_any (x y : PrC) (w : World) (hx : PrOk w x) (hy : PrOk w y) :
    Calls Tryz.prog 57 #[prV x, prV y] w (Says (sameP x.v y.v) w) := by
  obtain ⟨⟨kd, nm, to, pl, old, new⟩, A, n, c, B, m, d⟩ := x
  obtain ⟨⟨kd', nm', to', pl', old', new'⟩, A', n', c', B', m', d'⟩ := y
  have hlb : Later w ((w.alloc (.cells #[.int .i64 kd, .string nm, .string to, .int .i64 pl, .slice A n c, .slice B m d] 58)).alloc (.cells #[.int .i64 kd', .string nm', .string to', .int .i64 pl', .slice A' n' c', .slice B' m' d'] 58)) := ((Later.refl w).alloc _).alloc _
  have H1 := Lib.hid (same_any A A' n c n' c' old old' _ (hx.old.later hlb) (hy.old.later hlb) hx.omost hy.omost)
  have H2 := Lib.hid (fun (w1 : World) (h : Later w w1) => same_any B B' m d m' d' new new' w1 (hx.new.later h) (hy.new.later h) hx.nmost hy.nmost)
  have HLB := Lib.hid hlb
  have HX := Lib.hid hx; have HY := Lib.hid hy
  unfold prV
  dsimp only
  clear hx hy hlb
  by_cases h1 : kd = kd'
  · subst h1
    by_cases h2 : nm = nm'
    · subst h2
      by_cases h3 : to = to'
      · subst h3
        by_cases h4 : pl = pl'
        · subst h4
          have E : Hid (sameP ⟨kd, nm, to, pl, old, new⟩ ⟨kd, nm, to, pl, old', new'⟩ = (sameB old old' && sameB new new')) := by simp [Hid, sameP]
          rw [E.out]
          clear E
          cases h5 : sameB old old'
          · rw [h5] at H1
            rw [Bool.false_and]
            go_enter Tryz.func57, Tryz.ntmps57
            go_wp2_with fail
            refine H1.out.mono ?_
            rintro e w1 ⟨rfl, q, rfl⟩
            go_wp2
            go_ret
            exact ⟨rfl, HLB.out.drewN q⟩
          · rw [h5] at H1
            rw [Bool.true_and]
            generalize sameB new new' = b at H2 ⊢
            go_enter Tryz.func57, Tryz.ntmps57
            go_wp2_with fail
            refine H1.out.mono ?_
            rintro e w1 ⟨rfl, q, rfl⟩
            go_wp2_with fail
            refine (H2.out _ (HLB.out.drewN q)).mono ?_
            rintro e w1 ⟨rfl, q2, rfl⟩
            go_wp2
            go_ret
            exact ⟨rfl, HLB.out.drewN _⟩
        · have E : Hid (sameP ⟨kd, nm, to, pl, old, new⟩ ⟨kd, nm, to, pl', old', new'⟩ = false) := by simp [Hid, sameP, h4]
          rw [E.out]
          clear E
          go_enter Tryz.func57, Tryz.ntmps57
          go_wp2
          go_ret
          exact ⟨rfl, HLB.out⟩
      · have E : Hid (sameP ⟨kd, nm, to, pl, old, new⟩ ⟨kd, nm, to', pl', old', new'⟩ = false) := by simp [Hid, sameP, h3]
        rw [E.out]
        have hb := text_ne h3
        clear E
        go_enter Tryz.func57, Tryz.ntmps57
        go_wp2
        go_ret
        exact ⟨rfl, HLB.out⟩
    · have E : Hid (sameP ⟨kd, nm, to, pl, old, new⟩ ⟨kd, nm', to', pl', old', new'⟩ = false) := by simp [Hid, sameP, h2]
      rw [E.out]
      have hb := text_ne h2
      clear E
      go_enter Tryz.func57, Tryz.ntmps57
      go_wp2
      go_ret
      exact ⟨rfl, HLB.out⟩
  · have E : Hid (sameP ⟨kd, nm, to, pl, old, new⟩ ⟨kd', nm', to', pl', old', new'⟩ = false) := by simp [Hid, sameP, h1]
    rw [E.out]
    clear E
    go_enter Tryz.func57, Tryz.ntmps57
    go_wp2
    go_ret
    exact ⟨rfl, HLB.out⟩

end Go.Proofs.YtlnjhimbgckdcaaGreat

/-
  What prim's changesLines and hasNoLines come to, as calls.
-/
namespace Go.Proofs.YtlnjhimbgckdcaaGreat
open Go.RowKit

set_option maxHeartbeats 400000 in
theorem changes_any (x : PrC) (w : World) (hx : PrOk w x) :
    Calls Tryz.prog 73 #[prV x] w (Says (allB x.v.old && allB x.v.new && !sameB x.v.old x.v.new) w) := by
  obtain ⟨⟨kd, nm, to, pl, old, new⟩, A, n, c, B, m, d⟩ := x
  unfold prV
  dsimp only
  have hlb : Later w (w.alloc (.cells #[.int .i64 kd, .string nm, .string to, .int .i64 pl, .slice A n c, .slice B m d] 58)) := (Later.refl w).alloc _
  have H1 := Lib.hid (all_any A n c old _ (hx.old.later hlb) hx.omost hx.olds)
  have H2 := Lib.hid (all_any B m d new _ (hx.new.later hlb) hx.nmost hx.news)
  have H3 := Lib.hid (same_any A B n c m d old new _ (hx.old.later hlb) (hx.new.later hlb) hx.omost hx.nmost)
  have HLB := Lib.hid hlb
  clear hx hlb
  cases h1 : allB old
  · rw [h1] at H1
    go_enter Tryz.func73, Tryz.ntmps73
    go_wp2_with fail
    refine H1.out.mono ?_
    rintro e w1 ⟨rfl, rfl⟩
    go_wp2
    go_ret
    exact ⟨rfl, HLB.out⟩
  · rw [h1] at H1
    cases h2 : allB new
    · rw [h2] at H2
      go_enter Tryz.func73, Tryz.ntmps73
      go_wp2_with fail
      refine H1.out.mono ?_
      rintro e w1 ⟨rfl, rfl⟩
      go_wp2_with fail
      refine H2.out.mono ?_
      rintro e w1 ⟨rfl, rfl⟩
      go_wp2
      go_ret
      exact ⟨rfl, HLB.out⟩
    · rw [h2] at H2
      generalize sameB old new = b at H3 ⊢
      go_enter Tryz.func73, Tryz.ntmps73
      go_wp2_with fail
      refine H1.out.mono ?_
      rintro e w1 ⟨rfl, rfl⟩
      go_wp2_with fail
      refine H2.out.mono ?_
      rintro e w1 ⟨rfl, rfl⟩
      go_wp2_with fail
      refine H3.out.mono ?_
      rintro e w1 ⟨rfl, q, rfl⟩
      go_wp2
      go_ret
      exact ⟨rfl, HLB.out.drewN q⟩

def bareP (p : Pr) : Bool := decide (p.place = 0) && decide (p.old = []) && decide (p.new = [])

set_option maxHeartbeats 400000 in
theorem bare_any (x : PrC) (w : World) (hx : PrOk w x) :
    Calls Tryz.prog 74 #[prV x] w (Says (bareP x.v) w) := by
  obtain ⟨⟨kd, nm, to, pl, old, new⟩, A, n, c, B, m, d⟩ := x
  unfold prV
  dsimp only
  have hlb : Later w (w.alloc (.cells #[.int .i64 kd, .string nm, .string to, .int .i64 pl, .slice A n c, .slice B m d] 58)) := (Later.refl w).alloc _
  have HLB := Lib.hid hlb
  have hn := hx.old.len
  have hm := hx.new.len
  have hn1 := hx.omost
  have hm1 := hx.nmost
  dsimp only at hn hm hn1 hm1
  clear hx hlb
  by_cases h0 : pl = 0
  · subst h0
    by_cases h1 : n = 0
    · have e1 : old = [] := List.eq_nil_of_length_eq_zero (hn.trans h1)
      by_cases h2 : m = 0
      · have e2 : new = [] := List.eq_nil_of_length_eq_zero (hm.trans h2)
        have E : Hid (bareP ⟨kd, nm, to, 0, old, new⟩ = true) := by simp [Hid, bareP, e1, e2]
        subst h1 h2
        clear e1 e2
        go_enter Tryz.func74, Tryz.ntmps74
        go_wp2
        go_ret
        exact ⟨ret_bool E.out.symm, HLB.out⟩
      · have e2 : new ≠ [] := by rintro rfl; exact h2 hm.symm
        have E : Hid (bareP ⟨kd, nm, to, 0, old, new⟩ = false) := by simp [Hid, bareP, e2]
        subst h1
        have h2' : ¬ (m : Int) = 0 := by omega
        clear e1 e2
        go_enter Tryz.func74, Tryz.ntmps74
        go_wp2
        go_ret
        exact ⟨by rw [E.out]; simp [h2], HLB.out⟩
    · have e1 : old ≠ [] := by rintro rfl; exact h1 hn.symm
      have E : Hid (bareP ⟨kd, nm, to, 0, old, new⟩ = false) := by simp [Hid, bareP, e1]
      have h1' : ¬ (n : Int) = 0 := by omega
      clear e1
      go_enter Tryz.func74, Tryz.ntmps74
      go_wp2
      go_ret
      exact ⟨ret_bool E.out.symm, HLB.out⟩
  · have E : Hid (bareP ⟨kd, nm, to, pl, old, new⟩ = false) := by simp [Hid, bareP, h0]
    go_enter Tryz.func74, Tryz.ntmps74
    go_wp2
    go_ret
    exact ⟨ret_bool E.out.symm, HLB.out⟩

end Go.Proofs.YtlnjhimbgckdcaaGreat

/-
  What prim's Right comes to, as a call.
-/
namespace Go.Proofs.YtlnjhimbgckdcaaGreat
open Go.RowKit

theorem rightP_hunk (nm to : ByteArray) (pl : Int) (old new : List ByteArray) (hn : namedB nm = true) : rightP ⟨0, nm, to, pl, old, new⟩ = (decide (to = ByteArray.empty) && decide (0 <= pl /\ pl <= 1048576) && (allB old && allB new && !sameB old new)) := by
  simp only [rightP, hn, Bool.true_and, if_true, Bool.and_assoc]
theorem rightP_one (k : Int) (nm to : ByteArray) (pl : Int) (old new : List ByteArray) (hn : namedB nm = true) (hk : k = 1 ∨ k = 2) : rightP ⟨k, nm, to, pl, old, new⟩ = (decide (to = ByteArray.empty) && bareP ⟨k, nm, to, pl, old, new⟩) := by
  have h0 : k ≠ 0 := by omega
  have h3 : k ≠ 3 := by omega
  simp only [rightP, bareP, hn, Bool.true_and, if_neg h0, if_neg h3, decide_eq_true hk]
  rw [Bool.and_comm]
theorem rightP_move (nm to : ByteArray) (pl : Int) (old new : List ByteArray) (hn : namedB nm = true) : rightP ⟨3, nm, to, pl, old, new⟩ = (namedB to && (decide (to ≠ nm) && bareP ⟨3, nm, to, pl, old, new⟩)) := by
  simp only [rightP, bareP, hn, Bool.true_and, Int.reduceEq, if_false, if_true]
  rw [Bool.and_comm, Bool.and_assoc]
theorem rightP_none (k : Int) (nm to : ByteArray) (pl : Int) (old new : List ByteArray) (h0 : k ≠ 0) (h1 : k ≠ 1) (h2 : k ≠ 2) (h3 : k ≠ 3) : rightP ⟨k, nm, to, pl, old, new⟩ = false := by
  simp [rightP, h0, h1, h2, h3]
theorem rightP_name (k : Int) (nm to : ByteArray) (pl : Int) (old new : List ByteArray) (hn : namedB nm = false) : rightP ⟨k, nm, to, pl, old, new⟩ = false := by
  simp [rightP, hn]

set_option maxRecDepth 100000 in
set_option maxHeartbeats 800000 in
theorem primRight_any (x : PrC) (w : World) (hx : PrOk w x) :
    Calls Tryz.prog 61 #[prV x] w (Says (rightP x.v) w) := by
  have hlb0 : Later w (w.alloc (.cells #[.int .i64 x.v.kind, .string x.v.name, .string x.v.to, .int .i64 x.v.place, .slice x.A x.n x.c, .slice x.B x.m x.d] 58)) := (Later.refl w).alloc _
  have HC := Lib.hid (changes_any x _ (hx.later hlb0))
  have HB := Lib.hid (bare_any x _ (hx.later hlb0))
  obtain ⟨⟨kd, nm, to, pl, old, new⟩, A, n, c, B, m, d⟩ := x
  have hn := named_any nm (w.alloc (.cells #[.int .i64 kd, .string nm, .string to, .int .i64 pl, .slice A n c, .slice B m d] 58)) hx.name
  have ht := named_any to (w.alloc (.cells #[.int .i64 kd, .string nm, .string to, .int .i64 pl, .slice A n c, .slice B m d] 58)) hx.to
  have HLB := Lib.hid hlb0
  unfold prV at HC HB ⊢
  dsimp only at HC HB HLB ⊢
  clear hx hlb0
  cases h1 : namedB nm
  · rw [h1] at hn
    have HN := Lib.hid hn
    rw [rightP_name kd nm to pl old new h1]
    clear hn ht h1
    go_enter Tryz.func61, Tryz.ntmps61
    go_wp2_with fail
    refine HN.out.mono ?_
    rintro e w1 ⟨rfl, rfl⟩
    go_wp2
    go_ret
    exact ⟨rfl, HLB.out⟩
  rw [h1] at hn
  have HN := Lib.hid hn
  have HT := Lib.hid ht
  clear hn ht
  by_cases k0 : kd = 0
  · subst k0
    rw [rightP_hunk nm to pl old new h1]
    clear h1
    by_cases h2 : to = ByteArray.empty
    · subst h2
      by_cases h3 : 0 <= pl
      · by_cases h4 : pl <= 1048576
        · rw [decide_eq_true (show 0 <= pl /\ pl <= 1048576 from ⟨h3, h4⟩), decide_eq_true (rfl : ByteArray.empty = ByteArray.empty), Bool.true_and, Bool.true_and]
          generalize (allB old && allB new && !sameB old new) = b at HC ⊢
          go_enter Tryz.func61, Tryz.ntmps61
          go_wp2_with fail
          refine HN.out.mono ?_
          rintro e w1 ⟨rfl, rfl⟩
          go_wp2_with fail
          refine HC.out.mono ?_
          rintro e w1 ⟨rfl, hl1⟩
          have HL1 := Lib.hid hl1; clear hl1
          go_wp2
          go_ret
          exact ⟨rfl, HLB.out.trans HL1.out⟩
        · have e : ¬ (0 <= pl /\ pl <= 1048576) := fun h => h4 h.2
          rw [decide_eq_false e, Bool.and_false, Bool.false_and]
          clear e
          go_enter Tryz.func61, Tryz.ntmps61
          go_wp2_with fail
          refine HN.out.mono ?_
          rintro e w1 ⟨rfl, rfl⟩
          go_wp2
          go_ret
          exact ⟨rfl, HLB.out⟩
      · have e : ¬ (0 <= pl /\ pl <= 1048576) := fun h => h3 h.1
        rw [decide_eq_false e, Bool.and_false, Bool.false_and]
        clear e
        go_enter Tryz.func61, Tryz.ntmps61
        go_wp2_with fail
        refine HN.out.mono ?_
        rintro e w1 ⟨rfl, rfl⟩
        go_wp2
        go_ret
        exact ⟨rfl, HLB.out⟩
    · have hb := list_ne h2
      rw [decide_eq_false h2, Bool.false_and, Bool.false_and]
      go_enter Tryz.func61, Tryz.ntmps61
      go_wp2_with fail
      refine HN.out.mono ?_
      rintro e w1 ⟨rfl, rfl⟩
      go_wp2
      go_ret
      exact ⟨rfl, HLB.out⟩
  by_cases k12 : kd = 1 ∨ kd = 2
  · rw [rightP_one kd nm to pl old new h1 k12]
    clear h1
    by_cases h2 : to = ByteArray.empty
    · subst h2
      rw [decide_eq_true (rfl : ByteArray.empty = ByteArray.empty), Bool.true_and]
      generalize bareP ⟨kd, nm, ByteArray.empty, pl, old, new⟩ = b at HB ⊢
      rcases k12 with rfl | rfl
      all_goals
        go_enter Tryz.func61, Tryz.ntmps61
        go_wp2_with fail
        refine HN.out.mono ?_
        rintro e w1 ⟨rfl, rfl⟩
        go_wp2_with fail
        refine HB.out.mono ?_
        rintro e w1 ⟨rfl, hl1⟩
        have HL1 := Lib.hid hl1; clear hl1
        go_wp2
        go_ret
        exact ⟨rfl, HLB.out.trans HL1.out⟩
    · have hb := list_ne h2
      rw [decide_eq_false h2, Bool.false_and]
      rcases k12 with rfl | rfl
      all_goals
        go_enter Tryz.func61, Tryz.ntmps61
        go_wp2_with fail
        refine HN.out.mono ?_
        rintro e w1 ⟨rfl, rfl⟩
        go_wp2
        go_ret
        exact ⟨rfl, HLB.out⟩
  by_cases k3 : kd = 3
  · subst k3
    rw [rightP_move nm to pl old new h1]
    clear h1 k0 k12
    cases h2 : namedB to
    · rw [h2] at HT
      rw [Bool.false_and]
      go_enter Tryz.func61, Tryz.ntmps61
      go_wp2_with fail
      refine HN.out.mono ?_
      rintro e w1 ⟨rfl, rfl⟩
      go_wp2_with fail
      refine HT.out.mono ?_
      rintro e w1 ⟨rfl, rfl⟩
      go_wp2
      go_ret
      exact ⟨rfl, HLB.out⟩
    · rw [h2] at HT
      rw [Bool.true_and]
      clear h2
      by_cases h3 : to = nm
      · subst h3
        rw [decide_eq_false (fun h : to ≠ to => h rfl), Bool.false_and]
        go_enter Tryz.func61, Tryz.ntmps61
        go_wp2_with fail
        refine HN.out.mono ?_
        rintro e w1 ⟨rfl, rfl⟩
        go_wp2_with fail
        refine HT.out.mono ?_
        rintro e w1 ⟨rfl, rfl⟩
        go_wp2
        go_ret
        exact ⟨rfl, HLB.out⟩
      · rw [decide_eq_true h3, Bool.true_and]
        have hb := text_ne h3
        generalize bareP ⟨3, nm, to, pl, old, new⟩ = b at HB ⊢
        go_enter Tryz.func61, Tryz.ntmps61
        go_wp2_with fail
        refine HN.out.mono ?_
        rintro e w1 ⟨rfl, rfl⟩
        go_wp2_with fail
        refine HT.out.mono ?_
        rintro e w1 ⟨rfl, rfl⟩
        go_wp2_with fail
        refine HB.out.mono ?_
        rintro e w1 ⟨rfl, hl1⟩
        have HL1 := Lib.hid hl1; clear hl1
        go_wp2
        go_ret
        exact ⟨rfl, HLB.out.trans HL1.out⟩
  · have k1 : kd ≠ 1 := fun h => k12 (.inl h)
    have k2 : kd ≠ 2 := fun h => k12 (.inr h)
    rw [rightP_none kd nm to pl old new k0 k1 k2 k3]
    clear h1 k12
    go_enter Tryz.func61, Tryz.ntmps61
    go_wp2_with fail
    refine HN.out.mono ?_
    rintro e w1 ⟨rfl, rfl⟩
    go_wp2
    go_ret
    exact ⟨rfl, HLB.out⟩

end Go.Proofs.YtlnjhimbgckdcaaGreat

/-
  Prims as values, and what calls on them tell.
-/
namespace Go.Proofs.YtlnjhimbgckdcaaGreat
open Go.RowKit Go.Maps

def PrimAt (w : World) (v : Value) (p : Pr) : Prop := ∃ x : PrC, v = prV x /\ x.v = p /\ PrOk w x
theorem PrimAt.later {w w' : World} {v : Value} {p : Pr} (h : PrimAt w v p) (hl : Later w w') : PrimAt w' v p := by
  obtain ⟨x, e1, e2, e3⟩ := h; exact ⟨x, e1, e2, e3.later hl⟩
theorem PrOk.at {w : World} {x : PrC} (h : PrOk w x) : PrimAt w (prV x) x.v := ⟨x, rfl, rfl, h⟩
def GivesP (p : Pr) (w : World) (e : Ending) (w' : World) : Prop := ∃ v, e = .returned v /\ PrimAt w' v p /\ Later w w'

structure Mild (p : Pr) : Prop where
  omost : p.old.length <= 65536
  nmost : p.new.length <= 65536
  name : p.name.size <= maxLen
  to : p.to.size <= maxLen
  lo : -9223372036854775808 <= p.place
  hi : p.place <= 9223372036854775807
  olds : ∀ s ∈ p.old, s.size <= maxLen
  news : ∀ s ∈ p.new, s.size <= maxLen
theorem PrOk.mild {w : World} {x : PrC} (h : PrOk w x) : Mild x.v := ⟨by rw [h.old.len]; exact h.omost, by rw [h.new.len]; exact h.nmost, h.name, h.to, h.lo, h.hi, h.olds, h.news⟩
theorem IsPr.at {p : Pr} {w w' : World} {u v : Value} (h : IsPr p w w' u v) (hm : Mild p) : PrimAt w' (.agg #[.int .i64 p.kind, .string p.name, .string p.to, .int .i64 p.place, u, v]) p := by
  obtain ⟨x, e1, e2, e3⟩ := h.ok hm.omost hm.nmost hm.name hm.to hm.lo hm.hi hm.olds hm.news
  exact ⟨x, e2, e1, e3⟩
theorem GivesPr.at {p : Pr} {w w' : World} {e : Ending} (h : GivesPr p w e w') (hm : Mild p) : GivesP p w e w' := by
  obtain ⟨u, v, rfl, hp⟩ := h
  exact ⟨_, rfl, hp.at hm, hp.later⟩


end Go.Proofs.YtlnjhimbgckdcaaGreat

/-
  What stands in memory while a statement that swaps two prims, and keeps both, goes on in whatever order.
-/
namespace Go.Proofs.YtlnjhimbgckdcaaGreat
open Go.RowKit Go.Maps

def Away (g : Nat) (x : PrC) : Prop := (x.v.old ≠ [] -> Off g (.slice x.A x.n x.c)) /\ (x.v.new ≠ [] -> Off g (.slice x.B x.m x.d))
def Fresh (w : World) (x : PrC) : Prop := (∀ k, (Value.slice x.A x.n x.c).ownBlock = some k -> w.heap.size <= k) /\ (∀ k, (Value.slice x.B x.m x.d).ownBlock = some k -> w.heap.size <= k)
theorem PrOk.off {w w' : World} {g : Nat} {x : PrC} (h : PrOk w x) (hg : Turned g w w') (ha : Away g x) : PrOk w' x :=
  ⟨h.old.off (c := x.c) hg ha.1, h.new.off (c := x.d) hg ha.2, h.oroom, h.nroom, h.omost, h.nmost, h.name, h.to, h.lo, h.hi, h.olds, h.news⟩
theorem Row.awayG {w : World} {A : Option Addr} {n c g : Nat} {l : List ByteArray} (h : Row w A n l) (hg : w.heap.size <= g) (hl : l ≠ []) : Off g (.slice A n c) := by
  have hn : 0 < n := by
    have := h.1
    cases l with
    | nil => exact absurd rfl hl
    | cons s l => simp at this; omega
  obtain ⟨b, o, rfl, hc⟩ := h.2 hn
  cases l with
  | nil => exact absurd rfl hl
  | cons s l =>
    have h1 := lt_of_cell (hc 0 s rfl)
    intro e
    simp only [Value.ownBlock, Option.some.injEq] at e
    dsimp only at h1
    omega
theorem PrOk.away {w : World} {x : PrC} {g : Nat} (h : PrOk w x) (hg : w.heap.size <= g) : Away g x := ⟨h.old.awayG hg, h.new.awayG hg⟩
theorem Fresh.away {w : World} {x : PrC} {g : Nat} (h : Fresh w x) (hg : g < w.heap.size) : Away g x :=
  ⟨fun _ e => by have := h.1 g e; omega, fun _ e => by have := h.2 g e; omega⟩

structure Dat where
  i : PrC
  j : PrC
  c : PrC
  d : PrC
  g8 : Nat
  g9 : Nat

structure Wd (wx : World) (p q r s : Pr) (bi bj bs b8 b9 bt bu : Bool) (D : Dat) (w : World) : Prop where
  later : Later wx w
  wi : bi = true -> bs = false -> D.i.v = p /\ PrOk w D.i
  wj : bj = true -> bs = false -> D.j.v = q /\ PrOk w D.j
  wc : bs = true -> D.c.v = r /\ D.d.v = s /\ PrOk w D.c /\ PrOk w D.d
  w8 : b8 = true -> wx.heap.size <= D.g8 /\ ∃ cs, cs.size = 6 /\ BoxAt w D.g8 cs 58 /\ (bt = true -> cs = (prL D.c).toArray)
  w9 : b9 = true -> wx.heap.size <= D.g9 /\ ∃ cs, cs.size = 6 /\ BoxAt w D.g9 cs 58 /\ (bu = true -> cs = (prL D.d).toArray)
  n : b8 = true -> b9 = true -> D.g8 ≠ D.g9
  a8 : bs = true -> b8 = true -> Away D.g8 D.c /\ Away D.g8 D.d
  a9 : bs = true -> b9 = true -> Away D.g9 D.c /\ Away D.g9 D.d

section
variable {wx w w' : World} {p q r s : Pr} {bi bj bs b8 b9 bt bu : Bool} {D : Dat}
theorem Wd.start (D : Dat) (hl : Later wx w) : Wd wx p q r s false false false false false false false D w :=
  ⟨hl, (fun h => by cases h), (fun h => by cases h), (fun h => by cases h), (fun h => by cases h), (fun h => by cases h), (fun h => by cases h), (fun h => by cases h), (fun h => by cases h)⟩
theorem Wd.on (h : Wd wx p q r s bi bj bs b8 b9 bt bu D w) (hl : Later w w') : Wd wx p q r s bi bj bs b8 b9 bt bu D w' :=
  ⟨h.later.trans hl, fun e f => ⟨(h.wi e f).1, (h.wi e f).2.later hl⟩, fun e f => ⟨(h.wj e f).1, (h.wj e f).2.later hl⟩, fun e => ⟨(h.wc e).1, (h.wc e).2.1, (h.wc e).2.2.1.later hl, (h.wc e).2.2.2.later hl⟩,
    (fun e => by obtain ⟨h1, cs, h2, h3, h4⟩ := h.w8 e; exact ⟨h1, cs, h2, h3.later hl, h4⟩), (fun e => by obtain ⟨h1, cs, h2, h3, h4⟩ := h.w9 e; exact ⟨h1, cs, h2, h3.later hl, h4⟩), h.n, h.a8, h.a9⟩
theorem Wd.swap (h : Wd wx p q r s bi bj false b8 b9 false false D w) (hl : Later w w') {c d : PrC} (hc : c.v = r) (hd : d.v = s) (oc : PrOk w' c) (od : PrOk w' d) (fc : Fresh w c) (fd : Fresh w d) : Wd wx p q r s bi bj true b8 b9 false false { D with c := c, d := d } w' :=
  { h.on hl with
    wi := fun _ e => by cases e
    wj := fun _ e => by cases e
    wc := fun _ => ⟨hc, hd, oc, od⟩
    w8 := fun e => by obtain ⟨h1, cs, h2, h3, h4⟩ := (h.on hl).w8 e; exact ⟨h1, cs, h2, h3, fun e => by cases e⟩
    w9 := fun e => by obtain ⟨h1, cs, h2, h3, h4⟩ := (h.on hl).w9 e; exact ⟨h1, cs, h2, h3, fun e => by cases e⟩
    a8 := fun _ e => by obtain ⟨_, _, _, h3, _⟩ := h.w8 e; exact ⟨fc.away h3.lt, fd.away h3.lt⟩
    a9 := fun _ e => by obtain ⟨_, _, _, h3, _⟩ := h.w9 e; exact ⟨fc.away h3.lt, fd.away h3.lt⟩ }
theorem Wd.alloc8 (h : Wd wx p q r s bi bj bs false b9 false bu D w) : Wd wx p q r s bi bj bs true b9 false bu { D with g8 := w.heap.size } (w.alloc (.cells zeroL 58)) :=
  { h.on ((Later.refl w).alloc _) with
    w8 := fun _ => ⟨h.later.le, zeroL, rfl, BoxAt.made w zeroL 58, fun e => by cases e⟩
    n := fun _ e => by obtain ⟨_, _, _, h3, _⟩ := h.w9 e; have := h3.lt; show w.heap.size ≠ D.g9; omega
    a8 := fun e _ => ⟨(h.wc e).2.2.1.away (Nat.le_refl _), (h.wc e).2.2.2.away (Nat.le_refl _)⟩ }
theorem Wd.alloc9 (h : Wd wx p q r s bi bj bs b8 false bt false D w) : Wd wx p q r s bi bj bs b8 true bt false { D with g9 := w.heap.size } (w.alloc (.cells zeroL 58)) :=
  { h.on ((Later.refl w).alloc _) with
    w9 := fun _ => ⟨h.later.le, zeroL, rfl, BoxAt.made w zeroL 58, fun e => by cases e⟩
    n := fun e _ => by obtain ⟨_, _, _, h3, _⟩ := h.w8 e; have := h3.lt; show D.g8 ≠ w.heap.size; omega
    a9 := fun e _ => ⟨(h.wc e).2.2.1.away (Nat.le_refl _), (h.wc e).2.2.2.away (Nat.le_refl _)⟩ }
theorem Wd.st8 (h : Wd wx p q r s bi bj true true true bt bu D w) (hb : BoxAt w' D.g8 (prL D.c).toArray 58) (ht : Turned D.g8 w w') : Wd wx p q r s bi bj true true true true bu D w' :=
  { h with
    later := h.later.turn ht (h.w8 rfl).1
    wi := fun _ e => by cases e
    wj := fun _ e => by cases e
    wc := fun _ => ⟨(h.wc rfl).1, (h.wc rfl).2.1, (h.wc rfl).2.2.1.off ht (h.a8 rfl rfl).1, (h.wc rfl).2.2.2.off ht (h.a8 rfl rfl).2⟩
    w8 := fun _ => ⟨(h.w8 rfl).1, _, rfl, hb, fun _ => rfl⟩
    w9 := fun _ => by obtain ⟨h1, cs, h2, h3, h4⟩ := h.w9 rfl; exact ⟨h1, cs, h2, h3.other ht (Ne.symm (h.n rfl rfl)), h4⟩ }
theorem Wd.st9 (h : Wd wx p q r s bi bj true true true bt bu D w) (hb : BoxAt w' D.g9 (prL D.d).toArray 58) (ht : Turned D.g9 w w') : Wd wx p q r s bi bj true true true bt true D w' :=
  { h with
    later := h.later.turn ht (h.w9 rfl).1
    wi := fun _ e => by cases e
    wj := fun _ e => by cases e
    wc := fun _ => ⟨(h.wc rfl).1, (h.wc rfl).2.1, (h.wc rfl).2.2.1.off ht (h.a9 rfl rfl).1, (h.wc rfl).2.2.2.off ht (h.a9 rfl rfl).2⟩
    w9 := fun _ => ⟨(h.w9 rfl).1, _, rfl, hb, fun _ => rfl⟩
    w8 := fun _ => by obtain ⟨h1, cs, h2, h3, h4⟩ := h.w8 rfl; exact ⟨h1, cs, h2, h3.other ht (h.n rfl rfl), h4⟩ }
end

end Go.Proofs.YtlnjhimbgckdcaaGreat

/-
  Two prims in the other order, by the program's own cases, as plain values: they are the document's. Nothing of any program.
-/
namespace Go.Proofs.YtlnjhimbgckdcaaGreat
open Go.RowKit

def zeroPr : Pr := ⟨0, ByteArray.empty, ByteArray.empty, 0, [], []⟩
def noneP : Pr × Pr × Bool := (zeroPr, zeroPr, false)
def turnHH (p q : Pr) : Pr × Pr × Bool :=
  if p.name ≠ q.name then (q, p, true)
  else if q.place > p.place + p.new.length then (placed q (q.place - (p.new.length - p.old.length)), p, true)
  else if q.place + q.old.length < p.place then (q, placed p (p.place + (q.new.length - q.old.length)), true)
  else noneP
def turnHM (p q : Pr) : Pr × Pr × Bool := if p.name = q.to then noneP else if p.name = q.name then (q, inFile p q.to, true) else (q, p, true)
def turnMH (p q : Pr) : Pr × Pr × Bool := if q.name = p.name then noneP else if q.name = p.to then (inFile q p.name, p, true) else (q, p, true)
def turnP (p q : Pr) : Pr × Pr × Bool :=
  if p.kind = 0 /\ q.kind = 0 then turnHH p q
  else if p.kind = 0 /\ q.kind = 3 then turnHM p q
  else if p.kind = 3 /\ q.kind = 0 then turnMH p q
  else (q, p, !commonP p q)
def heedP (r : Pr × Pr × Bool) : Option (Pr × Pr) := if r.2.2 = true /\ rightP r.1 = true /\ rightP r.2.1 = true then some (r.1, r.2.1) else none
theorem swapP_two (p q : Pr) (hp : rightP p = true) (hq : rightP q = true) : swapP p q = heedP (twoP p q) := by
  simp only [swapP, heedP, hp, hq, true_and]
theorem swapP_not (p q : Pr) (h : ¬ (rightP p = true /\ rightP q = true)) : swapP p q = none := by
  unfold swapP
  rw [if_neg]
  exact fun k => h ⟨k.1, k.2.1⟩
theorem heed_none : heedP noneP = none := rfl
theorem heed_false (a b : Pr) : heedP (a, b, false) = none := by simp [heedP]

theorem swapP_turn (p q : Pr) (hp : rightP p = true) (hq : rightP q = true) : swapP p q = heedP (turnP p q) := by
  rw [swapP_two p q hp hq]
  unfold turnP twoP
  by_cases kp : p.kind = 0
  · by_cases kq : q.kind = 0
    · simp only [kp, kq, true_and, and_self, if_true, turnHH]
      by_cases e : p.name = q.name
      · simp only [e, if_true, ne_eq, not_true, if_false]
        by_cases h1 : q.place > p.place + p.new.length
        · simp only [h1, if_true]
          rw [show q.place - (p.new.length : Int) + p.old.length = q.place - ((p.new.length : Int) - p.old.length) from by omega]
        · simp only [h1, if_false]
          by_cases h2 : q.place + q.old.length < p.place
          · simp only [h2, if_true]
            rw [show p.place + (q.new.length : Int) - q.old.length = p.place + ((q.new.length : Int) - q.old.length) from by omega]
          · simp only [h2, if_false, heed_false, heed_none]
      · simp [e]
    · by_cases k3 : q.kind = 3
      · simp only [kp, k3, true_and, false_and, and_false, if_true, if_false, turnHM, Int.reduceEq]
        by_cases e : p.name = q.name
        · have hne : ¬ q.name = q.to := fun x => move_else hq k3 x.symm
          simp only [e, if_true, hne, if_false]
        · simp only [e, if_false]
          by_cases e2 : p.name = q.to
          · have : commonP p q = true := common_iff.2 ⟨p.name, mem_names.2 (.inl rfl), mem_names.2 (.inr ⟨k3, e2⟩)⟩
            simp only [this, Bool.not_true, e2, if_true, heed_false, heed_none]
          · have : commonP p q = false := common_no.2 fun n a b => by
              rw [mem_names] at a b
              simp only [kp, Int.reduceEq, false_and, or_false] at a
              subst a
              rcases b with b | b
              · exact e b
              · exact e2 b.2
            simp only [this, Bool.not_false, e2, if_false]
      · simp [kp, kq, k3]
  · by_cases kq : q.kind = 0
    · by_cases k3 : p.kind = 3
      · simp only [kq, k3, true_and, false_and, and_true, if_true, if_false, turnMH, Int.reduceEq]
        by_cases e : p.to = q.name
        · have hne : ¬ q.name = p.name := fun x => move_else hp k3 (e.trans x)
          simp only [e, if_true, hne, if_false]
        · have e' : ¬ q.name = p.to := fun x => e x.symm
          simp only [e, e', if_false]
          by_cases e2 : q.name = p.name
          · have : commonP p q = true := common_iff.2 ⟨p.name, mem_names.2 (.inl rfl), mem_names.2 (.inl e2.symm)⟩
            simp only [this, Bool.not_true, e2, if_true, heed_false, heed_none]
          · have : commonP p q = false := common_no.2 fun n a b => by
              rw [mem_names] at a b
              simp only [kq, Int.reduceEq, false_and, or_false] at b
              subst b
              rcases a with a | a
              · exact e2 a
              · exact e' a.2
            simp only [this, Bool.not_false, e2, if_false]
      · simp [kp, kq, k3]
    · simp [kp, kq]

end Go.Proofs.YtlnjhimbgckdcaaGreat

/-
  Two prims and a Bool that a call tells; prims at another place, in another file.
-/
namespace Go.Proofs.YtlnjhimbgckdcaaGreat
open Go.RowKit Go.Maps

def atC (x : PrC) (k : Int) : PrC := { x with v := placed x.v k }
def inC (x : PrC) (n : ByteArray) : PrC := { x with v := inFile x.v n }
def zeroC : PrC := ⟨zeroPr, none, 0, 0, none, 0, 0⟩
theorem atC_ok {w : World} {x : PrC} (h : PrOk w x) {k : Int} (h1 : -9223372036854775808 <= k) (h2 : k <= 9223372036854775807) : PrOk w (atC x k) :=
  ⟨h.old, h.new, h.oroom, h.nroom, h.omost, h.nmost, h.name, h.to, h1, h2, h.olds, h.news⟩
theorem inC_ok {w : World} {x : PrC} (h : PrOk w x) {n : ByteArray} (hn : n.size <= maxLen) : PrOk w (inC x n) :=
  ⟨h.old, h.new, h.oroom, h.nroom, h.omost, h.nmost, hn, h.to, h.lo, h.hi, h.olds, h.news⟩
theorem zeroC_ok (w : World) : PrOk w zeroC :=
  ⟨Row.none, Row.none, Nat.le_refl _, Nat.le_refl _, Nat.zero_le _, Nat.zero_le _, Nat.zero_le _, Nat.zero_le _, by simp [zeroC, zeroPr], by simp [zeroC, zeroPr], (fun s hs => by simp [zeroC, zeroPr] at hs), (fun s hs => by simp [zeroC, zeroPr] at hs)⟩

def GivesW (x y : PrC) (r : Pr × Pr × Bool) (w : World) (e : Ending) (w' : World) : Prop :=
  ∃ a b : PrC, e = .returned (.tuple #[prV a, prV b, .bool r.2.2]) /\ a.v = r.1 /\ b.v = r.2.1 /\ (∀ w0, PrOk w0 x -> PrOk w0 y -> PrOk w0 a /\ PrOk w0 b) /\ Later w w'
def swapR (o : Option (Pr × Pr)) : Pr × Pr × Bool := match o with | some r => (r.1, r.2, true) | none => noneP

theorem results_two {P : Program} {fn : Func} {p q u : Tmp} {ty : TypeId} (h : fn.results = #[.cell p ty, .cell q ty, .tmp u]) (tmps : Array Value) (w : World) (g k : Nat) (t s : TypeId) (cs ds : Array Value) (fr gr : Nat × Nat) (d : TypeDesc) (v : Value)
    (hp : tmps.getD p undef = .pointer (some ⟨g, 0, none⟩)) (hq : tmps.getD q undef = .pointer (some ⟨k, 0, none⟩)) (hv : tmps.getD u undef = v) (hg : w.heap[g]? = some (.cells cs t fr)) (hk : w.heap[k]? = some (.cells ds s gr))
    (hu : P.underlying ty = some d) (hd : (match d with | .struct _ | .array _ _ => true | _ => false) = true) (hi : (P.info? ty).map (·.size) = some cs.size) (hj : (P.info? ty).map (·.size) = some ds.size) :
    (results fn tmps).run P w = .ok (.tuple #[.agg cs, .agg ds, v]) w := by
  have hp' : tmps[p]?.getD undef = .pointer (some ⟨g, 0, none⟩) := by simpa using hp
  have hq' : tmps[q]?.getD undef = .pointer (some ⟨k, 0, none⟩) := by simpa using hq
  have hv' : tmps[u]?.getD undef = v := by simpa using hv
  simp [results, h, hp', hq', hv', asAddr, run_loadVar_row w g t ty cs fr d hg hu hd hi, run_loadVar_row w k s ty ds gr d hk hu hd hj]

end Go.Proofs.YtlnjhimbgckdcaaGreat
