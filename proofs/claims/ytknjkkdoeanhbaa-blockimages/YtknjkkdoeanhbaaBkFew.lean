/-
  Few, and a write or a flush of a script, as calls.
-/
import Derived.Test.YtknjkkdoeanhbaaBkScript
import Derived.Test.YtknjkkdoeanhbaaBkWrite
namespace Go.Proofs.Ytknjkkdoeanhbaa
open Go.RowKit

def fewZ (n t : Nat) : Int := if n ≤ 80 ∧ t ≤ 8000 then 0 else (t : Int) + (n : Int)
set_option maxRecDepth 100000 in
set_option maxHeartbeats 800000 in
theorem few10_any (A : Option Addr) (n c : Nat) (xs : List OpC) (w : World) (hx : Script w A n xs) :
    Calls Try.prog 10 #[.slice A n c] w fun e w' => e = .returned (.int .i64 (fewZ n (weighO xs))) ∧ Later w w' := by
  have HX := Lib.hid hx
  have hwt := hx.weigh
  have hl := hx.len
  have HL := Lib.hid hl
  clear hx hl
  go_enter Try.func10, Try.ntmps10
  go_wp2
  go_loopg [3, 8] (n + 1) (fun g0 s3 s8 wr => ∃ (k t : Nat), k ≤ n ∧ n - k ≤ g0 ∧ s8 = .int .i64 (k : Nat) ∧ s3 = .int .i64 (t : Nat) ∧ Hid (t = weighO (xs.take k)) ∧ Hid (Later w wr))
  case atStart => exact ⟨0, 0, Nat.zero_le _, by omega, rfl, rfl, rfl, Later.refl w⟩
  case round =>
    obtain ⟨k, t, hk, hg, rfl, rfl, ht, hlw⟩ := hrel
    by_cases hlt : k < n
    · obtain ⟨b, o, x, rfl, hz, hok, g0, g1, g2, g3⟩ := (HX.out.later hlw.out).get hlt
      have hw1 := weighO_take hz
      have hw2 := weighO_le (xs := xs) (k + 1)
      have htt := ht.out
      have HT : Hid (t + (x.n + x.m) = weighO (xs.take (k + 1))) := by show _ = _; omega
      have hs1 : t + (x.n + x.m) ≤ 1048576 := by omega
      clear hw1 hw2 htt hz hok
      go_wp2
      go_roundg (n - (k + 1))
      case measure => omega
      case rel => exact ⟨k + 1, t + (x.n + x.m), by omega, by omega, by go_num, by go_num, HT, (hlw.out.alloc _)⟩
    · obtain rfl : k = n := by omega
      have htt := ht.out
      rw [List.take_of_length_le (by rw [HL.out]; exact Nat.le_refl _)] at htt
      rw [← htt] at hwt
      by_cases h1 : k ≤ 80
      · have h1' : ((k : Nat) : Int) ≤ 80 := by omega
        by_cases h2 : t ≤ 8000
        · have h2' : ((t : Nat) : Int) ≤ 8000 := by omega
          have e : Hid (fewZ k (weighO xs) = 0) := by show _ = _; rw [← htt]; unfold fewZ; rw [if_pos ⟨h1, h2⟩]
          clear htt ht
          go_wp2
          go_ret
          exact ⟨by rw [e.out]; rfl, hlw.out⟩
        · have h2' : ¬ ((t : Nat) : Int) ≤ 8000 := by omega
          have e : Hid (fewZ k (weighO xs) = (t : Int) + (k : Int)) := by show _ = _; rw [← htt]; unfold fewZ; rw [if_neg (fun h => h2 h.2)]
          clear htt ht
          go_wp2
          go_ret
          exact ⟨by rw [e.out]; rfl, hlw.out⟩
      · have h1' : ¬ ((k : Nat) : Int) ≤ 80 := by omega
        have e : Hid (fewZ k (weighO xs) = (t : Int) + (k : Int)) := by show _ = _; rw [← htt]; unfold fewZ; rw [if_neg (fun h => h1 h.1)]
        clear htt ht
        go_wp2
        go_ret
        exact ⟨by rw [e.out]; rfl, hlw.out⟩

def opV (x : OpC) : Value := .agg (opL x).toArray
/-- What a write or a flush makes of a device. -/
def doP (d : DvP) (x : OpC) : DvP × Int := if x.kind = 0 then writeP d x.k x.bs else flushP d
section
variable {W w : World} {S : Nat → Prop} {g : Nat} {d : DvP}
set_option maxRecDepth 100000 in
set_option maxHeartbeats 800000 in
theorem does10_any (h : DevAt W w S g d) (ho : d.ops ≤ 1000000000) (hro : d.row.length ≤ 900000) (x : OpC) (hx : OpOk w x) (hk : x.kind = 0 ∨ x.kind = 1) :
    Calls Try.prog 16 #[.pointer (some ⟨g, 0, none⟩), opV x] w fun e w' => ∃ S', e = .returned (.tuple #[.pointer (some ⟨g, 0, none⟩), .int .i64 (doP d x).2]) ∧ DevAt W w' S' g (doP d x).1 ∧ Up S S' w ∧ Chg S w w' := by
  obtain ⟨kd, k, A, n, c, bs, F, m, e, fs⟩ := x
  dsimp only at hk
  unfold opV opL
  dsimp only
  have hl : Later w (w.alloc (.cells #[.int .i64 kd, .int .i64 k, .slice A n c, .slice F m e] 36)) := (Later.refl w).alloc _
  rcases hk with rfl | rfl
  · have e1 : doP d ⟨0, k, A, n, c, bs, F, m, e, fs⟩ = writeP d k bs := rfl
    rw [e1]
    have HC := Lib.hid (writeDev_any (h.later hl) ho hro k A n c bs (hx.bytes.later hl))
    have HL := Lib.hid hl
    clear h hx hl e1
    go_enter Try.func16, Try.ntmps16
    go_wp2_with fail
    refine HC.out.mono ?_
    rintro e1 w1 ⟨S1, rfl, hd, hup, hc⟩
    have HD := Lib.hid hd
    clear hd
    go_wp2
    go_ret2
    exact ⟨S1, rfl, HD.out, fun q hq => (hup q hq).imp id fun h => Nat.le_trans HL.out.le h, (Chg.later HL.out).trans hc fun q hq => .inl hq⟩
  · have e1 : doP d ⟨1, k, A, n, c, bs, F, m, e, fs⟩ = flushP d := rfl
    rw [e1]
    have HC := Lib.hid (flushDev_any (h.later hl) ho)
    have HL := Lib.hid hl
    have HM : Hid (S g) := h.mem
    clear h hx hl e1
    go_enter Try.func16, Try.ntmps16
    go_wp2_with fail
    refine HC.out.mono ?_
    rintro e1 w1 ⟨rfl, hd, hc⟩
    have HD := Lib.hid hd
    clear hd
    go_wp2
    go_ret2
    exact ⟨S, rfl, HD.out, fun q hq => .inl hq, (Chg.later HL.out).trans hc fun q hq => .inl (by rw [hq]; exact HM.out)⟩
end

end Go.Proofs.Ytknjkkdoeanhbaa
