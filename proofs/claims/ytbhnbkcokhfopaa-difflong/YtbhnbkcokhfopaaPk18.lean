import Derived.Test.YtbhnbkcokhfopaaRows
import Derived.Test.YtbhnbkcokhfopaaChecked
import Derived.Test.YtbhnbkcokhfopaaPk1
import Derived.Test.YtbhnbkcokhfopaaPk3
import Derived.ProofKit
import Derived.OpenShut
import Derived.SizedLaws
import Derived.SliceStrings
import Derived.Test.YtbhnbkcokhfopaaPk2
import Derived.Deep.LoopGhost
import Derived.Deep.QuietTactic
import Derived.BigQuiet
import Derived.Lib.Hide
import Derived.Test.YtbhnbkcokhfopaaPk17

/-
  Rows of lines that come in: from what is read as data to what the calls ask.
-/
namespace Go.Proofs.Ytbhnbkcokhfopaa
open Go.ChangeShapes Go.WideShapes Go.ChangeAt Go.RowKit

theorem Try.own : ownKnob Try.prog.godebug = none := by kernel_rfl

theorem Try.laidOut : laidOutB Try.prog = true := by kernel_rfl

theorem Try.cells9 : Try.prog.cellsOf 9 = 1 := by kernel_rfl

theorem Try.bytes9 : Try.prog.bytesOf 9 = 16 := by kernel_rfl

theorem weights_strs {H : Type} {P : Program} {e : TypeId} : ∀ {ss : List ByteArray} {s : ByteArray}, s ∈ ss → s.size ∈ DataW.weightsAll (H := H) P e (strs ss)
  | [], _, h => by simp at h
  | x :: ss, s, h => by
    simp only [strs, List.map_cons, DataW.weightsAll, List.mem_append]
    rcases List.mem_cons.1 h with rfl | h
    · left; simp [DataW.weights]
    · right; exact weights_strs h

/-- A row of lines that came in, nil or not. -/
theorem came_of {H : Type} {enc : TypeId × Value → H} {W : World} {a0 : Option Addr} {len cap fuel : Nat} {x : DataW H × List MemPlace}
    (hf : DataW.trod enc Try.prog W 0 (fun _ => true) true fuel 22 [.slice a0 len cap] = some x) (hw : ∀ k ∈ x.1.weights Try.prog 22, k ≤ reachBytes) : ∃ ss, Came W a0 len cap ss := by
  rcases open_strings Try.underlying22 Try.underlying9 Try.cells9 hf with ⟨hcs, hx⟩ | ⟨a, len', cap', ss, hcs, _, hl, hm, hz, hx, hcell, _⟩
  · simp at hcs
    obtain ⟨rfl, rfl, rfl⟩ := hcs
    exact ⟨[], Row.none, Nat.le_refl _, Nat.zero_le _, fun s hs => by simp at hs⟩
  · simp at hcs
    obtain ⟨rfl, rfl, rfl⟩ := hcs
    subst hx
    simp only [if_true] at hz
    have hbig := reachBytes_lt
    have hwt : ∀ k ∈ (DataW.slice (H := H) (strs (ss.take len)) (strs (ss.drop len))).weights Try.prog 22, k ≤ reachBytes := hw
    simp only [DataW.weights, Try.underlying22, Try.bytes9] at hwt
    obtain ⟨b, off, spot⟩ := a
    refine ⟨ss.take len, ⟨by rw [List.length_take]; omega, fun h0 => ?_⟩, hl, ?_, fun s hs => ?_⟩
    · have hspot : spot = none := by simpa [Addr.add] using World.cell?_spot (hcell 0 (by omega))
      subst hspot
      refine ⟨b, off, rfl, fun j s hs => ?_⟩
      have hj : j < len := by
        have := (List.getElem?_eq_some_iff.1 hs).1
        rw [List.length_take] at this; omega
      rw [List.getElem?_take_of_lt hj] at hs
      have := hcell j (by omega)
      rw [plain_add] at this
      rw [this]
      simp [List.getD, hs]
    · have := hwt _ (List.mem_cons_self)
      simp only [strs, List.length_map, List.length_take, List.length_drop] at this
      omega
    · have := hwt s.size (List.mem_cons_of_mem _ (List.mem_append_left _ (weights_strs hs)))
      omega

/-- What the reach says of the argument at place j. -/
theorem reach_at {H : Type} {ts : List TypeId} {ds : List (DataW H)} (h : (DataW.weightsEach Try.prog ts ds).all (· ≤ reachBytes) = true) {j : Nat} {t : TypeId} {d : DataW H} (ht : ts[j]? = some t) (hd : ds[j]? = some d) :
    ∀ k ∈ d.weights Try.prog t, k ≤ reachBytes := fun k hk => by
  have := List.all_eq_true.1 h k (DataW.weights_mem_each ht hd k hk)
  simpa using this

end Go.Proofs.Ytbhnbkcokhfopaa

/-
  What layer 6's own test for few lines comes to, as a call: if it says so, there are at most 40 in each row.
-/
namespace Go.Proofs.Ytbhnbkcokhfopaa
open Go.RowKit

/-- A bool; if it is true, there are few. -/
def FewEnd6 (n m : Nat) (w : World) (e : Ending) (w' : World) : Prop := ∃ b : Bool, e = .returned (.bool b) ∧ (b = true → n ≤ 40 ∧ m ≤ 40) ∧ Later w w'

set_option maxHeartbeats 800000 in
theorem few6_any (A B : Option Addr) (n c m d : Nat) (la lb : List ByteArray) (w : World) (ha : Row w A n la) (hb : Row w B m lb) (hn : n ≤ 140737488355328) (hm : m ≤ 140737488355328) :
    Calls Try.prog 9 #[.slice A n c, .slice B m d] w (FewEnd6 n m w) := by
  have hl : Later w (w.alloc (.cells #[.slice A n c, .slice B m d] 22)) := (Later.refl w).alloc _
  have HA := Lib.hid (ha.later hl); have HB := Lib.hid (hb.later hl); have HL := Lib.hid hl
  have c0 : (w.alloc (.cells #[.slice A n c, .slice B m d] 22)).cell? ⟨w.heap.size, 0, none⟩ = some (.slice A n c) := by simp
  have c1 : (w.alloc (.cells #[.slice A n c, .slice B m d] 22)).cell? ⟨w.heap.size, 1, none⟩ = some (.slice B m d) := by simp
  clear ha hb hl
  go_enter Try.func9, Try.ntmps9
  go_wp2
  generalize w.alloc (.cells #[.slice A n c, .slice B m d] 22) = w1 at HA HB HL c0 c1 ⊢
  generalize w.heap.size = g at c0 c1 ⊢
  go_loop [5, 14] (fun s5 s14 => ∃ (i : Nat) (x : Int), i ≤ 2 ∧ s14 = .int .i64 (i : Nat) ∧ s5 = .int .i64 x) (fun _ s14 => 2 - (intOf s14).toNat)
  case atStart => exact ⟨0, 0, by omega, rfl, rfl⟩
  case round =>
    obtain ⟨i, x, hi, rfl, rfl⟩ := hrel
    rcases (by omega : i = 0 ∨ i = 1 ∨ i = 2) with rfl | rfl | rfl
    · go_wp2
      go_loop [5, 20] (fun s5 s20 => ∃ (j : Nat) (y : Int), j ≤ n ∧ s20 = .int .i64 (j : Nat) ∧ s5 = .int .i64 y) (fun _ s20 => n - (intOf s20).toNat)
      case atStart => exact ⟨0, x, Nat.zero_le _, rfl, rfl⟩
      case round =>
        obtain ⟨j, y, hj, rfl, rfl⟩ := hrel
        by_cases hlt : j < n
        · obtain ⟨b1, o1, rfl, g2⟩ := HA.out.get hlt
          generalize la.getD j ByteArray.empty = s at g2
          go_wp2
          exact ⟨⟨j + 1, _, by omega, by go_num, rfl⟩, by simp [intOf]; omega⟩
        · go_wp2
          exact ⟨⟨1, y, by omega, by go_num, rfl⟩, by simp [intOf]⟩
    · go_wp2
      go_loop [5, 20] (fun s5 s20 => ∃ (j : Nat) (y : Int), j ≤ m ∧ s20 = .int .i64 (j : Nat) ∧ s5 = .int .i64 y) (fun _ s20 => m - (intOf s20).toNat)
      case atStart => exact ⟨0, x, Nat.zero_le _, rfl, rfl⟩
      case round =>
        obtain ⟨j, y, hj, rfl, rfl⟩ := hrel
        by_cases hlt : j < m
        · obtain ⟨b1, o1, rfl, g2⟩ := HB.out.get hlt
          generalize lb.getD j ByteArray.empty = s at g2
          go_wp2
          exact ⟨⟨j + 1, _, by omega, by go_num, rfl⟩, by simp [intOf]; omega⟩
        · go_wp2
          exact ⟨⟨2, y, by omega, by go_num, rfl⟩, by simp [intOf]⟩
    · go_wp2
      all_goals
        go_ret
        refine ⟨_, rfl, ?_, HL.out⟩
        simp
        try omega

end Go.Proofs.Ytbhnbkcokhfopaa

/-
  What the law DiffLong comes to, as a call.
-/
namespace Go.Proofs.Ytbhnbkcokhfopaa
open Go.RowKit Go.Maps

theorem Try.textSize : (Try.prog.info? 9).map (·.size) = some 1 := by kernel_rfl
/-- The first k cells of block g hold the text. -/
def Filled (w : World) (g n k : Nat) (s : ByteArray) : Prop := ∃ cs, BoxAt w g cs 9 ∧ cs.size = n ∧ ∀ j, j < k → cs[j]? = some (.string s)
section
variable {w w' : World} {g n k : Nat} {s : ByteArray}
theorem Filled.there (h : Filled w g n k s) {j : Nat} (hj : j < n) : ∃ v, w.cell? ⟨g, j, none⟩ = some v := by obtain ⟨cs, hb, hs, _⟩ := h; exact ⟨cs[j]'(by omega), hb.cell (Array.getElem?_eq_getElem (by omega))⟩
theorem Filled.frozen (h : Filled w g n k s) (j : Nat) : w.frozen? ⟨g, j, none⟩ = false := by obtain ⟨cs, hb, _⟩ := h; exact hb.frozen j
theorem Filled.set (h : Filled w g n k s) (hk : k < n) : Filled (w.setCell ⟨g, k, none⟩ (.string s)) g n (k + 1) s := by
  obtain ⟨cs, hb, hs, hc⟩ := h
  refine ⟨_, hb.set k _, by simpa using hs, fun j hj => ?_⟩
  by_cases e : j = k
  · subst e; rw [Array.getElem?_setIfInBounds_self_of_lt (by omega)]
  · rw [Array.getElem?_setIfInBounds_ne (fun h => e h.symm)]; exact hc j (by omega)
theorem Filled.row (h : Filled w g n n s) : Row w (some ⟨g, 0, none⟩) n (List.replicate n s) := by
  obtain ⟨cs, hb, hs, hc⟩ := h
  refine ⟨List.length_replicate, fun _ => ⟨g, 0, rfl, fun j x hj => ?_⟩⟩
  have hjn : j < n := by have := (List.getElem?_eq_some_iff.1 hj).1; simpa using this
  rw [List.getElem?_replicate, if_pos hjn] at hj
  cases hj
  rw [Nat.zero_add]
  exact hb.cell (hc j hjn)
end
theorem lcs_many (n : Nat) (s : ByteArray) : lcs (List.replicate n s) [s] = min n 1 := by
  cases n with
  | zero => rw [List.replicate_zero, lcs_nil_left]; rfl
  | succ n => rw [List.replicate_succ, lcs_same, lcs_nil_right]; omega

set_option maxRecDepth 100000 in
set_option maxHeartbeats 3200000 in
theorem diffLong_walk (N : Int) (s : ByteArray) (w : World) (hs : s.size ≤ 140737488355328) :
    Calls Try.prog 7 #[.int .i64 N, .string s] w fun e w' => e = .returned (.bool true) ∧ Later w w' := by
  by_cases h0 : N < 0
  · have HC := Lib.hid (alive6_any w)
    go_enter Try.func7, Try.ntmps7
    go_wp2_with fail
    refine HC.out.mono ?_
    rintro e w2 ⟨rfl, hl2⟩
    have L2 := Lib.hid hl2
    clear hl2 HC
    go_wp2
    go_ret
    exact ⟨rfl, L2.out⟩
  · by_cases h1 : 260 < N
    · have HC := Lib.hid (alive6_any w)
      go_enter Try.func7, Try.ntmps7
      go_wp2_with fail
      refine HC.out.mono ?_
      rintro e w2 ⟨rfl, hl2⟩
      have L2 := Lib.hid hl2
      clear hl2 HC
      go_wp2
      go_ret
      exact ⟨rfl, L2.out⟩
    · by_cases h2 : 30 < s.size
      · have HC := Lib.hid (alive6_any w)
        go_enter Try.func7, Try.ntmps7
        go_wp2_with fail
        refine HC.out.mono ?_
        rintro e w2 ⟨rfl, hl2⟩
        have L2 := Lib.hid hl2
        clear hl2 HC
        go_wp2
        go_ret
        exact ⟨rfl, L2.out⟩
      · obtain ⟨n, rfl⟩ := Int.eq_ofNat_of_zero_le (by omega : 0 ≤ N)
        have hn260 : n ≤ 260 := by omega
        have hms : s.size ≤ maxLen := Nat.le_trans hs (by decide)
        clear h0 h1
        obtain ⟨i2, hi2, hz2, hs2, hy2⟩ := info_parts Try.textInfo
        go_enter Try.func7, Try.ntmps7
        go_wp2_with (at_make; refine wpList_make_n rfl _ _ 22 rfl i2 _ Try.underlying22 hi2 hz2 hs2 16 hy2 (by decide) .i64 .i64 n rfl rfl (by omega) ?_; intro w1 HW1; refine Hid.out ?_)
        have HF0 : Hid (Filled w1 w.heap.size n 0 s) := ⟨_, by rw [HW1.out]; exact BoxAt.made w _ 9, size_madeCells _ _, fun j hj => absurd hj (Nat.not_lt_zero _)⟩
        have HL1 : Hid (Later w w1) := by show Later w w1; rw [HW1.out]; exact (Later.refl w).alloc _
        clear HW1
        refine Lib.hid ?_
        generalize hg : w.heap.size = g at HF0 ⊢
        have HGE := Lib.hid (Nat.le_of_eq hg)
        clear hg
        go_wp2
        go_loopg [25] (n + 1) (fun gg s25 wr => ∃ k : Nat, k ≤ n ∧ n - k ≤ gg ∧ s25 = .int .i64 (k : Nat) ∧ Hid (Filled wr g n k s) ∧ Hid (Later w wr))
        case atStart => exact ⟨0, Nat.zero_le _, by omega, rfl, HF0, HL1⟩
        case round =>
          obtain ⟨k, hk, hgk, rfl, hF, hL⟩ := hrel
          clear HF0 HL1
          by_cases hlt : k < n
          · go_wp2_with (with_reducible show wpList _ _ _ ({ dst := none, op := Op.store 9 _ _, type := _, pos := _, after := _, guard := _ } :: _) _ _; refine Hid.out ?_)
            refine Lib.hid (wpList_store_cell rfl rfl 9 _ _ rfl Try.textSize g k (.string s) rfl rfl rfl (hF.out.there hlt) (hF.out.frozen _) ?_)
            have HF2 := Lib.hid (hF.out.set hlt)
            have HL2 := Lib.hid (hL.out.turn (turned_set wr g k (.string s)) HGE.out)
            generalize wr.setCell ⟨g, k, none⟩ (.string s) = w3 at HF2 HL2 ⊢
            go_wp2
            go_roundg (n - (k + 1))
            case measure => omega
            case rel => exact ⟨k + 1, by omega, Nat.le_refl _, by go_num, HF2, HL2⟩
          · obtain rfl : k = n := by omega
            have hrow := hF.out.row
            have hrs : ∀ x ∈ List.replicate k s, x.size ≤ maxLen := fun x hx => by rw [List.eq_of_mem_replicate hx]; exact hms
            have HC := Lib.hid (lines_any tA _ none k k 0 0 _ [] wr hrow Row.none (Nat.le_refl _) (Nat.le_refl _) (by omega) (by omega) (by decide) hrs (fun x hx => by cases hx))
            have HR := Lib.hid hrow
            clear hrow hrs hF
            go_wp2_with fail
            refine HC.out.mono ?_
            rintro e w4 ⟨v3, xs, rfl, ho, hv, -⟩
            obtain ⟨A3, c3, hs3, -, hp⟩ := ho.row
            have hxl : xs.length ≤ 201 := by have := linesP_length tA (List.replicate k s) []; rw [← hv, valsP_length] at this; exact this
            subst hs3
            have hlb : Later w4 (w4.alloc (.cells #[.string s] 9)) := (Later.refl w4).alloc _
            have HC2 := Lib.hid (common_any _ _ k k 1 1 _ [s] (w4.alloc (.cells #[.string s] 9)) (HR.out.later (ho.later.trans hlb)) (Row.one w4 s 9) (by omega) (by omega))
            have P3 := Lib.hid (hp.later hlb); have V3 := Lib.hid hv
            have L0 := Lib.hid ((hL.out.trans ho.later).trans hlb)
            clear ho hv hp HC hlb hL HR
            go_wp2_with fail
            refine HC2.out.mono ?_
            rintro e w5 ⟨v4, rfl, ho⟩
            obtain ⟨A4, c4, hs4, -, -⟩ := ho.row
            rw [pairsV_length] at hs4
            subst hs4
            replace P3 := Lib.hid (P3.out.later ho.later); replace L0 := Lib.hid (L0.out.trans ho.later)
            clear ho HC2
            have HAL := Lib.hid (alive6_any w5)
            by_cases hbig : 200 < k
            · obtain rfl : xs = [] := by have := V3.out; rw [lines_great (.inl (by simpa using hbig))] at this; exact List.map_eq_nil_iff.1 this
              rw [common_great (.inl (by simpa using hbig))]
              go_wp2_with fail
              refine HAL.out.mono ?_
              rintro e w6 ⟨rfl, hl6⟩
              have L6 := Lib.hid (L0.out.trans hl6)
              clear hl6 HAL
              go_wp2
              go_ret
              exact ⟨rfl, L6.out⟩
            · have hcst : costP (valsP xs) = k := by rw [V3.out, lines_gone tA (by simpa using hbig)]; simp
              have hcl : (commonL (List.replicate k s) [s]).length = min k 1 := by rw [(common_all (by simpa using hbig) (by simp)).2, lcs_many]
              generalize (commonL (List.replicate k s) [s]).length = q at hcl ⊢
              have HQ := Lib.hid hcl
              clear hcl
              go_wp2_with fail
              refine HAL.out.mono ?_
              rintro e w6 ⟨rfl, hl6⟩
              have HCO := Lib.hid (cost_any A3 _ c3 xs w6 (P3.out.later hl6) (by omega) (by omega))
              rw [hcst] at HCO
              have L6 := Lib.hid (L0.out.trans hl6)
              clear hl6 HAL hcst
              go_wp2_with fail
              refine HCO.out.mono ?_
              rintro e w7 ⟨rfl, hl7⟩
              have L7 := Lib.hid (L6.out.trans hl7)
              clear hl7 HCO
              go_wp2
              go_ret
              exact ⟨ret_bool (by have := HQ.out; rw [beq_iff_eq]; omega), L7.out⟩

end Go.Proofs.Ytbhnbkcokhfopaa
