import Derived.Shelf.Strings.Search3
import Derived.Test.YtomboeiaajggoaaGreatChecked
import Derived.Test.YtomboeiaajggoaaGreatPk1
import Derived.Test.YtomboeiaajggoaaGreatPk5
import Derived.Test.YtomboeiaajggoaaGreatPk2
import Derived.Deep.LoopGhost
import Derived.Deep.QuietTactic
import Derived.BigQuiet
import Derived.Lib.Hide
import Derived.Test.YtomboeiaajggoaaGreatPk6
import Derived.Deep.RegionHeld3

/-
  What calls of the library come to, laid at this program: whether a text has a byte.
-/
namespace Go.Proofs
open Go.Shelf
def Tryz.lays144_ren : Go.Shelf.Ren := ⟨fun | 144 => 83 | 143 => 98 | 219 => 114 | 217 => 125 | 225 => 126 | 224 => 127 | 267 => 128 | 266 => 147 | 314 => 148 | n => n, fun | 9 => 9 | 4 => 4 | 3 => 3 | 5 => 5 | 46 => 161 | 146 => 184 | 51 => 179 | n => n, fun | 1 => 0 | n => n⟩
theorem Tryz.lays144 : Go.Proofs.Lays.n144 Tryz.prog Tryz.lays144_ren := {
  mixed := by kernel_rfl
  f143 := Tryz.func98.trans (congrArg some (by kernel_rfl))
  f144 := Tryz.func83.trans (congrArg some (by kernel_rfl))
  f217 := Tryz.func125.trans (congrArg some (by kernel_rfl))
  f219 := Tryz.func114.trans (congrArg some (by kernel_rfl))
  f224 := Tryz.func127.trans (congrArg some (by kernel_rfl))
  f225 := Tryz.func126.trans (congrArg some (by kernel_rfl))
  f266 := Tryz.func147.trans (congrArg some (by kernel_rfl))
  f267 := Tryz.func128.trans (congrArg some (by kernel_rfl))
  f314 := Tryz.func148.trans (congrArg some (by kernel_rfl))
  t3 := Tryz.underlying3
  a3 := Tryz.isAgg3
  z3 := Tryz.sizeOf3
  v3 := Tryz.zeroValue3
  t4 := Tryz.underlying4
  a4 := Tryz.isAgg4
  z4 := Tryz.sizeOf4
  v4 := Tryz.zeroValue4
  t5 := Tryz.underlying5
  a5 := Tryz.isAgg5
  z5 := Tryz.sizeOf5
  v5 := Tryz.zeroValue5
  t9 := Tryz.underlying9
  a9 := Tryz.isAgg9
  z9 := Tryz.sizeOf9
  v9 := Tryz.zeroValue9
  t46 := Tryz.underlying161
  a46 := Tryz.isAgg161
  z46 := Tryz.sizeOf161
  v46 := Tryz.zeroValue161
  t51 := Tryz.underlying179
  a51 := Tryz.isAgg179
  z51 := Tryz.sizeOf179
  v51 := Tryz.zeroValue179
  t146 := Tryz.underlying184
  a146 := Tryz.isAgg184
  z146 := Tryz.sizeOf184
  v146 := Tryz.zeroValue184
  g1 := by kernel_rfl }
open Go.RowKit Go.Lib in
theorem Tryz.strings_Contains_one (s : ByteArray) (c : UInt8) (w : World) :
    Calls Tryz.prog 83 #[.string s, .string ⟨#[c]⟩] w fun e w' => e = .returned (.bool (decide (0 ≤ Lib.indexByte s.data.toList c))) ∧ w' = w := Any.strings_Contains_one Tryz.lays144 s c w
end Go.Proofs

/-
  What line.Right comes to, as a call.
-/
namespace Go.Proofs.YtomboeiaajggoaaGreat
open Go.RowKit

set_option maxHeartbeats 400000 in
theorem right_any (s : ByteArray) (w : World) (hs : s.size ≤ maxLen) :
    Calls Tryz.prog 56 #[.string s] w fun e w' => e = .returned (.bool (rightB s)) ∧ w = w' := by
  unfold maxLen at hs
  have hr : rightB s = (decide (s.size ≤ 60) && !hasEnd s) := rfl
  by_cases h : s.size ≤ 60
  · rw [decide_eq_true h, Bool.true_and] at hr
    have HR := Lib.hid hr; clear hr
    have hd : decide ((s.size : Int) ≤ 60) = true := by simp; omega
    have H := Lib.hid (Tryz.strings_Contains_one s 10 w)
    go_enter Tryz.func56, Tryz.ntmps56
    go_wp2_with (go_at_call 83; refine H.out.mono ?_; rintro e w' ⟨rfl, rfl⟩)
    go_ret
    exact ⟨by rw [HR.out]; rfl, rfl⟩
  · rw [decide_eq_false h, Bool.false_and] at hr
    have HR := Lib.hid hr; clear hr
    have hd : decide ((s.size : Int) ≤ 60) = false := by simp; omega
    go_enter Tryz.func56, Tryz.ntmps56
    go_wp2
    go_ret
    exact ⟨by rw [HR.out]; rfl, rfl⟩

end Go.Proofs.YtomboeiaajggoaaGreat

/-
  What line.All comes to, as a call.
-/
namespace Go.Proofs.YtomboeiaajggoaaGreat
open Go.RowKit

set_option maxHeartbeats 400000 in
theorem all_any (A : Option Addr) (n c : Nat) (l : List ByteArray) (w : World) (hx : Row w A n l) (hn : n ≤ 65536) (hs : ∀ x ∈ l, x.size ≤ maxLen) :
    Calls Tryz.prog 94 #[.slice A n c] w fun e w' => e = .returned (.bool (allB l)) ∧ w = w' := by
  have HX := Lib.hid hx; clear hx
  have HS := Lib.hid hs; clear hs
  go_enter Tryz.func94, Tryz.ntmps94
  go_wp2
  go_loop [7] (fun i => ∃ k : Nat, k ≤ n ∧ i = .int .i64 k ∧ Hid (∀ j : Nat, j < k → rightB (l.getD j ByteArray.empty) = true)) (fun i => n - (intOf i).toNat)
  case atStart => exact ⟨0, Nat.zero_le _, rfl, fun j hj => absurd hj (Nat.not_lt_zero _)⟩
  case round =>
    obtain ⟨k, hk, rfl, hall⟩ := hrel
    by_cases hlt : k < n
    · obtain ⟨b1, o1, rfl, g1⟩ := HX.out.get hlt
      have hkl : k < l.length := by rw [HX.out.len]; exact hlt
      have hsz : (l.getD k ByteArray.empty).size ≤ maxLen := by
        simp only [List.getD, List.getElem?_eq_getElem hkl, Option.getD_some]
        exact HS.out _ (List.getElem_mem hkl)
      have hr := right_any (l.getD k ByteArray.empty) w hsz
      cases hb : rightB (l.getD k ByteArray.empty)
      · rw [hb] at hr
        have e := allB_get hkl hb
        have E := Lib.hid e
        have HR := Lib.hid hr; clear hr hb hsz e hkl hall
        generalize l.getD k ByteArray.empty = x at g1 HR
        go_wp2_with (go_at_call 56; refine HR.out.mono ?_; rintro e w' ⟨rfl, rfl⟩)
        go_ret
        exact ⟨ret_bool E.out.symm, rfl⟩
      · rw [hb] at hr
        have HA : Hid (∀ j : Nat, j < k + 1 → rightB (l.getD j ByteArray.empty) = true) := fun j hj => by
          by_cases e : j = k
          · rw [e]; exact hb
          · exact hall.out j (by omega)
        have HR := Lib.hid hr; clear hr hb hsz hkl hall
        generalize l.getD k ByteArray.empty = x at g1 HR
        go_wp2_with (go_at_call 56; refine HR.out.mono ?_; rintro e w' ⟨rfl, rfl⟩)
        exact ⟨⟨k + 1, by omega, by go_num, HA⟩, by simp [intOf]; omega⟩
    · have e : allB l = true := allB_all fun j hj => hall.out j (by rw [HX.out.len] at hj; omega)
      have E := Lib.hid e; clear e hall
      go_wp2
      go_ret
      exact ⟨ret_bool E.out.symm, rfl⟩

end Go.Proofs.YtomboeiaajggoaaGreat

/-
  What tree's Add, Remove, Move, Put and Get come to, as calls.
-/
namespace Go.Proofs.YtomboeiaajggoaaGreat
open Go.RowKit Go.Maps

/-- An error's number; the tree is what the document says; nothing else has turned. -/
def Does (r : Tr × Int) (p B : Nat) (w : World) (e : Ending) (w' : World) : Prop := e = .returned (.int .i64 r.2) ∧ TreeAt w' p B r.1 ∧ Turned B w w'

theorem Does.same {t : Tr} {p B : Nat} {w : World} {k : Int} (h : TreeAt w p B t) : Does (t, k) p B w (.returned (.int .i64 k)) w := ⟨rfl, h, Turned.refl _ _⟩

set_option maxHeartbeats 400000 in
theorem add_any (p B : Nat) (nm : ByteArray) (t : Tr) (w : World) (ht : TreeAt w p B t) (hs : nm.size ≤ maxLen) (hl : t.length ≤ 65536) :
    Calls Tryz.prog 72 #[.pointer (some ⟨p, 0, none⟩), .string nm] w (Does (addT t nm) p B w) := by
  have hn := named_any nm w hs
  have hh := has_any p B nm t w ht hs
  cases h1 : namedB nm
  · rw [h1] at hn
    have E : Hid (addT t nm = (t, 20)) := by simp [Hid, addT, h1]
    rw [E.out]
    have HN := Lib.hid hn; have HT := Lib.hid ht
    clear hn hh h1 ht E
    go_enter Tryz.func72, Tryz.ntmps72
    go_wp2_with (go_at_call 92; refine HN.out.mono ?_; rintro e w' ⟨rfl, rfl⟩)
    go_ret
    exact Does.same HT.out
  · rw [h1] at hn
    cases h2 : hasT t nm
    · rw [h2] at hh
      have E : Hid (addT t nm = (withT t nm [], 0)) := by simp [Hid, addT, h1, h2]
      rw [E.out]
      have HT := Lib.hid ht
      obtain ⟨hc, z, hz, rfl⟩ := ht
      have HZ := Lib.hid hz
      have HN := Lib.hid hn; have HH := Lib.hid hh
      have hzl : z.length < maxLen := by rw [mapT_length] at hl; simp only [maxLen]; omega
      clear hn hh h1 h2 E hl hz
      go_enter Tryz.func72, Tryz.ntmps72
      go_wp2_with (first
        | (go_at_call 92; refine HN.out.mono ?_; rintro e w' ⟨rfl, rfl⟩)
        | (go_at_call 93; refine HH.out.mono ?_; rintro e w' ⟨rfl, rfl⟩)
        | (at_mapUpdate; refine wpList_mapUpdate_in _ rfl _ _ _ 91 rfl 9 67 keyed9 Tryz.underlying91 raw B z.length _ rfl HZ.out.own hzl _ _ _ rfl rfl (key9 hs) _ [] (raw_mk none 0 0) ?_; intro w1 hown1 hturn1; have HO := Lib.hid hown1; have HU := Lib.hid hturn1; clear hown1 hturn1))
      go_ret
      have hg := Turned.of_map HU.out
      exact ⟨rfl, HT.out.to hg ⟨_, HZ.out.put HO.out HU.out (Reads.nil w), (withT_map (fun x : Held => x.2) z nm (_, [])).symm⟩, hg⟩
    · rw [h2] at hh
      have E : Hid (addT t nm = (t, 21)) := by simp [Hid, addT, h1, h2]
      rw [E.out]
      have HN := Lib.hid hn; have HH := Lib.hid hh; have HT := Lib.hid ht
      clear hn hh h1 h2 ht E
      go_enter Tryz.func72, Tryz.ntmps72
      go_wp2_with (first
        | (go_at_call 92; refine HN.out.mono ?_; rintro e w' ⟨rfl, rfl⟩)
        | (go_at_call 93; refine HH.out.mono ?_; rintro e w' ⟨rfl, rfl⟩))
      go_ret
      exact Does.same HT.out

set_option maxHeartbeats 400000 in
theorem remove_any (p B : Nat) (nm : ByteArray) (t : Tr) (w : World) (ht : TreeAt w p B t) (hs : nm.size ≤ maxLen) (hl : ∀ f ∈ t, f.2.length ≤ 65536) :
    Calls Tryz.prog 73 #[.pointer (some ⟨p, 0, none⟩), .string nm] w (Does (removeT t nm) p B w) := by
  have HT := Lib.hid ht
  obtain ⟨hc, z, hz, rfl⟩ := ht
  cases hg : getT z nm with
  | none =>
    have E : Hid (removeT (mapT (·.2) z) nm = (mapT (·.2) z, 20)) := by simp [Hid, removeT, getT_map, hg]
    rw [E.out]
    have hl := hz.look_no hs hg
    clear hz hg E
    go_enter Tryz.func73, Tryz.ntmps73
    go_wp2
    go_ret
    exact Does.same HT.out
  | some x =>
    have hlk := hz.look_yes hs hg
    obtain ⟨A, n, c, hv, hnc, hr⟩ := hz.get hg
    have hlen : n ≤ 65536 := by
      have := hl (nm, x.2) (by simp only [mapT, List.mem_map]; exact ⟨_, getT_mem hg, rfl⟩)
      rw [← hr.len]; exact this
    rw [hv] at hlk
    by_cases h0 : 0 < n
    · have E : Hid (removeT (mapT (·.2) z) nm = (mapT (·.2) z, 22)) := by simp [Hid, removeT, getT_map, hg, hr.len, h0]
      rw [E.out]
      have hd : decide (0 < n) = true := by simpa using h0
      clear hz hg E hr hv hl
      go_enter Tryz.func73, Tryz.ntmps73
      go_wp2
      go_ret
      exact Does.same HT.out
    · have E : Hid (removeT (mapT (·.2) z) nm = (withoutT (mapT (·.2) z) nm, 0)) := by simp [Hid, removeT, getT_map, hg, hr.len, h0]
      rw [E.out]
      have hd : decide (0 < n) = false := by simpa using h0
      have HZ := Lib.hid hz
      clear hz hg E hr hv hl
      go_enter Tryz.func73, Tryz.ntmps73
      go_wp2_with (at_delete; refine wpList_delete_own _ rfl _ _ 91 9 rfl 67 keyed9 Tryz.underlying91 raw B z.length _ rfl HZ.out.own _ _ rfl (key9 hs) ?_; intro w1 hown1 hturn1; have HO := Lib.hid hown1; have HU := Lib.hid hturn1; clear hown1 hturn1)
      go_ret
      have hg := Turned.of_map HU.out
      exact ⟨rfl, HT.out.to hg ⟨_, HZ.out.del HO.out HU.out, (withoutT_map (fun x : Held => x.2) z nm).symm⟩, hg⟩

end Go.Proofs.YtomboeiaajggoaaGreat

/-
  What tree's Move, Put and Get come to, as calls.
-/
namespace Go.Proofs.YtomboeiaajggoaaGreat
open Go.RowKit Go.Maps

set_option maxHeartbeats 400000 in
theorem move_any (p B : Nat) (nm to : ByteArray) (t : Tr) (w : World) (ht : TreeAt w p B t) (hs : nm.size ≤ maxLen) (hs2 : to.size ≤ maxLen) (hl : t.length ≤ 65536) :
    Calls Tryz.prog 74 #[.pointer (some ⟨p, 0, none⟩), .string nm, .string to] w (Does (moveT t nm to) p B w) := by
  have HT := Lib.hid ht
  have hn := named_any to w hs2
  have hh := has_any p B to t w ht hs2
  obtain ⟨hc, z, hz, rfl⟩ := ht
  cases hg : getT z nm with
  | none =>
    have E : Hid (moveT (mapT (·.2) z) nm to = (mapT (·.2) z, 20)) := by simp [Hid, moveT, getT_map, hg]
    rw [E.out]
    have hl := hz.look_no hs hg
    clear hz hg E hn hh
    go_enter Tryz.func74, Tryz.ntmps74
    go_wp2
    go_ret
    exact Does.same HT.out
  | some x =>
    have hlk := hz.look_yes hs hg
    obtain ⟨A, n, c, hv, hnc, hr⟩ := hz.get hg
    rw [hv] at hlk
    cases h1 : namedB to
    · rw [h1] at hn
      have E : Hid (moveT (mapT (·.2) z) nm to = (mapT (·.2) z, 20)) := by simp [Hid, moveT, getT_map, hg, h1]
      rw [E.out]
      have HN := Lib.hid hn
      clear hz hg E hn hh h1 hr hv
      go_enter Tryz.func74, Tryz.ntmps74
      go_wp2_with (go_at_call 92; refine HN.out.mono ?_; rintro e w' ⟨rfl, rfl⟩)
      go_ret
      exact Does.same HT.out
    · rw [h1] at hn
      cases h2 : hasT (mapT (·.2) z) to
      · rw [h2] at hh
        have E : Hid (moveT (mapT (·.2) z) nm to = (withT (withoutT (mapT (·.2) z) nm) to x.2, 0)) := by simp [Hid, moveT, getT_map, hg, h1, h2]
        rw [E.out]
        have HN := Lib.hid hn; have HH := Lib.hid hh; have HZ := Lib.hid hz
        have hrd : Reads w (.slice A n c) x.2 := ⟨A, n, c, rfl, hnc, hr⟩
        have HR := Lib.hid hrd
        have hzl : (withoutT z nm).length < maxLen := by
          have := without_length z nm
          rw [mapT_length] at hl; simp only [maxLen]; omega
        clear hz hg E hn hh h1 h2 hr hv hrd hl
        go_enter Tryz.func74, Tryz.ntmps74
        go_wp2_with (first
          | (go_at_call 92; refine HN.out.mono ?_; rintro e w' ⟨rfl, rfl⟩)
          | (go_at_call 93; refine HH.out.mono ?_; rintro e w' ⟨rfl, rfl⟩)
          | (at_delete; refine wpList_delete_own _ rfl _ _ 91 9 rfl 67 keyed9 Tryz.underlying91 raw B z.length _ rfl HZ.out.own _ _ rfl (key9 hs) ?_; intro w1 hown1 hturn1; have HO := Lib.hid (HZ.out.del hown1 hturn1); have HU := Lib.hid (Turned.of_map hturn1); have hc1 := HU.out.cell hc HT.out.ne; obtain ⟨mes, mcl, hmm⟩ := HZ.out.map; have HRR := Lib.hid (HR.out.turned HU.out hmm); clear hown1 hturn1 hmm)
          | (at_mapUpdate; refine wpList_mapUpdate_in _ rfl _ _ _ 91 rfl 9 67 keyed9 Tryz.underlying91 raw B (withoutT z nm).length _ rfl HO.out.own hzl _ _ _ rfl rfl (key9 hs2) _ [] (raw_mk A n c) ?_; intro w2 hown2 hturn2; have HO2 := Lib.hid hown2; have HU2 := Lib.hid hturn2; clear hown2 hturn2))
        go_ret
        have hg := Turned.of_map HU2.out
        refine ⟨rfl, (HT.out.to HU.out ⟨_, HO.out, (withoutT_map (fun x : Held => x.2) z nm).symm⟩).to hg ⟨_, HO.out.put HO2.out HU2.out HRR.out, ?_⟩, HU.out.trans hg⟩
        rw [withoutT_map, withT_map (fun x : Held => x.2) (withoutT z nm) to (.slice A n c, x.2)]
      · rw [h2] at hh
        have E : Hid (moveT (mapT (·.2) z) nm to = (mapT (·.2) z, 21)) := by simp [Hid, moveT, getT_map, hg, h1, h2]
        rw [E.out]
        have HN := Lib.hid hn; have HH := Lib.hid hh
        clear hz hg E hn hh h1 h2 hr hv
        go_enter Tryz.func74, Tryz.ntmps74
        go_wp2_with (first
          | (go_at_call 92; refine HN.out.mono ?_; rintro e w' ⟨rfl, rfl⟩)
          | (go_at_call 93; refine HH.out.mono ?_; rintro e w' ⟨rfl, rfl⟩))
        go_ret
        exact Does.same HT.out

set_option maxRecDepth 100000 in
set_option maxHeartbeats 800000 in
theorem put_any (p B : Nat) (nm : ByteArray) (A : Option Addr) (n c : Nat) (l : List ByteArray) (t : Tr) (w : World) (ht : TreeAt w p B t) (hx : Row w A n l) (hs : nm.size ≤ maxLen) (hl : t.length ≤ 65536) (hn : n ≤ 65536) (hb : ∀ s ∈ l, s.size ≤ maxLen) :
    Calls Tryz.prog 75 #[.pointer (some ⟨p, 0, none⟩), .string nm, .slice A n c] w (Does (putT t nm l) p B w) := by
  have HT := Lib.hid ht
  have hh := has_any p B nm t w ht hs
  have ha := all_any A n c l w hx hn hb
  cases h1 : hasT t nm
  · rw [h1] at hh
    have E : Hid (putT t nm l = (t, 20)) := by simp [Hid, putT, h1]
    rw [E.out]
    have HH := Lib.hid hh
    clear hh ha h1 E ht hx hb
    go_enter Tryz.func75, Tryz.ntmps75
    go_wp2_with (go_at_call 93; refine HH.out.mono ?_; rintro e w' ⟨rfl, rfl⟩)
    go_ret
    exact Does.same HT.out
  · rw [h1] at hh
    cases h2 : allB l
    · rw [h2] at ha
      have E : Hid (putT t nm l = (t, 1)) := by simp [Hid, putT, h1, h2]
      rw [E.out]
      have HH := Lib.hid hh; have HA := Lib.hid ha
      clear hh ha h1 h2 E ht hx hb
      go_enter Tryz.func75, Tryz.ntmps75
      go_wp2_with (first
        | (go_at_call 93; refine HH.out.mono ?_; rintro e w' ⟨rfl, rfl⟩)
        | (go_at_call 94; refine HA.out.mono ?_; rintro e w' ⟨rfl, rfl⟩))
      go_ret
      exact Does.same HT.out
    · rw [h2] at ha
      have E : Hid (putT t nm l = (withT t nm l, 0)) := by simp [Hid, putT, h1, h2]
      rw [E.out]
      have HH := Lib.hid hh; have HA := Lib.hid ha; have HX := Lib.hid hx
      obtain ⟨hc, z, hz, rfl⟩ := ht
      have HZ := Lib.hid hz
      have hzl : Hid (z.length < maxLen) := by rw [mapT_length] at hl; simp only [Hid, maxLen]; omega
      have HS := Lib.hid hs
      clear hs hh ha h1 h2 E hx hb hl hz
      go_enter Tryz.func75, Tryz.ntmps75
      go_wp2_with (first
        | (go_at_call 93; refine HH.out.mono ?_; rintro e w' ⟨rfl, rfl⟩)
        | (go_at_call 94; refine HA.out.mono ?_; rintro e w' ⟨rfl, rfl⟩))
      go_region_held3 (fun w' => w'.cell? ⟨p, 0, none⟩ = some (.map (some B))) (go_keep)
        (first
          | (go_at_call 45; refine (clone_any A n c l _ (HX.out.later (by first | exact Later.refl _ | exact (Later.refl _).drew | exact (Later.refl _).drewN _)) hn).mono ?_; rintro e w1 ⟨v1, rfl, hown⟩; have HL : Hid (Later w w1) := Later.trans (by first | exact Later.refl _ | exact (Later.refl _).drew | exact (Later.refl _).drewN _) hown.later; have hc1 := HL.out.cell hc; obtain ⟨A1, c1, rfl, hcc, hr1⟩ := hown.row; have HR := Lib.hid hr1; obtain ⟨w2, hrun2, hown2, hturn2⟩ := (HZ.out.later HL.out).own.store keyed9 Tryz.underlying91 hzl.out (key9 HS.out) (raw_mk A1 l.length c1); have HO2 := Lib.hid hown2; have HU2 := Lib.hid hturn2; have hc2 := (Turned.of_map hturn2).cell hc1 HT.out.ne; clear hown hr1 hown2 hturn2))
      go_wp2
      go_ret
      have hg := Turned.of_map HU2.out
      exact ⟨rfl, (HT.out.later HL.out).to hg ⟨_, (HZ.out.later HL.out).put HO2.out HU2.out ⟨A1, _, c1, rfl, hcc, HR.out⟩, (withT_map (fun x : Held => x.2) z nm (_, l)).symm⟩, (HL.out.turned B).trans hg⟩

/-- A row of the call's own, and a flag. -/
def Gets (o : Option (List ByteArray)) (w : World) (e : Ending) (w' : World) : Prop := ∃ v, e = .returned (.tuple #[v, .bool o.isSome]) ∧ Own 9 w w' v (o.getD [])

set_option maxHeartbeats 400000 in
theorem get_any (p B : Nat) (nm : ByteArray) (t : Tr) (w : World) (ht : TreeAt w p B t) (hs : nm.size ≤ maxLen) (hl : ∀ f ∈ t, f.2.length ≤ 65536) :
    Calls Tryz.prog 123 #[.pointer (some ⟨p, 0, none⟩), .string nm] w (Gets (getT t nm) w) := by
  obtain ⟨hc, z, hz, rfl⟩ := ht
  rw [getT_map]
  cases hg : getT z nm with
  | none =>
    have hlk := hz.look_no hs hg
    have HC := Lib.hid (clone_any none 0 0 [] w Row.none (by omega))
    clear hz hg
    go_enter Tryz.func123, Tryz.ntmps123
    go_wp2_with (go_at_call 45; refine HC.out.mono ?_; rintro e w1 ⟨v1, rfl, hown⟩; have HO := Lib.hid hown; clear hown)
    go_ret2
    exact ⟨v1, rfl, HO.out⟩
  | some x =>
    have hlk := hz.look_yes hs hg
    obtain ⟨A, n, c, hv, hnc, hr⟩ := hz.get hg
    have hlen : n ≤ 65536 := by
      have := hl (nm, x.2) (by simp only [mapT, List.mem_map]; exact ⟨_, getT_mem hg, rfl⟩)
      rw [← hr.len]; exact this
    rw [hv] at hlk
    have HC := Lib.hid (clone_any A n c x.2 w hr hlen)
    clear hz hg hr hl hv
    go_enter Tryz.func123, Tryz.ntmps123
    go_wp2_with (go_at_call 45; refine HC.out.mono ?_; rintro e w1 ⟨v1, rfl, hown⟩; have HO := Lib.hid hown; clear hown)
    go_ret2
    exact ⟨v1, rfl, HO.out⟩

end Go.Proofs.YtomboeiaajggoaaGreat

/-
  What tree's Put comes to, as a call, where it is taken: the new row lies behind all that was there.
-/
namespace Go.Proofs.YtomboeiaajggoaaGreat
open Go.RowKit Go.Maps

/-- The slice does not lie in block g. -/
def Off (g : Nat) (v : Value) : Prop := v.ownBlock ≠ some g

theorem Row.off {w w' : World} {g n c : Nat} {A : Option Addr} {l : List ByteArray} (h : Row w A n l) (hg : Turned g w w') (ho : l ≠ [] → Off g (.slice A n c)) : Row w' A n l :=
  ⟨h.1, fun hn => by
    obtain ⟨b, o, rfl, hc⟩ := h.2 hn
    have hl : l ≠ [] := by
      rintro rfl
      have := h.1
      simp at this; omega
    refine ⟨b, o, rfl, fun j s hs => hg.cell (hc j s hs) ?_⟩
    intro e
    exact ho hl (by simp only [Value.ownBlock]; rw [show b = g from e])⟩
theorem FA.off {w w' : World} {B g : Nat} {z : Fl Held} (h : FA w B z) (hg : Turned g w w') (hB : B ≠ g) (ho : ∀ f ∈ z, f.2.2 ≠ [] → Off g f.2.1) : FA w' B z :=
  ⟨h.own.kept hg (by simpa using hB), h.rise, fun f hf => by
    obtain ⟨A, n, c, e, h1, h2⟩ := h.reads f hf
    exact ⟨A, n, c, e, h1, h2.off (c := c) hg (by rw [← e]; exact ho f hf)⟩⟩

/-- The tree with the file's new lines, whose row lies behind all that was there at w. -/
def PutOk (p B : Nat) (z : Fl Held) (nm : ByteArray) (l : List ByteArray) (w : World) (e : Ending) (w' : World) : Prop :=
  ∃ v, e = .returned (.int .i64 0) ∧ w'.cell? ⟨p, 0, none⟩ = some (.map (some B)) ∧ FA w' B (withT z nm (v, l)) ∧ (∀ k, v.ownBlock = some k → w.heap.size ≤ k) ∧ Turned B w w'

set_option maxRecDepth 100000 in
set_option maxHeartbeats 800000 in
theorem put_ok (p B : Nat) (nm : ByteArray) (A : Option Addr) (n c : Nat) (l : List ByteArray) (z : Fl Held) (w : World) (hc : w.cell? ⟨p, 0, none⟩ = some (.map (some B))) (hz : FA w B z) (hx : Row w A n l) (hs : nm.size ≤ maxLen) (hl : z.length ≤ 65536) (hn : n ≤ 65536) (hb : ∀ s ∈ l, s.size ≤ maxLen)
    (h1 : hasT z nm = true) (h2 : allB l = true) :
    Calls Tryz.prog 75 #[.pointer (some ⟨p, 0, none⟩), .string nm, .slice A n c] w (PutOk p B z nm l w) := by
  have ht : TreeAt w p B (mapT (·.2) z) := ⟨hc, z, hz, rfl⟩
  have hne := ht.ne
  have hh := has_any p B nm _ w ht hs
  have ha := all_any A n c l w hx hn hb
  rw [hasT_map, h1] at hh
  rw [h2] at ha
  have HH := Lib.hid hh; have HA := Lib.hid ha; have HX := Lib.hid hx
  have HZ := Lib.hid hz
  have hzl : Hid (z.length < maxLen) := by simp only [Hid, maxLen]; omega
  have HS := Lib.hid hs
  clear hs hh ha h1 h2 hx hb hl hz ht
  go_enter Tryz.func75, Tryz.ntmps75
  go_wp2_with (first
    | (go_at_call 93; refine HH.out.mono ?_; rintro e w' ⟨rfl, rfl⟩)
    | (go_at_call 94; refine HA.out.mono ?_; rintro e w' ⟨rfl, rfl⟩))
  go_region_held3 (fun w' => w'.cell? ⟨p, 0, none⟩ = some (.map (some B))) (go_keep)
    (first
      | (go_at_call 45; refine (clone_any A n c l _ (HX.out.later (by first | exact Later.refl _ | exact (Later.refl _).drew | exact (Later.refl _).drewN _)) hn).mono ?_; rintro e w1 ⟨v1, rfl, hown⟩; have HL : Hid (Later w w1) := Later.trans (by first | exact Later.refl _ | exact (Later.refl _).drew | exact (Later.refl _).drewN _) hown.later; have hc1 := HL.out.cell hc; have HBK : Hid (∀ k, v1.ownBlock = some k → w.heap.size ≤ k) := (fun k hk => hown.block k hk); obtain ⟨A1, c1, rfl, hcc, hr1⟩ := hown.row; have HR := Lib.hid hr1; obtain ⟨w2, hrun2, hown2, hturn2⟩ := (HZ.out.later HL.out).own.store keyed9 Tryz.underlying91 hzl.out (key9 HS.out) (raw_mk A1 l.length c1); have HO2 := Lib.hid hown2; have HU2 := Lib.hid hturn2; have hc2 := (Turned.of_map hturn2).cell hc1 hne; clear hown hr1 hown2 hturn2))
  go_wp2
  go_ret
  have hg := Turned.of_map HU2.out
  exact ⟨_, rfl, hc2, (HZ.out.later HL.out).put HO2.out HU2.out ⟨A1, _, c1, rfl, hcc, HR.out⟩, HBK.out, (HL.out.turned B).trans hg⟩

end Go.Proofs.YtomboeiaajggoaaGreat

/-
  What prim's Invert comes to, as a call.
-/
namespace Go.Proofs.YtomboeiaajggoaaGreat
open Go.RowKit

set_option maxRecDepth 100000 in
set_option maxHeartbeats 800000 in
theorem primInvert_any (x : PrC) (w : World) (hx : PrOk w x) :
    Calls Tryz.prog 79 #[prV x] w (GivesPr (invertP x.v) w) := by
  have hlb : Later w ((w.alloc (.cells #[.int .i64 x.v.kind, .string x.v.name, .string x.v.to, .int .i64 x.v.place, .slice x.A x.n x.c, .slice x.B x.m x.d] 69)).alloc (.cells #[.int .i64 0, .string ⟨#[]⟩, .string ⟨#[]⟩, .int .i64 0, .slice none 0 0, .slice none 0 0] 69)) := ((Later.refl w).alloc _).alloc _
  have HC := Lib.hid (primClone_any x _ (hx.later hlb))
  clear hx
  obtain ⟨⟨kd, nm, to, pl, old, new⟩, A, n, c, B, m, d⟩ := x
  unfold prV at HC ⊢
  dsimp only at HC hlb ⊢
  go_enter Tryz.func79, Tryz.ntmps79
  go_wp2_with fail
  have hb0 : BoxAt ((w.alloc (.cells #[.int .i64 kd, .string nm, .string to, .int .i64 pl, .slice A n c, .slice B m d] 69)).alloc (.cells #[.int .i64 0, .string ⟨#[]⟩, .string ⟨#[]⟩, .int .i64 0, .slice none 0 0, .slice none 0 0] 69)) w.heap.size #[.int .i64 kd, .string nm, .string to, .int .i64 pl, .slice A n c, .slice B m d] 69 := (BoxAt.made w _ _).alloc _
  have hb1 : BoxAt ((w.alloc (.cells #[.int .i64 kd, .string nm, .string to, .int .i64 pl, .slice A n c, .slice B m d] 69)).alloc (.cells #[.int .i64 0, .string ⟨#[]⟩, .string ⟨#[]⟩, .int .i64 0, .slice none 0 0, .slice none 0 0] 69)) (w.heap.size + 1) #[.int .i64 0, .string ⟨#[]⟩, .string ⟨#[]⟩, .int .i64 0, .slice none 0 0, .slice none 0 0] 69 := by
    have := BoxAt.made (w.alloc (.cells #[.int .i64 kd, .string nm, .string to, .int .i64 pl, .slice A n c, .slice B m d] 69)) #[.int .i64 0, .string ⟨#[]⟩, .string ⟨#[]⟩, .int .i64 0, .slice none 0 0, .slice none 0 0] 69
    simpa using this
  refine HC.out.mono ?_
  clear HC
  generalize (w.alloc (.cells #[.int .i64 kd, .string nm, .string to, .int .i64 pl, .slice A n c, .slice B m d] 69)).alloc (.cells #[.int .i64 0, .string ⟨#[]⟩, .string ⟨#[]⟩, .int .i64 0, .slice none 0 0, .slice none 0 0] 69) = wb at hb0 hb1 hlb ⊢
  rintro e w1 ⟨u, v, rfl, hpr⟩
  obtain ⟨A1, c1, hv1, hcc1, hr1⟩ := hpr.old.row
  obtain ⟨A2, c2, hv2, hcc2, hr2⟩ := hpr.new.row
  subst hv1 hv2
  dsimp only at *
  have hlt := hb1.lt
  have hle := hpr.later.le
  have hb0' := (hb0.later hpr.later).alloc (.cells #[.int .i64 kd, .string nm, .string to, .int .i64 pl, .slice A1 old.length c1, .slice A2 new.length c2] 69)
  have k0 := hb0'.cell (i := 0) rfl
  have HB1 := Lib.hid (hb1.later hpr.later)
  have HP := Lib.hid (hpr.base hlb)
  have HUB : Hid (∀ b, (Value.slice A1 old.length c1).ownBlock = some b → wb.heap.size ≤ b) := hpr.old.block
  have HVB : Hid (∀ b, (Value.slice A2 new.length c2).ownBlock = some b → wb.heap.size ≤ b) := hpr.new.block
  clear hr1 hr2 hpr hb0 hb0' hb1 hlb hcc1 hcc2
  by_cases h0 : kd = 0
  · subst h0
    have E : Hid (invertP ⟨0, nm, to, pl, old, new⟩ = ⟨0, nm, to, pl, new, old⟩) := by simp [Hid, invertP]
    have d1 := HB1.out.alloc (.cells #[.int .i64 0, .string nm, .string to, .int .i64 pl, .slice A2 new.length c2, .slice A1 old.length c1] 69)
    have y0 := d1.cell (i := 0) rfl; have y1 := d1.cell (i := 1) rfl; have y2 := d1.cell (i := 2) rfl; have y3 := d1.cell (i := 3) rfl; have y4 := d1.cell (i := 4) rfl; have y5 := d1.cell (i := 5) rfl
    have z0 := d1.frozen 0; have z1 := d1.frozen 1; have z2 := d1.frozen 2; have z3 := d1.frozen 3; have z4 := d1.frozen 4; have z5 := d1.frozen 5
    have HD1 := Lib.hid d1
    clear d1
    go_wp2
    have hset := turned_set6 (w1.alloc (.cells #[.int .i64 0, .string nm, .string to, .int .i64 pl, .slice A2 new.length c2, .slice A1 old.length c1] 69)) (w.heap.size + 1) (.int .i64 0) (.string nm) (.string to) (.int .i64 pl) (.slice A2 new.length c2) (.slice A1 old.length c1)
    have hlw := (HP.out.later.alloc (.cells #[.int .i64 0, .string nm, .string to, .int .i64 pl, .slice A2 new.length c2, .slice A1 old.length c1] 69)).turn hset (by omega)
    refine bodyPost_ret (results_cell_row rfl _ _ (w.heap.size + 1) 69 _ (0, 0) _ rfl (HD1.out.set6 (.int .i64 0) (.string nm) (.string to) (.int .i64 pl) (.slice A2 new.length c2) (.slice A1 old.length c1)) Tryz.underlying69 rfl Tryz.primSize) rfl ?_
    rw [E.out]
    exact ⟨(.slice A2 new.length c2), (.slice A1 old.length c1), rfl, ((HP.out.new.alloc _).other hset (fun e => by have := HVB.out _ e; omega) hlw), ((HP.out.old.alloc _).other hset (fun e => by have := HUB.out _ e; omega) hlw), fun b h1 h2 => HP.out.apart b h2 h1⟩
  by_cases h1 : kd = 1
  · subst h1
    have E : Hid (invertP ⟨1, nm, to, pl, old, new⟩ = ⟨2, nm, to, pl, old, new⟩) := by simp [Hid, invertP]
    have d1 := HB1.out.alloc (.cells #[.int .i64 2, .string nm, .string to, .int .i64 pl, .slice A1 old.length c1, .slice A2 new.length c2] 69)
    have y0 := d1.cell (i := 0) rfl; have y1 := d1.cell (i := 1) rfl; have y2 := d1.cell (i := 2) rfl; have y3 := d1.cell (i := 3) rfl; have y4 := d1.cell (i := 4) rfl; have y5 := d1.cell (i := 5) rfl
    have z0 := d1.frozen 0; have z1 := d1.frozen 1; have z2 := d1.frozen 2; have z3 := d1.frozen 3; have z4 := d1.frozen 4; have z5 := d1.frozen 5
    have HD1 := Lib.hid d1
    clear d1
    go_wp2
    have hset := turned_set6 (w1.alloc (.cells #[.int .i64 2, .string nm, .string to, .int .i64 pl, .slice A1 old.length c1, .slice A2 new.length c2] 69)) (w.heap.size + 1) (.int .i64 2) (.string nm) (.string to) (.int .i64 pl) (.slice A1 old.length c1) (.slice A2 new.length c2)
    have hlw := (HP.out.later.alloc (.cells #[.int .i64 2, .string nm, .string to, .int .i64 pl, .slice A1 old.length c1, .slice A2 new.length c2] 69)).turn hset (by omega)
    refine bodyPost_ret (results_cell_row rfl _ _ (w.heap.size + 1) 69 _ (0, 0) _ rfl (HD1.out.set6 (.int .i64 2) (.string nm) (.string to) (.int .i64 pl) (.slice A1 old.length c1) (.slice A2 new.length c2)) Tryz.underlying69 rfl Tryz.primSize) rfl ?_
    rw [E.out]
    exact ⟨(.slice A1 old.length c1), (.slice A2 new.length c2), rfl, ((HP.out.old.alloc _).other hset (fun e => by have := HUB.out _ e; omega) hlw), ((HP.out.new.alloc _).other hset (fun e => by have := HVB.out _ e; omega) hlw), HP.out.apart⟩
  by_cases h2 : kd = 2
  · subst h2
    have E : Hid (invertP ⟨2, nm, to, pl, old, new⟩ = ⟨1, nm, to, pl, old, new⟩) := by simp [Hid, invertP]
    have d1 := HB1.out.alloc (.cells #[.int .i64 1, .string nm, .string to, .int .i64 pl, .slice A1 old.length c1, .slice A2 new.length c2] 69)
    have y0 := d1.cell (i := 0) rfl; have y1 := d1.cell (i := 1) rfl; have y2 := d1.cell (i := 2) rfl; have y3 := d1.cell (i := 3) rfl; have y4 := d1.cell (i := 4) rfl; have y5 := d1.cell (i := 5) rfl
    have z0 := d1.frozen 0; have z1 := d1.frozen 1; have z2 := d1.frozen 2; have z3 := d1.frozen 3; have z4 := d1.frozen 4; have z5 := d1.frozen 5
    have HD1 := Lib.hid d1
    clear d1
    go_wp2
    have hset := turned_set6 (w1.alloc (.cells #[.int .i64 1, .string nm, .string to, .int .i64 pl, .slice A1 old.length c1, .slice A2 new.length c2] 69)) (w.heap.size + 1) (.int .i64 1) (.string nm) (.string to) (.int .i64 pl) (.slice A1 old.length c1) (.slice A2 new.length c2)
    have hlw := (HP.out.later.alloc (.cells #[.int .i64 1, .string nm, .string to, .int .i64 pl, .slice A1 old.length c1, .slice A2 new.length c2] 69)).turn hset (by omega)
    refine bodyPost_ret (results_cell_row rfl _ _ (w.heap.size + 1) 69 _ (0, 0) _ rfl (HD1.out.set6 (.int .i64 1) (.string nm) (.string to) (.int .i64 pl) (.slice A1 old.length c1) (.slice A2 new.length c2)) Tryz.underlying69 rfl Tryz.primSize) rfl ?_
    rw [E.out]
    exact ⟨(.slice A1 old.length c1), (.slice A2 new.length c2), rfl, ((HP.out.old.alloc _).other hset (fun e => by have := HUB.out _ e; omega) hlw), ((HP.out.new.alloc _).other hset (fun e => by have := HVB.out _ e; omega) hlw), HP.out.apart⟩
  by_cases h3 : kd = 3
  · subst h3
    have E : Hid (invertP ⟨3, nm, to, pl, old, new⟩ = ⟨3, to, nm, pl, old, new⟩) := by simp [Hid, invertP]
    have d1 := HB1.out.alloc (.cells #[.int .i64 3, .string to, .string nm, .int .i64 pl, .slice A1 old.length c1, .slice A2 new.length c2] 69)
    have y0 := d1.cell (i := 0) rfl; have y1 := d1.cell (i := 1) rfl; have y2 := d1.cell (i := 2) rfl; have y3 := d1.cell (i := 3) rfl; have y4 := d1.cell (i := 4) rfl; have y5 := d1.cell (i := 5) rfl
    have z0 := d1.frozen 0; have z1 := d1.frozen 1; have z2 := d1.frozen 2; have z3 := d1.frozen 3; have z4 := d1.frozen 4; have z5 := d1.frozen 5
    have HD1 := Lib.hid d1
    clear d1
    go_wp2
    have hset := turned_set6 (w1.alloc (.cells #[.int .i64 3, .string to, .string nm, .int .i64 pl, .slice A1 old.length c1, .slice A2 new.length c2] 69)) (w.heap.size + 1) (.int .i64 3) (.string to) (.string nm) (.int .i64 pl) (.slice A1 old.length c1) (.slice A2 new.length c2)
    have hlw := (HP.out.later.alloc (.cells #[.int .i64 3, .string to, .string nm, .int .i64 pl, .slice A1 old.length c1, .slice A2 new.length c2] 69)).turn hset (by omega)
    refine bodyPost_ret (results_cell_row rfl _ _ (w.heap.size + 1) 69 _ (0, 0) _ rfl (HD1.out.set6 (.int .i64 3) (.string to) (.string nm) (.int .i64 pl) (.slice A1 old.length c1) (.slice A2 new.length c2)) Tryz.underlying69 rfl Tryz.primSize) rfl ?_
    rw [E.out]
    exact ⟨(.slice A1 old.length c1), (.slice A2 new.length c2), rfl, ((HP.out.old.alloc _).other hset (fun e => by have := HUB.out _ e; omega) hlw), ((HP.out.new.alloc _).other hset (fun e => by have := HVB.out _ e; omega) hlw), HP.out.apart⟩
  have E : Hid (invertP ⟨kd, nm, to, pl, old, new⟩ = ⟨kd, nm, to, pl, old, new⟩) := by simp [Hid, invertP, h0, h1, h2, h3]
  have d1 := HB1.out.alloc (.cells #[.int .i64 kd, .string nm, .string to, .int .i64 pl, .slice A1 old.length c1, .slice A2 new.length c2] 69)
  have y0 := d1.cell (i := 0) rfl; have y1 := d1.cell (i := 1) rfl; have y2 := d1.cell (i := 2) rfl; have y3 := d1.cell (i := 3) rfl; have y4 := d1.cell (i := 4) rfl; have y5 := d1.cell (i := 5) rfl
  have z0 := d1.frozen 0; have z1 := d1.frozen 1; have z2 := d1.frozen 2; have z3 := d1.frozen 3; have z4 := d1.frozen 4; have z5 := d1.frozen 5
  have HD1 := Lib.hid d1
  clear d1
  go_wp2
  have hset := turned_set6 (w1.alloc (.cells #[.int .i64 kd, .string nm, .string to, .int .i64 pl, .slice A1 old.length c1, .slice A2 new.length c2] 69)) (w.heap.size + 1) (.int .i64 kd) (.string nm) (.string to) (.int .i64 pl) (.slice A1 old.length c1) (.slice A2 new.length c2)
  have hlw := (HP.out.later.alloc (.cells #[.int .i64 kd, .string nm, .string to, .int .i64 pl, .slice A1 old.length c1, .slice A2 new.length c2] 69)).turn hset (by omega)
  refine bodyPost_ret (results_cell_row rfl _ _ (w.heap.size + 1) 69 _ (0, 0) _ rfl (HD1.out.set6 (.int .i64 kd) (.string nm) (.string to) (.int .i64 pl) (.slice A1 old.length c1) (.slice A2 new.length c2)) Tryz.underlying69 rfl Tryz.primSize) rfl ?_
  rw [E.out]
  exact ⟨(.slice A1 old.length c1), (.slice A2 new.length c2), rfl, ((HP.out.old.alloc _).other hset (fun e => by have := HUB.out _ e; omega) hlw), ((HP.out.new.alloc _).other hset (fun e => by have := HVB.out _ e; omega) hlw), HP.out.apart⟩

end Go.Proofs.YtomboeiaajggoaaGreat

/-
  What slices.Equal at rows of texts comes to, as a call.
-/
namespace Go.Proofs.YtomboeiaajggoaaGreat
open Go.RowKit

set_option maxHeartbeats 400000 in
theorem equal_any (A B : Option Addr) (n c m d : Nat) (xs ys : List ByteArray) (w : World) (hx : Row w A n xs) (hy : Row w B m ys) (hn : n ≤ 65536) (hm : m ≤ 65536) :
    Calls Tryz.prog 80 #[.slice A n c, .slice B m d] w fun e w' => e = .returned (.bool (sameB xs ys)) ∧ ∃ q, w' = w.drewN q := by
  by_cases hnm : n = m
  · subst hnm
    have HX := Lib.hid hx; clear hx
    have HY := Lib.hid hy; clear hy
    go_enter Tryz.func80, Tryz.ntmps80
    go_wp2
    go_loopg [13] n (fun g s13 wr => ∃ k q : Nat, k ≤ n ∧ n - k ≤ g ∧ s13 = .int .i64 k ∧ wr = w.drewN q ∧ Hid (xs.take k = ys.take k))
    case atStart => exact ⟨0, 0, Nat.zero_le _, by omega, rfl, rfl, by simp [Hid]⟩
    case round =>
      obtain ⟨k, q, hk, hg, rfl, rfl, heq⟩ := hrel
      by_cases hlt : k < n
      · obtain ⟨b1, o1, rfl, g1⟩ := HX.out.get hlt
        obtain ⟨b2, o2, rfl, g2⟩ := HY.out.get hlt
        generalize hxk : xs.getD k ByteArray.empty = x at g1
        generalize hyk : ys.getD k ByteArray.empty = y at g2
        have X := Lib.hid hxk; clear hxk
        have Y := Lib.hid hyk; clear hyk
        by_cases hxy : x = y
        · subst hxy
          go_wp2_with fail
          go_quiet (fail)
          go_wp2
          go_roundg (n - (k + 1))
          case measure => omega
          case rel => exact ⟨k + 1, _, by omega, by omega, by go_num, rfl, take_same (by rw [HX.out.len]; exact hlt) (by rw [HY.out.len]; exact hlt) heq.out (X.out.trans Y.out.symm)⟩
        · have hb := text_ne hxy
          go_wp2_with fail
          go_quiet (fail)
          go_wp2
          go_ret
          refine ⟨?_, _, World.drewN_drewN _ _ _⟩
          rw [beq_of_other (by rw [X.out, Y.out]; exact hxy)]
          rfl
      · have hkn : k = n := by omega
        have e : sameB xs ys = true := by
          rw [hkn, List.take_of_length_le (by rw [HX.out.len]; omega), List.take_of_length_le (by rw [HY.out.len]; omega)] at heq
          exact sameB_yes heq.out
        have E := Lib.hid e; clear e heq
        go_wp2
        go_ret
        exact ⟨by rw [E.out]; rfl, _, rfl⟩
  · have e : sameB xs ys = false := by
      refine sameB_no fun h => ?_; rw [h] at hx; exact hnm (hx.len.symm.trans hy.len)
    have E := Lib.hid e; clear e hx hy
    have hnm' : ¬ (n : Int) = (m : Int) := by omega
    go_enter Tryz.func80, Tryz.ntmps80
    go_wp2
    go_ret
    exact ⟨by rw [E.out]; rfl, 0, rfl⟩

end Go.Proofs.YtomboeiaajggoaaGreat

/-
  What line.Same comes to, as a call.
-/
namespace Go.Proofs.YtomboeiaajggoaaGreat
open Go.RowKit

set_option maxHeartbeats 400000 in
theorem same_any (A B : Option Addr) (n c m d : Nat) (xs ys : List ByteArray) (w : World) (hx : Row w A n xs) (hy : Row w B m ys) (hn : n ≤ 65536) (hm : m ≤ 65536) :
    Calls Tryz.prog 50 #[.slice A n c, .slice B m d] w fun e w' => e = .returned (.bool (sameB xs ys)) ∧ ∃ q, w' = w.drewN q := by
  have H := Lib.hid (equal_any A B n c m d xs ys w hx hy hn hm)
  clear hx hy
  go_enter Tryz.func50, Tryz.ntmps50
  go_wp2_with (go_at_call 80; refine H.out.mono ?_; rintro e w' ⟨rfl, q, rfl⟩)
  go_ret
  exact ⟨rfl, q, rfl⟩

end Go.Proofs.YtomboeiaajggoaaGreat

/-
  What prim's Same comes to, as a call.
-/
namespace Go.Proofs.YtomboeiaajggoaaGreat
open Go.RowKit

set_option maxRecDepth 100000 in
set_option maxHeartbeats 800000 in
theorem primSame_any (x y : PrC) (w : World) (hx : PrOk w x) (hy : PrOk w y) :
    Calls Tryz.prog 82 #[prV x, prV y] w (Says (sameP x.v y.v) w) := by
  obtain ⟨⟨kd, nm, to, pl, old, new⟩, A, n, c, B, m, d⟩ := x
  obtain ⟨⟨kd', nm', to', pl', old', new'⟩, A', n', c', B', m', d'⟩ := y
  have hlb : Later w ((w.alloc (.cells #[.int .i64 kd, .string nm, .string to, .int .i64 pl, .slice A n c, .slice B m d] 69)).alloc (.cells #[.int .i64 kd', .string nm', .string to', .int .i64 pl', .slice A' n' c', .slice B' m' d'] 69)) := ((Later.refl w).alloc _).alloc _
  have H1 := Lib.hid (same_any A A' n c n' c' old old' _ (hx.old.later hlb) (hy.old.later hlb) hx.omost hy.omost)
  have H2 := Lib.hid (fun (w1 : World) (h : Later w w1) => same_any B B' m d m' d' new new' w1 (hx.new.later h) (hy.new.later h) hx.nmost hy.nmost)
  have HLB := Lib.hid hlb
  have HX := Lib.hid hx; have HY := Lib.hid hy
  unfold prV
  dsimp only
  clear hx hy hlb
  by_cases h1 : kd = kd'
  · subst h1
    by_cases h2 : nm = nm'
    · subst h2
      by_cases h3 : to = to'
      · subst h3
        by_cases h4 : pl = pl'
        · subst h4
          have E : Hid (sameP ⟨kd, nm, to, pl, old, new⟩ ⟨kd, nm, to, pl, old', new'⟩ = (sameB old old' && sameB new new')) := by simp [Hid, sameP]
          rw [E.out]
          clear E
          cases h5 : sameB old old'
          · rw [h5] at H1
            rw [Bool.false_and]
            go_enter Tryz.func82, Tryz.ntmps82
            go_wp2_with fail
            refine H1.out.mono ?_
            rintro e w1 ⟨rfl, q, rfl⟩
            go_wp2
            go_ret
            exact ⟨rfl, HLB.out.drewN q⟩
          · rw [h5] at H1
            rw [Bool.true_and]
            generalize sameB new new' = b at H2 ⊢
            go_enter Tryz.func82, Tryz.ntmps82
            go_wp2_with fail
            refine H1.out.mono ?_
            rintro e w1 ⟨rfl, q, rfl⟩
            go_wp2_with fail
            refine (H2.out _ (HLB.out.drewN q)).mono ?_
            rintro e w1 ⟨rfl, q2, rfl⟩
            go_wp2
            go_ret
            exact ⟨rfl, HLB.out.drewN _⟩
        · have E : Hid (sameP ⟨kd, nm, to, pl, old, new⟩ ⟨kd, nm, to, pl', old', new'⟩ = false) := by simp [Hid, sameP, h4]
          rw [E.out]
          clear E
          go_enter Tryz.func82, Tryz.ntmps82
          go_wp2
          go_ret
          exact ⟨rfl, HLB.out⟩
      · have E : Hid (sameP ⟨kd, nm, to, pl, old, new⟩ ⟨kd, nm, to', pl', old', new'⟩ = false) := by simp [Hid, sameP, h3]
        rw [E.out]
        have hb := text_ne h3
        clear E
        go_enter Tryz.func82, Tryz.ntmps82
        go_wp2
        go_ret
        exact ⟨rfl, HLB.out⟩
    · have E : Hid (sameP ⟨kd, nm, to, pl, old, new⟩ ⟨kd, nm', to', pl', old', new'⟩ = false) := by simp [Hid, sameP, h2]
      rw [E.out]
      have hb := text_ne h2
      clear E
      go_enter Tryz.func82, Tryz.ntmps82
      go_wp2
      go_ret
      exact ⟨rfl, HLB.out⟩
  · have E : Hid (sameP ⟨kd, nm, to, pl, old, new⟩ ⟨kd', nm', to', pl', old', new'⟩ = false) := by simp [Hid, sameP, h1]
    rw [E.out]
    clear E
    go_enter Tryz.func82, Tryz.ntmps82
    go_wp2
    go_ret
    exact ⟨rfl, HLB.out⟩

end Go.Proofs.YtomboeiaajggoaaGreat
