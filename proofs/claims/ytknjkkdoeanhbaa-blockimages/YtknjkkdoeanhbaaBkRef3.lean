/-
  The reference's Image, as a call.
-/
import Derived.Test.YtknjkkdoeanhbaaBkRef2
import Derived.Test.YtknjkkdoeanhbaaBkAlive
namespace Go.Proofs.Ytknjkkdoeanhbaa
open Go.RowKit

def imageR (k : Nat) (s : StP) : Bs := ((List.range k).map (atR s)).flatten
theorem imageR_succ (k : Nat) (s : StP) : imageR (k + 1) s = imageR k s ++ atR s k := by
  unfold imageR
  rw [List.range_succ, List.map_append, List.flatten_append]
  simp
theorem imageR_length {k : Nat} {s : StP} (h : ∀ i, i < k → (atR s i).length = 64) : (imageR k s).length = k * 64 := by
  unfold imageR
  rw [flat64 (fun b hb => by
    obtain ⟨i, hi, rfl⟩ := List.mem_map.1 hb
    exact h i (List.mem_range.1 hi)), List.length_map, List.length_range]
theorem own_ne {w : World} {B n g : Nat} {v : Value} {xs : List Value} {cur : Array Value} {T : TypeId} (h : w.ownsRow B 5 1 v n xs) (hc : CellsAt w g cur T) (hT : T ≠ 5) : v.ownBlock ≠ some g := fun e => by
  rcases h.2 with ⟨hv, _⟩ | ⟨b, cap, cur', hv, _, hh, _⟩
  · rw [hv] at e
    cases e
  · rw [hv] at e
    have e1 : b = g := by injection e
    subst e1
    have h2 : w.heap[b]? = some (.cells cur T (0, 0)) := hc
    rw [hh] at h2
    injection h2 with h2
    injection h2 with _ h2
    exact hT h2.symm
theorem own_later {w w' : World} {B n : Nat} {v : Value} {xs : List Value} (h : w.ownsRow B 5 1 v n xs) (hl : Later w w') : w'.ownsRow B 5 1 v n xs := by
  refine h.kept (row := none) ⟨hl.os, hl.tape, hl.output, hl.size, fun i hi _ => hl.block i hi⟩ ?_
  by_cases hq : v.ownBlock = none
  · exact .inl hq
  · exact .inr hq
/-- What the loops of Image keep. -/
structure ImLp (W w : World) (cs : Array Value) (v : Value) (bs : Bs) : Prop where
  own : w.ownsRow W.heap.size 5 1 v bs.length (Lib.byteCells bs)
  box : CellsAt w W.heap.size cs 30
  base : Later W w
section
variable {W w w' : World} {cs : Array Value} {v : Value} {bs : Bs}
theorem ImLp.later (h : ImLp W w cs v bs) (hl : Later w w') : ImLp W w' cs v bs := ⟨own_later h.own hl, h.box.later hl, h.base.trans hl⟩
end
section
variable {w w' : World} {A B : Option Addr} {n m : Nat} {s : StP}
set_option maxRecDepth 100000 in
set_option maxHeartbeats 1600000 in
theorem imageRef_any (h : StAt w A n B m s) (hm : m ≤ 1000000) (hn : n ≤ 100000) (c e : Nat) :
    Calls Try.prog 33 #[.agg #[.slice A n c, .slice B m e, .int .i64 (s.ops : Nat), .int .i64 s.fuse, .bool s.down]] w fun e w' => ∃ v, e = .returned v ∧ w'.ownsRow w.heap.size 5 1 v (imageR n s).length (Lib.byteCells (imageR n s)) ∧ Later w w' := by
  have HH := Lib.hid h
  clear h
  go_enter Try.func33, Try.ntmps33
  go_wp2
  have hla : Later w (w.alloc (.cells #[.slice A n c, .slice B m e, .int .i64 (s.ops : Nat), .int .i64 s.fuse, .bool s.down] 30)) := (Later.refl w).alloc _
  have HST : Hid (ImLp w (w.alloc (.cells #[.slice A n c, .slice B m e, .int .i64 (s.ops : Nat), .int .i64 s.fuse, .bool s.down] 30)) #[.slice A n c, .slice B m e, .int .i64 (s.ops : Nat), .int .i64 s.fuse, .bool s.down] (.slice none 0 0) (imageR 0 s)) := ⟨⟨rfl, .inl ⟨rfl, rfl⟩⟩, CellsAt.made _ _ _, hla⟩
  clear hla
  go_loopg [3, 4] (n + 1) (fun g0 s3 s4 wr => ∃ (k : Nat), k ≤ n ∧ n - k ≤ g0 ∧ s4 = .int .i64 (k : Nat) ∧ Hid (ImLp w wr #[.slice A n c, .slice B m e, .int .i64 (s.ops : Nat), .int .i64 s.fuse, .bool s.down] s3 (imageR k s)))
  case atStart => exact ⟨0, Nat.zero_le _, by omega, rfl, HST⟩
  case round =>
    clear HST
    obtain ⟨k, hk, hg, rfl, hlp⟩ := hrel
    have q0 : wr.cell? ⟨w.heap.size, 0, none⟩ = some (.slice A n c) := hlp.out.box.cell rfl
    have q1 : wr.cell? ⟨w.heap.size, 1, none⟩ = some (.slice B m e) := hlp.out.box.cell rfl
    have q2 : wr.cell? ⟨w.heap.size, 2, none⟩ = some (.int .i64 (s.ops : Nat)) := hlp.out.box.cell rfl
    have q3 : wr.cell? ⟨w.heap.size, 3, none⟩ = some (.int .i64 s.fuse) := hlp.out.box.cell rfl
    have q4 : wr.cell? ⟨w.heap.size, 4, none⟩ = some (.bool s.down) := hlp.out.box.cell rfl
    by_cases hlt : k < n
    · have HC := Lib.hid (at_any (HH.out.later hlp.out.base) hm k hlt (by omega) c e)
      have HL64 := Lib.hid (HH.out.atR_length hlt)
      have HIL : Hid ((imageR k s).length ≤ 64 * 100000) := by
        show _ ≤ _
        rw [imageR_length fun i hi => HH.out.atR_length (Nat.lt_trans hi hlt)]
        omega
      go_wp2_with fail
      refine HC.out.mono ?_
      rintro e2 w2 ⟨rfl, hl2⟩
      have HLP2 := Lib.hid (hlp.out.later hl2)
      clear hl2 hlp HC q0 q1 q2 q3 q4
      go_wp2_with (with_reducible show wpList _ _ _ ({ dst := some 5, op := Op.alloc _, type := _, pos := _, after := _, guard := _ } :: _) _ _; refine Hid.out ?_)
      refine Lib.hid (wpList_alloc_new rfl _ rfl _ Try.rblockZero ?_)
      intro w3 hc3 hl3 _
      have HLP3 := Lib.hid (HLP2.out.later hl3)
      have hg5 : w.heap.size ≤ w2.heap.size := HLP2.out.base.le
      refine wpList_store_mids rfl rfl _ _ _ rfl w2.heap.size 0 (Lib.byteCells (atR s k)) rfl rfl (hc3.there (by simp only [Value.cells, List.size_toArray]; rw [bc_len, bc_len, HL64.out]; decide)) (by rw [bc_len, HL64.out]; exact Try.rblockSize) (bc_one _) ?_
      intro w4 hw4
      have hc4 : CellsAt w4 w2.heap.size (Lib.byteCells (atR s k)).toArray 55 := by
        have := hc3.sets (Lib.byteCells (atR s k)) (o := 0)
        rw [set_all (by simp only [Value.cells, List.size_toArray]; rw [bc_len, bc_len, HL64.out]; rfl)] at this
        rw [hw4]
        exact this
      have hch4 : Chg (fun q => q = w2.heap.size) w3 w4 := by rw [hw4]; exact sets_chg _ _ _
      have hl4 : Later w w4 := hch4.low HLP3.out.base (fun q hq => by rw [hq]; exact hg5)
      have HI : Hid (ImLp w w4 #[.slice A n c, .slice B m e, .int .i64 (s.ops : Nat), .int .i64 s.fuse, .bool s.down] u3 (imageR k s ++ (atR s k).take 0)) := by
        have hlt3 := HLP2.out.own.lt
        refine ⟨?_, HLP3.out.box.chg hch4 (fun q => by have := HLP2.out.box.lt; omega), hl4⟩
        rw [List.take_zero, List.append_nil]
        refine HLP3.out.own.kept (row := some w2.heap.size) ⟨hch4.os, hch4.tape, hch4.output, hch4.size, fun i hi hn => hch4.block i hi fun e => hn (by rw [e])⟩ ?_
        by_cases hq : u3.ownBlock = none
        · exact .inl hq
        · exact .inr fun e => by have := (hlt3 _ e).2; omega
      obtain ⟨g5, hgg⟩ : ∃ g, g = w2.heap.size := ⟨_, rfl⟩
      rw [← hgg] at hc4 ⊢
      have HC4 := Lib.hid hc4
      clear hc4 hw4 hc3 hl3 HLP2 HLP3 hg5 hch4 hl4 hgg
      refine Lib.hid ?_
      go_wp2
      go_loopg [3, 6] 65 (fun g0 t3 s6 wr => ∃ (j : Nat), j ≤ 64 ∧ 64 - j ≤ g0 ∧ s6 = .int .i64 (j : Nat) ∧ Hid (ImLp w wr #[.slice A n c, .slice B m e, .int .i64 (s.ops : Nat), .int .i64 s.fuse, .bool s.down] t3 (imageR k s ++ (atR s k).take j)) ∧ Hid (CellsAt wr g5 (Lib.byteCells (atR s k)).toArray 55))
      case atStart => exact ⟨0, by omega, by omega, rfl, HI, HC4⟩
      case round =>
        clear HI HC4
        obtain ⟨j, hj, hgj, rfl, hip, h5⟩ := hrel
        by_cases hj64 : j < 64
        · obtain ⟨x, hx⟩ : ∃ x, (atR s k)[j]? = some x := ⟨_, List.getElem?_eq_getElem (by rw [HL64.out]; exact hj64)⟩
          have p0 : wr.cell? ⟨g5, j, none⟩ = some (.int .u8 (x.toNat : Int)) := h5.out.cell (by rw [List.getElem?_toArray]; unfold Lib.byteCells; rw [List.getElem?_map, hx]; rfl)
          have hla : Later wr (wr.alloc (.cells #[.int .u8 (x.toNat : Int)] 5)) := (Later.refl wr).alloc _
          have HIA := Lib.hid (hip.out.later hla); have HCA := Lib.hid (h5.out.later hla)
          have HBX : Hid (BsAt (wr.alloc (.cells #[.int .u8 (x.toNat : Int)] 5)) (some ⟨wr.heap.size, 0, none⟩) 1 [x]) := ⟨rfl, fun _ => ⟨_, _, rfl, fun i y hy => by
            match i, hy with
            | 0, hy =>
              simp at hy; subst hy
              exact (CellsAt.made wr #[.int .u8 (x.toNat : Int)] 5).cell (i := 0) rfl
            | i + 1, hy => simp at hy⟩⟩
          have HSZ : Hid ((imageR k s ++ (atR s k).take j).length ≤ 90000000) := by
            show _ ≤ _
            have hb := HIL.out
            rw [List.length_append, List.length_take]
            omega
          have htk : (atR s k).take (j + 1) = (atR s k).take j ++ [x] := by
            rw [List.take_add_one, hx]
            rfl
          have HTK := Lib.hid htk
          clear hla hip h5 hx htk
          go_wp2_with (at_builtin; refine wpList_append_bs rfl _ _ rfl HIA.out.own rfl rfl HBX.out (fun e => by cases e) (by decide) (by have := HSZ.out; omega) HIA.out.base.le ?_; intro v4 w5 hown4 hg4; have HO4 := Lib.hid hown4; have HG4 := Lib.hid hg4; clear hown4 hg4; refine Hid.out ?_)
          have hch : Chg (fun q => Value.ownBlock u3 = some q) (wr.alloc (.cells #[.int .u8 (x.toNat : Int)] 5)) w5 := Chg.grown HG4.out fun q hq => .inl hq
          have hbase : Later w w5 := hch.low HIA.out.base (fun q hq => (HIA.out.own.lt q hq).1)
          have HI2 : Hid (ImLp w w5 #[.slice A n c, .slice B m e, .int .i64 (s.ops : Nat), .int .i64 s.fuse, .bool s.down] v4 (imageR k s ++ (atR s k).take (j + 1))) := by
            refine ⟨?_, HIA.out.box.chg hch (own_ne HIA.out.own HIA.out.box (by decide)), hbase⟩
            have := HO4.out
            rw [← bc_app, List.append_assoc, ← HTK.out] at this
            rw [show (imageR k s ++ (atR s k).take (j + 1)).length = (imageR k s ++ (atR s k).take j).length + 1 by rw [HTK.out]; simp [Nat.add_assoc]]
            exact this
          have HC2 := Lib.hid (HCA.out.chg hch (own_ne HIA.out.own HCA.out (by decide)))
          clear hch hbase HO4 HG4 HIA HCA HBX HSZ HTK p0
          refine Lib.hid ?_
          go_wp2
          go_roundg (64 - (j + 1))
          case measure => omega
          case rel => exact ⟨j + 1, by omega, by omega, by go_num, HI2, HC2⟩
        · have hj' : j = 64 := by omega
          have HEND : Hid (ImLp w wr #[.slice A n c, .slice B m e, .int .i64 (s.ops : Nat), .int .i64 s.fuse, .bool s.down] u3 (imageR (k + 1) s)) := by
            have := hip.out
            rw [List.take_of_length_le (by rw [HL64.out]; omega), ← imageR_succ] at this
            exact this
          clear hip h5
          go_wp2
          go_roundg (n - (k + 1))
          case measure => omega
          case rel => exact ⟨k + 1, by omega, by omega, by go_num, HEND⟩
    · obtain rfl : k = n := by omega
      clear q0 q1 q2 q3 q4
      have q0 : wr.cell? ⟨w.heap.size, 0, none⟩ = some (.slice A k c) := hlp.out.box.cell rfl
      go_wp2
      go_ret
      exact ⟨_, rfl, hlp.out.own, hlp.out.base⟩
end

end Go.Proofs.Ytknjkkdoeanhbaa
