/-
  bytes.Repeat of one byte, 64 times, as a call.
-/
import Derived.Test.YtknjkkdoeanhbaaBkBytes
import Derived.Lib.MakeNoZero
import Derived.Laws.Externs
import Derived.Deep.RegionLaw
namespace Go.Proofs.Ytknjkkdoeanhbaa
open Go.RowKit

/-- copy, as one step of a region that draws its order. -/
theorem step_copy_mid {P : Program} {ops : Array Oper} {o : Oper} {a : Act} {w : World} {K : Act → World → Prop} {Q : Exit → Act → World → Prop} {E : Prop} (hgd : o.guard = none) (d s : Operand) (dT sT : TypeId)
    (ho : o.op = Op.call { callee := Callee.builtin Builtin.copy, args := #[d, s], argTypes := #[dT, sT] }) (elem : TypeId) (hu : P.underlying dT = some (.slice elem)) (hsz : (P.info? elem).map (·.size) = some 1)
    (b k dLen dCap : Nat) (ad : Addr) (sLen sCap : Nat) (hd : a.eval d = .slice (some ⟨b, k, none⟩) dLen dCap) (hs : a.eval s = .slice (some ad) sLen sCap)
    (cs : List Value) (hn : cs.length = Nat.min sLen dLen) (hsrc : ∀ j v, cs[j]? = some v → w.cell? (ad.add j) = some v) (hth : w.there b k cs.length) (h1 : ∀ v ∈ cs, v.oneCell' = true)
    (h : ∀ w', w' = w.setCells b k cs → K (a.put o.dst (goInt cs.length)) w') : if Region.wanted o (yielded ops a.tmps) = true then Oper.wp P o a w K Q else E := by
  have hw : Region.wanted o (yielded ops a.tmps) = true := by simp [Region.wanted, hgd]
  rw [if_pos hw]
  have hrun := run_copy_cells (P := P) w dT sT o.type elem b k dLen dCap ad sLen sCap cs hu hsz hn hsrc (fun j hj => (hth j hj).1) (fun j hj => (hth j hj).2) h1
  unfold Oper.wp
  simp [execOp, ho, resolve, invoke, builtin, hd, hs, hrun, Result.andThen]
  exact h _ rfl
/-- The first k cells of block g are this byte. -/
def Fills (w : World) (g : Nat) (x : UInt8) (k : Nat) : Prop := ∃ cur, CellsAt w g cur 5 ∧ 64 ≤ cur.size ∧ ∀ i, i < k → cur[i]? = some (.int .u8 (x.toNat : Int))
theorem Fills.more {w w' : World} {g k q : Nat} {x : UInt8} (h : Fills w g x k) (hq : k + q ≤ 64) (hw : w' = w.setCells g k (List.replicate q (.int .u8 (x.toNat : Int)))) : Fills w' g x (k + q) := by
  obtain ⟨cur, hc, hs, hf⟩ := h
  refine ⟨_, by rw [hw]; exact hc.sets _, by rw [setRun_size]; exact hs, fun i hi => ?_⟩
  by_cases h1 : i < k
  · rw [setRun_out _ _ _ _ (.inl h1)]
    exact hf i h1
  · obtain ⟨j, rfl⟩ : ∃ j, i = k + j := ⟨i - k, by omega⟩
    exact setRun_in _ _ k j _ (by rw [List.getElem?_replicate, if_pos (by omega)]) (by rw [List.length_replicate]; omega)
theorem Fills.drew {w : World} {g k : Nat} {x : UInt8} (h : Fills w g x k) : Fills w.drew g x k := h
set_option maxRecDepth 100000 in
set_option maxHeartbeats 800000 in
theorem repeat_any (w : World) (b c : Nat) (x : UInt8) (hx : w.cell? ⟨b, 0, none⟩ = some (.int .u8 (x.toNat : Int))) :
    Calls Try.prog 32 #[.slice (some ⟨b, 0, none⟩) 1 c, .int .i64 64] w fun e w' => e = .returned (.slice (some ⟨w.heap.size, 0, none⟩) 64 64) ∧ BsAt w' (some ⟨w.heap.size, 0, none⟩) 64 (List.replicate 64 x) ∧ Later w w' := by
  have HM := Lib.hid (mul_one w)
  obtain ⟨cs, hrun, hle, -⟩ := Lib.run_makeNoZero (P := Try.prog) w #[3] 33 5 Try.underlying33 64 (by decide)
  have hcall : (callFunc 47 #[.int .i64 64]).run Try.prog w = .ok (.value (.slice (some ⟨w.heap.size, 0, none⟩) 64 cs.size)) (w.drew.drew.alloc (.cells cs 5)) := by
    rw [run_callFunc_extern Try.func47 (by kernel_rfl) (by kernel_rfl) (by kernel_rfl) (e := Extern.BytealgMakeNoZero.makeNoZero #[3] #[33]) (by kernel_rfl)]
    have h2 : (Extern.BytealgMakeNoZero.makeNoZero #[3] #[33] #[.int .i64 64]).run Try.prog w = .ok (.slice (some ⟨w.heap.size, 0, none⟩) 64 cs.size) (w.drew.drew.alloc (.cells cs 5)) := hrun
    rw [h2]
    rfl
  have hl1 : Later w (w.drew.drew.alloc (.cells cs 5)) := ((Later.refl w).drew.drew).alloc _
  have hc1 : CellsAt (w.drew.drew.alloc (.cells cs 5)) w.heap.size cs 5 := CellsAt.made w.drew.drew cs 5
  have hle' : ((64 : Int) ≤ (cs.size : Int)) := by omega
  clear hrun
  go_enter Try.func32, Try.ntmps32
  go_wp2_with fail
  refine HM.out.mono ?_
  rintro e w1 ⟨rfl, rfl⟩
  have HL1 := Lib.hid hl1; have HC1 := Lib.hid hc1
  clear hl1 hc1
  generalize w1.drew.drew.alloc (.cells cs 5) = w2 at *
  have HX2 := Lib.hid (HL1.out.cell hx)
  have HG : Hid (∀ q, q = w1.heap.size → w1.heap.size ≤ q) := fun q hq => by omega
  generalize hg : w1.heap.size = g at *
  have HGG := Lib.hid hg
  clear hg
  go_wp2_with (with_reducible show wpList _ _ _ ({ dst := some 60, op := Op.call _, type := _, pos := _, after := _, guard := _ } :: _) _ _; refine Hid.out ?_)
  refine Lib.hid (wpList_copy_mid rfl _ _ _ _ rfl 5 Try.underlying33 Try.byteSize (some ⟨g, 0, none⟩) (some ⟨b, 0, none⟩) 64 64 1 c rfl rfl g 0 (List.replicate 1 (.int .u8 (x.toNat : Int))) rfl (fun _ => ⟨rfl, _, rfl, fun j v hj => ?_⟩) (HC1.out.there (by simp; omega)) (fun v hv => by rw [List.eq_of_mem_replicate hv]; rfl) ?_)
  · rw [List.getElem?_replicate] at hj
    split at hj
    · cases hj
      obtain rfl : j = 0 := by omega
      exact HX2.out
    · cases hj
  intro w3 hw3
  have hf0 : Fills w2 g x 0 := ⟨cs, HC1.out, hle, fun i hi => absurd hi (Nat.not_lt_zero _)⟩
  have HF := Lib.hid (hf0.more (q := 1) (by decide) hw3)
  have HL3 : Hid (Later w1 w3) := by
    show Later _ _
    rw [hw3]
    exact (sets_chg (g := g) _ w2 0).low HL1.out (fun q hq => by rw [hq, HGG.out]; exact Nat.le_refl _)
  clear hw3 hf0 HL1 HC1 HX2 hcall hx HG HM
  go_wp2_with fail
  go_loopg [10] 65 (fun g0 s10 wr => ∃ k : Nat, 1 ≤ k ∧ k ≤ 64 ∧ 64 - k ≤ g0 ∧ s10 = .int .i64 (k : Nat) ∧ Hid (Fills wr g x k) ∧ Hid (Later w1 wr))
  case atStart => exact ⟨1, by decide, by decide, by decide, rfl, HF, HL3⟩
  case round =>
    obtain ⟨k, hk1, hk, hg, rfl, hf, hlw⟩ := hrel
    clear HF HL3
    by_cases hlt : k < 64
    · obtain ⟨q, hq⟩ : ∃ q, q = Nat.min k (64 - k) := ⟨_, rfl⟩
      have hq' : q = min k (64 - k) := hq
      have hq1 : 1 ≤ q := by omega
      have hq2 : k + q ≤ 64 := by omega
      have hmin : min ((k : Nat) : Int) 64 = (k : Nat) := by omega
      have HQ := Lib.hid hq
      have HSRC : Hid (∀ (j : Nat) (v : Value), (List.replicate q (Value.int .u8 (x.toNat : Int)))[j]? = some v → wr.drew.cell? ((⟨g, 0, none⟩ : Addr).add j) = some v) := fun j v hj => by
        obtain ⟨cur, hc, hs, hf'⟩ := hf.out
        rw [List.getElem?_replicate] at hj
        split at hj
        · cases hj
          rw [plain_add, Nat.zero_add]
          exact (Later.refl wr).drew.cell (hc.cell (hf' j (by omega)))
        · cases hj
      have HTH : Hid (wr.drew.there g k (List.replicate q (Value.int .u8 (x.toNat : Int))).length) := by
        obtain ⟨cur, hc, hs, _⟩ := hf.out
        exact (hc.later (Later.refl wr).drew).there (by rw [List.length_replicate]; omega)
      have HLN : Hid ((List.replicate q (Value.int .u8 (x.toNat : Int))).length = Nat.min k (64 - k)) := by show _ = _; rw [List.length_replicate]; exact hq
      have HON : Hid (∀ v ∈ List.replicate q (Value.int .u8 (x.toNat : Int)), v.oneCell' = true) := fun v hv => by rw [List.eq_of_mem_replicate hv]; rfl
      have hk64 : ((k : Nat) : Int) ≤ 64 := by omega
      have hne : ¬ (64 = k) := by omega
      clear hq hq'
      go_wp2_with fail
      clear hmin
      go_region_law? (refine step_copy_mid rfl _ _ _ _ rfl 5 Try.underlying33 Try.byteSize g k (64 - k) (64 - k) ⟨g, 0, none⟩ k 64 (by go_simp) (by go_simp) (List.replicate q (.int .u8 (x.toNat : Int))) HLN.out HSRC.out HTH.out HON.out ?_; intro w4 hw4; have HW4 := Lib.hid hw4; clear hw4)
      have hf4 := Lib.hid (hf.out.drew.more hq2 HW4.out)
      have hl4 : Hid (Later w1 w4) := by
        show Later _ _
        rw [HW4.out]
        exact (sets_chg (g := g) _ wr.drew k).low (hlw.out.drew) (fun p hp => by rw [hp, HGG.out]; exact Nat.le_refl _)
      have hw : IntKind.i64.wrap ((k : Int) + (q : Int)) = ((k + q : Nat) : Int) := by rw [IntKind.wrap_i64]; omega
      clear HSRC HTH HLN HON HQ HW4
      go_wp2
      go_roundg (64 - (k + q))
      case measure => omega
      case rel => exact ⟨k + q, by omega, hq2, by omega, by go_num, hf4, hl4⟩
    · obtain rfl : k = 64 := by omega
      go_wp2
      go_ret
      obtain ⟨cur, hc, hs, hf'⟩ := hf.out
      rw [HGG.out]
      refine ⟨rfl, ⟨List.length_replicate, fun _ => ⟨g, 0, rfl, fun j y hj => ?_⟩⟩, hlw.out⟩
      rw [List.getElem?_replicate] at hj
      split at hj
      · cases hj
        rw [Nat.zero_add]
        exact hc.cell (hf' j (by omega))
      · cases hj

end Go.Proofs.Ytknjkkdoeanhbaa
