/-
  A slice that reads as bytes.
-/
import Derived.Test.YtknjkkdoeanhbaaChecked
import Derived.Test.YtknjkkdoeanhbaaOwn
import Derived.Test.YtknjkkdoeanhbaaBt
import Derived.Lib.Bytes
import Derived.Lib.AppendIntMem
namespace Go.Proofs.Ytknjkkdoeanhbaa
open Go.RowKit

theorem Try.byteInfo : (Try.prog.info? 5).map (fun i => (i.zero, i.size, i.bytes)) = some (some (.int .u8 0), 1, 1) := by kernel_rfl
/-- The slice at A of n bytes reads as these. -/
def BsAt (w : World) (A : Option Addr) (n : Nat) (bs : Bs) : Prop :=
  bs.length = n ∧ (0 < n → ∃ b o, A = some ⟨b, o, none⟩ ∧ ∀ j x, bs[j]? = some x → w.cell? ⟨b, o + j, none⟩ = some (.int .u8 (x.toNat : Int)))
/-- The numbers of bytes. -/
def numsOf (bs : Bs) : List Int := bs.map fun x => (x.toNat : Int)
theorem numsOf_length (bs : Bs) : (numsOf bs).length = bs.length := by simp [numsOf]
theorem numsOf_byte (bs : Bs) : ∀ x ∈ numsOf bs, 0 ≤ x ∧ x < 256 := by
  intro x hx
  obtain ⟨b, _, rfl⟩ := List.mem_map.1 hx
  have := b.toNat_lt
  omega
theorem bytesOf_nums (bs : Bs) : Lib.bytesOf (numsOf bs) = bs := by
  unfold Lib.bytesOf numsOf
  rw [List.map_map]
  conv => rhs; rw [← List.map_id bs]
  refine List.map_congr_left fun x _ => ?_
  simp
theorem getD_nums {bs : Bs} {j : Nat} {x : UInt8} (h : bs[j]? = some x) : (numsOf bs).getD j 0 = (x.toNat : Int) := by
  simp [numsOf, List.getD, h]
section
variable {w w' : World} {A : Option Addr} {n : Nat} {bs : Bs}
theorem BsAt.len (h : BsAt w A n bs) : bs.length = n := h.1
theorem BsAt.none (w : World) (A : Option Addr) : BsAt w A 0 [] := ⟨rfl, fun h => absurd h (by omega)⟩
theorem BsAt.later (h : BsAt w A n bs) (hl : Later w w') : BsAt w' A n bs := ⟨h.1, fun hn => by
  obtain ⟨b, o, e, hc⟩ := h.2 hn
  exact ⟨b, o, e, fun j x hx => hl.cell (hc j x hx)⟩⟩
/-- The bytes from place k on. -/
theorem BsAt.from_ (h : BsAt w A n bs) {c k : Nat} (hk : k ≤ n) (hc : n ≤ c) : BsAt w (if c = k then A else A.map (·.add k)) (n - k) (bs.drop k) := by
  refine ⟨by rw [List.length_drop, h.1], fun hn => ?_⟩
  obtain ⟨b, o, rfl, hcl⟩ := h.2 (by omega)
  rw [if_neg (by omega)]
  refine ⟨b, o + k, by simp only [Option.map_some, plain_add], fun j x hx => ?_⟩
  rw [List.getElem?_drop] at hx
  rw [Nat.add_assoc]
  exact hcl _ x hx
theorem BsAt.take (h : BsAt w A n bs) {k : Nat} (hk : k ≤ n) : BsAt w A k (bs.take k) := by
  refine ⟨by rw [List.length_take, h.1]; omega, fun hn => ?_⟩
  obtain ⟨b, o, rfl, hcl⟩ := h.2 (by omega)
  refine ⟨b, o, rfl, fun j x hx => ?_⟩
  rw [List.getElem?_take] at hx
  split at hx
  · exact hcl _ x hx
  · cases hx
theorem BsAt.get (h : BsAt w A n bs) {k : Nat} (hk : k < n) : ∃ b o, A = some ⟨b, o, .none⟩ ∧ w.cell? ⟨b, o + k, .none⟩ = some (.int .u8 ((bs.getD k 0).toNat : Int)) := by
  obtain ⟨b, o, rfl, hc⟩ := h.2 (by omega)
  have hz : bs[k]? = some (bs[k]'(by rw [h.1]; exact hk)) := List.getElem?_eq_getElem _
  refine ⟨b, o, rfl, ?_⟩
  rw [hc k _ hz]
  simp [List.getD, hz]
/-- As copy asks for it. -/
theorem BsAt.src (h : BsAt w A n bs) (hp : 0 < (Lib.byteCells bs).length) : ∃ ad, A = some ad ∧ ∀ (j : Nat) v, (Lib.byteCells bs)[j]? = some v → w.cell? (ad.add j) = some v := by
  have hl : (Lib.byteCells bs).length = n := by simp [Lib.byteCells, h.1]
  obtain ⟨b, o, e, hc⟩ := h.2 (by omega)
  refine ⟨⟨b, o, .none⟩, e, fun j v hj => ?_⟩
  unfold Lib.byteCells at hj
  rw [List.getElem?_map] at hj
  obtain ⟨x, hx, rfl⟩ := Option.map_eq_some_iff.1 hj
  rw [plain_add]
  exact hc j x hx
end

end Go.Proofs.Ytknjkkdoeanhbaa
