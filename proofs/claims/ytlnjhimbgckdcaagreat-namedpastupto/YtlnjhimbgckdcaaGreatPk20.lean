import Derived.Test.YtlnjhimbgckdcaaGreatPk18
import Derived.Test.YtlnjhimbgckdcaaGreatPk19
import Derived.Deep.LoopGhost
import Derived.Deep.QuietTactic
import Derived.BigQuiet
import Derived.Lib.Hide

/-
  The statements' own example of layer 7: what it is made of.
-/
namespace Go.Proofs.YtlnjhimbgckdcaaGreat
open Go.RowKit Go.Maps

def e7 (k : Int) (n : UInt8) : Pr := ⟨k, ⟨#[n]⟩, ⟨#[]⟩, 0, [], []⟩
def e7x : Pr := ⟨0, ⟨#[97]⟩, ⟨#[]⟩, 0, [], [⟨#[120]⟩]⟩
def n7A : Pa := ⟨1, ⟨#[]⟩, [], [e7 1 97]⟩
def n7B : Pa := ⟨2, ⟨#[98]⟩, [], [e7 1 98]⟩
def n7C : Pa := ⟨3, ⟨#[]⟩, [], [e7x]⟩
def n7D : Pa := ⟨9, ⟨#[]⟩, [], [e7 1 99]⟩
theorem n7_group : groupN [n7A, n7B, n7C] = ([n7A, n7C], [n7B]) := by kernel_rfl
theorem n7_swap : swapN n7A n7B = some (n7B, n7A) := by kernel_rfl
theorem n7_past : pastN [n7A, n7B] n7D = some (n7D, [n7A, n7B]) := by kernel_rfl
theorem n7_sameA : sameN n7A n7A = true := by kernel_rfl
theorem n7_sameB : sameN n7B n7B = true := by kernel_rfl
theorem n7_needs : (swapN n7A n7C).isNone = true := by kernel_rfl
theorem n7_right : rightN n7A = true := by kernel_rfl
theorem n7_wrong : rightN zeroPa = false := by kernel_rfl

theorem RowK.lit {k : Nat} (w : World) (css : List (List Value)) (hk : ∀ cs ∈ css, cs.length = k) (t : TypeId) : RowK k (w.alloc (.cells css.flatten.toArray t)) (some ⟨w.heap.size, 0, .none⟩) css.length css := by
  refine ⟨rfl, hk, fun _ => ⟨_, _, rfl, fun j i cs v hj hi => ?_⟩⟩
  have hik : i < k := by rw [← hk cs (List.mem_of_getElem? hj)]; exact (List.getElem?_eq_some_iff.1 hi).1
  have hb : (w.alloc (.cells css.flatten.toArray t)).heap[w.heap.size]? = some (.cells css.flatten.toArray t (0, 0)) := heap_alloc_new w _
  simp only [World.cell?, hb, Nat.zero_add]
  have := flat_at hk hj hik
  rw [hi] at this
  simpa using this
theorem NsOk.front {w : World} {A : Option Addr} {n k : Nat} {xs : List PaC} (h : NsOk w A n xs) (hk : k <= n) : NsOk w A k (xs.take k) := by
  have hl := h.len
  refine ⟨⟨by simp; omega, fun cs hcs => ?_, fun h0 => ?_⟩, fun x hx => h.each x (List.mem_of_mem_take hx)⟩
  · obtain ⟨y, _, rfl⟩ := List.mem_map.1 hcs
    rfl
  · obtain ⟨b, o, e, hc⟩ := h.row.2.2 (by omega)
    refine ⟨b, o, e, fun j i cs v hj hi => hc j i cs v ?_ hi⟩
    rw [List.map_take] at hj
    rw [List.getElem?_take] at hj
    split at hj
    · exact hj
    · cases hj
theorem bare7 (w : World) (k : Int) (n : UInt8) : PrOk w ⟨e7 k n, none, 0, 0, none, 0, 0⟩ :=
  ⟨Row.none, Row.none, Nat.le_refl _, Nat.le_refl _, Nat.zero_le _, Nat.zero_le _, of_decide_eq_true rfl, of_decide_eq_true rfl, (by show (-9223372036854775808 : Int) <= 0; omega), (by show (0 : Int) <= 9223372036854775807; omega), (fun s hs => by cases hs), (fun s hs => by cases hs)⟩
theorem patch7 {w : World} {b : Nat} {p : Pa} {x : PrC} (hr : RowK 6 w (some ⟨b, 0, none⟩) 1 ([x].map prL)) (hx : PrOk w x) (hl : p.l = [x.v]) (hd : p.deps = []) (hn : p.note.size <= 100) (h1 : -100 <= p.id) (h2 : p.id <= 100) : PaOk w ⟨p, none, 0, 0, some ⟨b, 0, none⟩, 1, 1, [x]⟩ := by
  refine ⟨?_, ⟨hr, fun y hy => by simp at hy; subst hy; exact hx⟩, hl.symm, Nat.le_refl _, Nat.le_refl _, Nat.zero_le _, (by show 1 <= 30000; omega), (by show p.note.size <= maxLen; simp only [maxLen]; omega), (by show _ <= p.id; omega), (by show p.id <= _; omega), (fun d hd' => by rw [show _ = p.deps from rfl, hd] at hd'; cases hd'), (fun d hd' => by rw [show _ = p.deps from rfl, hd] at hd'; cases hd')⟩
  show RowK 1 w none 0 (p.deps.map numL)
  rw [hd]
  exact RowK.none
def c7A (g : Nat) : PaC := ⟨n7A, none, 0, 0, some ⟨g, 0, none⟩, 1, 1, [⟨e7 1 97, none, 0, 0, none, 0, 0⟩]⟩
def c7B (g : Nat) : PaC := ⟨n7B, none, 0, 0, some ⟨g, 0, none⟩, 1, 1, [⟨e7 1 98, none, 0, 0, none, 0, 0⟩]⟩
def c7C (g h : Nat) : PaC := ⟨n7C, none, 0, 0, some ⟨g, 0, none⟩, 1, 1, [⟨e7x, none, 0, 0, some ⟨h, 0, none⟩, 1, 1⟩]⟩
def c7D (g : Nat) : PaC := ⟨n7D, none, 0, 0, some ⟨g, 0, none⟩, 1, 1, [⟨e7 1 99, none, 0, 0, none, 0, 0⟩]⟩
theorem c7D_ok (w : World) : PaOk (w.alloc (.cells #[.int .i64 1, .string ⟨#[99]⟩, .string ⟨#[]⟩, .int .i64 0, .slice none 0 0, .slice none 0 0] 58)) (c7D w.heap.size) := patch7 (row_one w ⟨e7 1 99, none, 0, 0, none, 0, 0⟩ 58) (bare7 _ _ _) rfl rfl (of_decide_eq_true rfl) (by decide) (by decide)
theorem e7_list (w : World) : NsOk (((((w.alloc (.cells #[.int .i64 1, .string ⟨#[97]⟩, .string ⟨#[]⟩, .int .i64 0, .slice none 0 0, .slice none 0 0] 58)).alloc (.cells #[.int .i64 1, .string ⟨#[98]⟩, .string ⟨#[]⟩, .int .i64 0, .slice none 0 0, .slice none 0 0] 58)).alloc (.cells #[.string ⟨#[120]⟩] 9)).alloc (.cells #[.int .i64 0, .string ⟨#[97]⟩, .string ⟨#[]⟩, .int .i64 0, .slice none 0 0, .slice (some ⟨w.heap.size + 1 + 1, 0, none⟩) 1 1] 58)).alloc (.cells #[.int .i64 1, .string ⟨#[]⟩, .slice none 0 0, .slice (some ⟨w.heap.size, 0, none⟩) 1 1, .int .i64 2, .string ⟨#[98]⟩, .slice none 0 0, .slice (some ⟨w.heap.size + 1, 0, none⟩) 1 1, .int .i64 3, .string ⟨#[]⟩, .slice none 0 0, .slice (some ⟨w.heap.size + 1 + 1 + 1, 0, none⟩) 1 1] 30)) (some ⟨w.heap.size + 1 + 1 + 1 + 1, 0, none⟩) 3 [c7A (w.heap.size), c7B (w.heap.size + 1), c7C (w.heap.size + 1 + 1 + 1) (w.heap.size + 1 + 1)] := by
  have l1 : Later (w.alloc (.cells #[.int .i64 1, .string ⟨#[97]⟩, .string ⟨#[]⟩, .int .i64 0, .slice none 0 0, .slice none 0 0] 58)) (((((w.alloc (.cells #[.int .i64 1, .string ⟨#[97]⟩, .string ⟨#[]⟩, .int .i64 0, .slice none 0 0, .slice none 0 0] 58)).alloc (.cells #[.int .i64 1, .string ⟨#[98]⟩, .string ⟨#[]⟩, .int .i64 0, .slice none 0 0, .slice none 0 0] 58)).alloc (.cells #[.string ⟨#[120]⟩] 9)).alloc (.cells #[.int .i64 0, .string ⟨#[97]⟩, .string ⟨#[]⟩, .int .i64 0, .slice none 0 0, .slice (some ⟨w.heap.size + 1 + 1, 0, none⟩) 1 1] 58)).alloc (.cells #[.int .i64 1, .string ⟨#[]⟩, .slice none 0 0, .slice (some ⟨w.heap.size, 0, none⟩) 1 1, .int .i64 2, .string ⟨#[98]⟩, .slice none 0 0, .slice (some ⟨w.heap.size + 1, 0, none⟩) 1 1, .int .i64 3, .string ⟨#[]⟩, .slice none 0 0, .slice (some ⟨w.heap.size + 1 + 1 + 1, 0, none⟩) 1 1] 30)) := ((((Later.refl _).alloc _).alloc _).alloc _).alloc _
  have l2 : Later ((w.alloc (.cells #[.int .i64 1, .string ⟨#[97]⟩, .string ⟨#[]⟩, .int .i64 0, .slice none 0 0, .slice none 0 0] 58)).alloc (.cells #[.int .i64 1, .string ⟨#[98]⟩, .string ⟨#[]⟩, .int .i64 0, .slice none 0 0, .slice none 0 0] 58)) (((((w.alloc (.cells #[.int .i64 1, .string ⟨#[97]⟩, .string ⟨#[]⟩, .int .i64 0, .slice none 0 0, .slice none 0 0] 58)).alloc (.cells #[.int .i64 1, .string ⟨#[98]⟩, .string ⟨#[]⟩, .int .i64 0, .slice none 0 0, .slice none 0 0] 58)).alloc (.cells #[.string ⟨#[120]⟩] 9)).alloc (.cells #[.int .i64 0, .string ⟨#[97]⟩, .string ⟨#[]⟩, .int .i64 0, .slice none 0 0, .slice (some ⟨w.heap.size + 1 + 1, 0, none⟩) 1 1] 58)).alloc (.cells #[.int .i64 1, .string ⟨#[]⟩, .slice none 0 0, .slice (some ⟨w.heap.size, 0, none⟩) 1 1, .int .i64 2, .string ⟨#[98]⟩, .slice none 0 0, .slice (some ⟨w.heap.size + 1, 0, none⟩) 1 1, .int .i64 3, .string ⟨#[]⟩, .slice none 0 0, .slice (some ⟨w.heap.size + 1 + 1 + 1, 0, none⟩) 1 1] 30)) := (((Later.refl _).alloc _).alloc _).alloc _
  have l3 : Later (((w.alloc (.cells #[.int .i64 1, .string ⟨#[97]⟩, .string ⟨#[]⟩, .int .i64 0, .slice none 0 0, .slice none 0 0] 58)).alloc (.cells #[.int .i64 1, .string ⟨#[98]⟩, .string ⟨#[]⟩, .int .i64 0, .slice none 0 0, .slice none 0 0] 58)).alloc (.cells #[.string ⟨#[120]⟩] 9)) (((((w.alloc (.cells #[.int .i64 1, .string ⟨#[97]⟩, .string ⟨#[]⟩, .int .i64 0, .slice none 0 0, .slice none 0 0] 58)).alloc (.cells #[.int .i64 1, .string ⟨#[98]⟩, .string ⟨#[]⟩, .int .i64 0, .slice none 0 0, .slice none 0 0] 58)).alloc (.cells #[.string ⟨#[120]⟩] 9)).alloc (.cells #[.int .i64 0, .string ⟨#[97]⟩, .string ⟨#[]⟩, .int .i64 0, .slice none 0 0, .slice (some ⟨w.heap.size + 1 + 1, 0, none⟩) 1 1] 58)).alloc (.cells #[.int .i64 1, .string ⟨#[]⟩, .slice none 0 0, .slice (some ⟨w.heap.size, 0, none⟩) 1 1, .int .i64 2, .string ⟨#[98]⟩, .slice none 0 0, .slice (some ⟨w.heap.size + 1, 0, none⟩) 1 1, .int .i64 3, .string ⟨#[]⟩, .slice none 0 0, .slice (some ⟨w.heap.size + 1 + 1 + 1, 0, none⟩) 1 1] 30)) := ((Later.refl _).alloc _).alloc _
  have l4 : Later ((((w.alloc (.cells #[.int .i64 1, .string ⟨#[97]⟩, .string ⟨#[]⟩, .int .i64 0, .slice none 0 0, .slice none 0 0] 58)).alloc (.cells #[.int .i64 1, .string ⟨#[98]⟩, .string ⟨#[]⟩, .int .i64 0, .slice none 0 0, .slice none 0 0] 58)).alloc (.cells #[.string ⟨#[120]⟩] 9)).alloc (.cells #[.int .i64 0, .string ⟨#[97]⟩, .string ⟨#[]⟩, .int .i64 0, .slice none 0 0, .slice (some ⟨w.heap.size + 1 + 1, 0, none⟩) 1 1] 58)) (((((w.alloc (.cells #[.int .i64 1, .string ⟨#[97]⟩, .string ⟨#[]⟩, .int .i64 0, .slice none 0 0, .slice none 0 0] 58)).alloc (.cells #[.int .i64 1, .string ⟨#[98]⟩, .string ⟨#[]⟩, .int .i64 0, .slice none 0 0, .slice none 0 0] 58)).alloc (.cells #[.string ⟨#[120]⟩] 9)).alloc (.cells #[.int .i64 0, .string ⟨#[97]⟩, .string ⟨#[]⟩, .int .i64 0, .slice none 0 0, .slice (some ⟨w.heap.size + 1 + 1, 0, none⟩) 1 1] 58)).alloc (.cells #[.int .i64 1, .string ⟨#[]⟩, .slice none 0 0, .slice (some ⟨w.heap.size, 0, none⟩) 1 1, .int .i64 2, .string ⟨#[98]⟩, .slice none 0 0, .slice (some ⟨w.heap.size + 1, 0, none⟩) 1 1, .int .i64 3, .string ⟨#[]⟩, .slice none 0 0, .slice (some ⟨w.heap.size + 1 + 1 + 1, 0, none⟩) 1 1] 30)) := (Later.refl _).alloc _
  have rA := row_one w ⟨e7 1 97, none, 0, 0, none, 0, 0⟩ 58
  have rB := row_one (w.alloc (.cells #[.int .i64 1, .string ⟨#[97]⟩, .string ⟨#[]⟩, .int .i64 0, .slice none 0 0, .slice none 0 0] 58)) ⟨e7 1 98, none, 0, 0, none, 0, 0⟩ 58
  have rX := Row.lit ((w.alloc (.cells #[.int .i64 1, .string ⟨#[97]⟩, .string ⟨#[]⟩, .int .i64 0, .slice none 0 0, .slice none 0 0] 58)).alloc (.cells #[.int .i64 1, .string ⟨#[98]⟩, .string ⟨#[]⟩, .int .i64 0, .slice none 0 0, .slice none 0 0] 58)) [⟨#[120]⟩] 9
  have rC := row_one (((w.alloc (.cells #[.int .i64 1, .string ⟨#[97]⟩, .string ⟨#[]⟩, .int .i64 0, .slice none 0 0, .slice none 0 0] 58)).alloc (.cells #[.int .i64 1, .string ⟨#[98]⟩, .string ⟨#[]⟩, .int .i64 0, .slice none 0 0, .slice none 0 0] 58)).alloc (.cells #[.string ⟨#[120]⟩] 9)) ⟨e7x, none, 0, 0, some ⟨w.heap.size + 1 + 1, 0, none⟩, 1, 1⟩ 58
  have rL := RowK.lit (k := 4) ((((w.alloc (.cells #[.int .i64 1, .string ⟨#[97]⟩, .string ⟨#[]⟩, .int .i64 0, .slice none 0 0, .slice none 0 0] 58)).alloc (.cells #[.int .i64 1, .string ⟨#[98]⟩, .string ⟨#[]⟩, .int .i64 0, .slice none 0 0, .slice none 0 0] 58)).alloc (.cells #[.string ⟨#[120]⟩] 9)).alloc (.cells #[.int .i64 0, .string ⟨#[97]⟩, .string ⟨#[]⟩, .int .i64 0, .slice none 0 0, .slice (some ⟨w.heap.size + 1 + 1, 0, none⟩) 1 1] 58)) ([c7A (w.heap.size), c7B (w.heap.size + 1), c7C (w.heap.size + 1 + 1 + 1) (w.heap.size + 1 + 1)].map paL) (by
    intro cs hcs
    obtain ⟨y, _, rfl⟩ := List.mem_map.1 hcs
    rfl) 30
  rw [World.size_alloc] at rB
  rw [World.size_alloc, World.size_alloc] at rX
  rw [World.size_alloc, World.size_alloc, World.size_alloc] at rC
  rw [World.size_alloc, World.size_alloc, World.size_alloc, World.size_alloc] at rL
  refine ⟨rL, fun x hx => ?_⟩
  simp only [List.mem_cons, List.not_mem_nil, or_false] at hx
  rcases hx with rfl | rfl | rfl
  · exact patch7 (rA.later l1) (bare7 _ _ _) rfl rfl (of_decide_eq_true rfl) (by decide) (by decide)
  · exact patch7 (rB.later l2) (bare7 _ _ _) rfl rfl (of_decide_eq_true rfl) (by decide) (by decide)
  · exact patch7 (rC.later l4) ⟨Row.none, rX.later l3, Nat.le_refl _, Nat.le_refl _, Nat.zero_le _, (by show 1 <= 65536; omega), of_decide_eq_true rfl, of_decide_eq_true rfl, (by show (-9223372036854775808 : Int) <= 0; omega), (by show (0 : Int) <= 9223372036854775807; omega), (fun s hs => by cases hs), fun s hs => by simp [e7x] at hs; subst hs; exact of_decide_eq_true rfl⟩ rfl rfl (of_decide_eq_true rfl) (by decide) (by decide)
theorem e7_box (w : World) : BoxAt (((((w.alloc (.cells #[.int .i64 1, .string ⟨#[97]⟩, .string ⟨#[]⟩, .int .i64 0, .slice none 0 0, .slice none 0 0] 58)).alloc (.cells #[.int .i64 1, .string ⟨#[98]⟩, .string ⟨#[]⟩, .int .i64 0, .slice none 0 0, .slice none 0 0] 58)).alloc (.cells #[.string ⟨#[120]⟩] 9)).alloc (.cells #[.int .i64 0, .string ⟨#[97]⟩, .string ⟨#[]⟩, .int .i64 0, .slice none 0 0, .slice (some ⟨w.heap.size + 1 + 1, 0, none⟩) 1 1] 58)).alloc (.cells #[.int .i64 1, .string ⟨#[]⟩, .slice none 0 0, .slice (some ⟨w.heap.size, 0, none⟩) 1 1, .int .i64 2, .string ⟨#[98]⟩, .slice none 0 0, .slice (some ⟨w.heap.size + 1, 0, none⟩) 1 1, .int .i64 3, .string ⟨#[]⟩, .slice none 0 0, .slice (some ⟨w.heap.size + 1 + 1 + 1, 0, none⟩) 1 1] 30)) (w.heap.size + 1 + 1 + 1 + 1) #[.int .i64 1, .string ⟨#[]⟩, .slice none 0 0, .slice (some ⟨w.heap.size, 0, none⟩) 1 1, .int .i64 2, .string ⟨#[98]⟩, .slice none 0 0, .slice (some ⟨w.heap.size + 1, 0, none⟩) 1 1, .int .i64 3, .string ⟨#[]⟩, .slice none 0 0, .slice (some ⟨w.heap.size + 1 + 1 + 1, 0, none⟩) 1 1] 30 := by
  have := BoxAt.made ((((w.alloc (.cells #[.int .i64 1, .string ⟨#[97]⟩, .string ⟨#[]⟩, .int .i64 0, .slice none 0 0, .slice none 0 0] 58)).alloc (.cells #[.int .i64 1, .string ⟨#[98]⟩, .string ⟨#[]⟩, .int .i64 0, .slice none 0 0, .slice none 0 0] 58)).alloc (.cells #[.string ⟨#[120]⟩] 9)).alloc (.cells #[.int .i64 0, .string ⟨#[97]⟩, .string ⟨#[]⟩, .int .i64 0, .slice none 0 0, .slice (some ⟨w.heap.size + 1 + 1, 0, none⟩) 1 1] 58)) #[.int .i64 1, .string ⟨#[]⟩, .slice none 0 0, .slice (some ⟨w.heap.size, 0, none⟩) 1 1, .int .i64 2, .string ⟨#[98]⟩, .slice none 0 0, .slice (some ⟨w.heap.size + 1, 0, none⟩) 1 1, .int .i64 3, .string ⟨#[]⟩, .slice none 0 0, .slice (some ⟨w.heap.size + 1 + 1 + 1, 0, none⟩) 1 1] 30
  rw [World.size_alloc, World.size_alloc, World.size_alloc, World.size_alloc] at this
  exact this
theorem e7_later (w : World) : Later w (((((w.alloc (.cells #[.int .i64 1, .string ⟨#[97]⟩, .string ⟨#[]⟩, .int .i64 0, .slice none 0 0, .slice none 0 0] 58)).alloc (.cells #[.int .i64 1, .string ⟨#[98]⟩, .string ⟨#[]⟩, .int .i64 0, .slice none 0 0, .slice none 0 0] 58)).alloc (.cells #[.string ⟨#[120]⟩] 9)).alloc (.cells #[.int .i64 0, .string ⟨#[97]⟩, .string ⟨#[]⟩, .int .i64 0, .slice none 0 0, .slice (some ⟨w.heap.size + 1 + 1, 0, none⟩) 1 1] 58)).alloc (.cells #[.int .i64 1, .string ⟨#[]⟩, .slice none 0 0, .slice (some ⟨w.heap.size, 0, none⟩) 1 1, .int .i64 2, .string ⟨#[98]⟩, .slice none 0 0, .slice (some ⟨w.heap.size + 1, 0, none⟩) 1 1, .int .i64 3, .string ⟨#[]⟩, .slice none 0 0, .slice (some ⟨w.heap.size + 1 + 1 + 1, 0, none⟩) 1 1] 30)) := (((((Later.refl w).alloc _).alloc _).alloc _).alloc _).alloc _
section
variable {w0 w : World} {v : Value} {ys : List PaC} {p q : Pa}
theorem own_two (h : OwnNs 30 w0 w v ys) (hv : valsN ys = [p, q]) : ∃ b c, v = .slice (some ⟨b, 0, none⟩) 2 c /\ w.cell? ⟨b, 0, none⟩ = some (.int .i64 p.id) /\ w.cell? ⟨b, 4, none⟩ = some (.int .i64 q.id) := by
  match ys, hv with
  | [y1, y2], hv =>
    simp only [valsN, List.map_cons, List.map_nil, List.cons.injEq, and_true] at hv
    obtain ⟨rfl, rfl⟩ := hv
    obtain ⟨A, c, rfl, hc, hp⟩ := h.row
    obtain ⟨b, o, x, rfl, hz, _, k0, _⟩ := hp.get (j := 0) (by simp)
    obtain ⟨b', o', x', hA, hz', _, k1, _⟩ := hp.get (j := 1) (by simp)
    obtain ⟨rfl, _⟩ := h.at
    cases hA
    simp only [List.getElem?_cons_zero, List.getElem?_cons_succ, Option.some.injEq] at hz hz'
    subst hz hz'
    exact ⟨b, c, rfl, by simpa using k0, by simpa using k1⟩
theorem own_one (h : OwnNs 30 w0 w v ys) (hv : valsN ys = [p]) : ∃ b c, v = .slice (some ⟨b, 0, none⟩) 1 c /\ w.cell? ⟨b, 0, none⟩ = some (.int .i64 p.id) := by
  match ys, hv with
  | [y1], hv =>
    simp only [valsN, List.map_cons, List.map_nil, List.cons.injEq, and_true] at hv
    subst hv
    obtain ⟨A, c, rfl, hc, hp⟩ := h.row
    obtain ⟨b, o, x, rfl, hz, _, k0, _⟩ := hp.get (j := 0) (by simp)
    obtain ⟨rfl, _⟩ := h.at
    simp only [List.getElem?_cons_zero, Option.some.injEq] at hz
    subst hz
    exact ⟨b, c, rfl, by simpa using k0⟩
end

end Go.Proofs.YtlnjhimbgckdcaaGreat
