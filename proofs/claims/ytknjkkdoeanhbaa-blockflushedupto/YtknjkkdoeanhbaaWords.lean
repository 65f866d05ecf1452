/-
  What calls on rows of lines come to, in words: a row, a row and a flag, a bool; what comes in.
-/
import Derived.Test.YtknjkkdoeanhbaaBase
import Derived.Test.YtknjkkdoeanhbaaPlain
import Derived.Test.YtknjkkdoeanhbaaPlainCut
import Derived.Test.YtknjkkdoeanhbaaOwn
namespace Go.Proofs.Ytknjkkdoeanhbaa
open Go.RowKit

/-- A slice of the call's that reads as these lines. -/
def IsRow (ss : List ByteArray) (w : World) (e : Ending) (w' : World) : Prop :=
  ∃ A, e = .returned (.slice A ss.length ss.length) ∧ Row w A ss.length ss ∧ w = w'

/-- A row, and true. -/
def GivesRow2 (ss : List ByteArray) (w : World) (e : Ending) (w' : World) : Prop :=
  ∃ A c, e = .returned (.tuple #[.slice A ss.length c, .bool true]) ∧ ss.length ≤ c ∧ Row w' A ss.length ss ∧ Later w w'

theorem getD_piece {l : List ByteArray} {k j n : Nat} (h : j < n) : ((l.drop k).take n).getD j ByteArray.empty = l.getD (k + j) ByteArray.empty := by
  simp [List.getD, h, List.getElem?_drop]

/-- Nothing, and false, or the row, and true: as the lines stand there or not. -/
def Spl (l : List ByteArray) (k : Int) (m : Nat) (old with_ : List ByteArray) (w : World) (e : Ending) (w' : World) : Prop :=
  (standsB l k old = false ∧ e = .returned (.tuple #[.slice none 0 0, .bool false]) ∧ Later w w') ∨ (standsB l k old = true ∧ GivesRow2 (spliced l k.toNat m with_) w e w')

/-- A row of new memory. -/
def GivesRow (ss : List ByteArray) (w : World) (e : Ending) (w' : World) : Prop :=
  ∃ A c, e = .returned (.slice A ss.length c) ∧ ss.length ≤ c ∧ Row w' A ss.length ss ∧ Later w w'

theorem wrap64_small {x : Int} (h0 : -9223372036854775808 ≤ x) (h1 : x ≤ 9223372036854775807) : wrap64 x = x := by
  unfold wrap64; omega

/-- A bool; if it is true, p holds; the world is as it was. -/
def Tells (p : Prop) (w : World) (e : Ending) (w' : World) : Prop := ∃ b : Bool, e = .returned (.bool b) ∧ (b = true → p) ∧ w = w'

/-- What is asked of a row that comes in: it reads as these lines, and it is no greater than a machine's memory. -/
structure Came (w : World) (A : Option Addr) (n c : Nat) (ss : List ByteArray) : Prop where
  row : Row w A n ss
  room : n ≤ c
  most : n ≤ 140737488355328
  size : ∀ s ∈ ss, s.size ≤ 140737488355328

theorem Came.later {w w' : World} {A : Option Addr} {n c : Nat} {ss : List ByteArray} (h : Came w A n c ss) (hl : Later w w') : Came w' A n c ss := ⟨h.row.later hl, h.room, h.most, h.size⟩

/-- A bool; nothing old has turned. -/
def Says (b : Bool) (w : World) (e : Ending) (w' : World) : Prop := e = .returned (.bool b) ∧ Later w w'

/-- A struct of two rows, laid in memory: its cells stay. -/
theorem box_stays (w : World) (u v : Value) (t : TypeId) : ∀ W, Later (w.alloc (.cells #[u, v] t)) W → W.cell? ⟨w.heap.size, 0, none⟩ = some u ∧ W.cell? ⟨w.heap.size, 1, none⟩ = some v := fun W hW =>
  ⟨hW.cell (by simp), hW.cell (by simp)⟩

theorem drew_n (w : World) (n : Nat) : Drew w (w.drewN n) := ⟨n, rfl⟩

end Go.Proofs.Ytknjkkdoeanhbaa
