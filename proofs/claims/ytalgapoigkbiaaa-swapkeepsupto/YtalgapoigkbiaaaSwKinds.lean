/-
  Two arrays of two ints, compared.
-/
import Derived.Test.YtalgapoigkbiaaaChecked
import Derived.WalkKit
import Derived.Laws.StructEq
namespace Go.Proofs.Ytalgapoigkbiaaa
open Go.RowKit

theorem kinds_eqAt (n : Nat) (hin : ∀ (x y : Int) (w : World), (Op.equalIn n 3 (.int .i64 x) (.int .i64 y)).run Try.prog w = .ok (x == y) w) (a b c d : Int) (w : World) :
    (Op.equalIn (n + 1) 75 (.agg #[.int .i64 a, .int .i64 b]) (.agg #[.int .i64 c, .int .i64 d])).run Try.prog w = .ok (a == c && b == d) w := by
  have p1 : ∀ (x y : Int) (w : World), (part 3 #[.int .i64 x, .int .i64 y] 0).run Try.prog w = .ok (.int .i64 x) w := fun x y w => by
    simp [part, Try.isAgg3]
  have p2 : ∀ (x y : Int) (w : World), (part 3 #[.int .i64 x, .int .i64 y] 1).run Try.prog w = .ok (.int .i64 y) w := fun x y w => by
    simp [part, Try.isAgg3]
  simp only [Op.equalIn, Sem.run_bind, run_underlying Try.underlying75, Result.andThen_ok, Try.sizeOf3]
  simp only [Std.Legacy.Range.forIn_eq_forIn_range', Std.Legacy.Range.size, Nat.sub_zero, Nat.add_sub_cancel, Nat.div_one, List.range', List.forIn_cons, List.forIn_nil, Nat.zero_add, Nat.mul_one, Sem.run_bind, p1, hin, Result.andThen_ok]
  cases h1 : a == c
  · simp
  · cases h2 : b == d
    · simp only [beq_eq_false_iff_ne, ne_eq] at h2
      simp [p2, hin, h2]
    · simp only [beq_iff_eq] at h2
      simp [p2, hin, h2]

theorem kinds_eqIn (a b c d : Int) (w : World) : (Op.equalIn 10000 75 (.agg #[.int .i64 a, .int .i64 b]) (.agg #[.int .i64 c, .int .i64 d])).run Try.prog w = .ok (a == c && b == d) w :=
  kinds_eqAt 9999 (fun x y w => run_equalIn_int w 9998 3 .i64 .i64 x y Try.underlying3) a b c d w

theorem kinds_eq (a b c d : Int) (w : World) : (binOp .eql 75 (.agg #[.int .i64 a, .int .i64 b]) (.agg #[.int .i64 c, .int .i64 d])).run Try.prog w = .ok (.bool (a == c && b == d)) w := by
  rw [run_eql_struct, kinds_eqIn]; rfl

end Go.Proofs.Ytalgapoigkbiaaa
