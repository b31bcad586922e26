import Derived.Test.YtlpbelhfpoilpaaCGive0SameASameB
set_option linter.all false
namespace Go.Proofs.Ytlpbelhfpoilpaa
open Go.RowKit Go.Scout

/-- Two arrays of four numbers, the same: equal. -/
theorem eqArr4 (d : Nat) (a b c e : Int) (w : World) : (Op.equalIn (d + 2) 58 (.agg #[.int .i64 a, .int .i64 b, .int .i64 c, .int .i64 e]) (.agg #[.int .i64 a, .int .i64 b, .int .i64 c, .int .i64 e])).run Try.prog w = .ok true w := by
  have hu := Try.underlying58
  have hi := fun (x : Int) => run_equalIn_int (P := Try.prog) w d 3 .i64 .i64 x x Try.underlying3
  rw [Op.equalIn]
  simp only [Sem.run_bind, run_underlying hu, Result.andThen_ok]
  simp [go_sem, Std.Legacy.Range.forIn_eq_forIn_range', Std.Legacy.Range.size, List.range', hi]

end Go.Proofs.Ytlpbelhfpoilpaa

