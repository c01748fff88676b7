/- PageEntries: an offset. -/
import Derived.Test.YtfoafgbhelgjcaaCPEM
namespace Go.Proofs.Ytfoafgbhelgjcaa.C
open Go.RowKit
theorem off_wrap (pl : Nat) (h : pl < 1024) : IntKind.u64.wrap (IntKind.i64.wrap (24576 + IntKind.i64.wrap (8 * (pl : Int)))) = ((24576 + 8 * pl : Nat) : Int) := by
  rw [IntKind.wrap_i64, IntKind.wrap_i64, IntKind.wrap_u64]
  omega
theorem off_wrap2 (pl of : Nat) (h : pl < 1024) (ho : of = 24576 + 8 * pl) : IntKind.u64.wrap (IntKind.i64.wrap (24576 + IntKind.i64.wrap (8 * (pl : Int)))) = (of : Int) := by rw [off_wrap pl h, ho]
end Go.Proofs.Ytfoafgbhelgjcaa.C
