/- Types of lists of integers. -/
import Derived.Test.YthjlhiigaccapaaRO
namespace Go.Proofs.Ythjlhiigaccapaa
theorem cells_int : Try.prog.cellsOf 3 = 1 := by kernel_rfl
theorem u_int : Try.prog.underlying 3 = some (.int .i64) := by kernel_rfl
theorem u_sint : Try.prog.underlying 54 = some (.slice 3) := by kernel_rfl
theorem cells_u64 : Try.prog.cellsOf 22 = 1 := by kernel_rfl
theorem u_u64 : Try.prog.underlying 22 = some (.int .u64) := by kernel_rfl
theorem u_su64 : Try.prog.underlying 61 = some (.slice 22) := by kernel_rfl
end Go.Proofs.Ythjlhiigaccapaa
