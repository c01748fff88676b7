/- BoardRoutes, walked: the four places together. -/
import Derived.Test.YtjkihlpckgaggaaGreatMH9
namespace Go.Proofs.YtjkihlpckgaggaaGreat
open Go.RowKit
theorem w_BoardRoutes (w : World) (off : Int) (o0 : 0 ≤ off) (o1 : off < 18446744073709551616) (v : Int) (v0 : 0 ≤ v) (v1 : v < 18446744073709551616) (s : Int) (s0 : -9223372036854775808 ≤ s) (s1 : s ≤ 9223372036854775807) : Calls Tryz.prog 4 #[.int .u64 off, .int .u64 v, .int .i64 s] w fun e w' => e = .returned (.bool true) ∧ Below w.heap.size w w' := by
  rcases (show s % 4 = 0 ∨ s % 4 = 1 ∨ s % 4 = 2 ∨ s % 4 = 3 by omega) with h | h | h | h
  · exact w_BR0 w off o0 o1 v v0 v1 s s0 s1 h
  · exact w_BR1 w off o0 o1 v v0 v1 s s0 s1 h
  · exact w_BR2 w off o0 o1 v v0 v1 s s0 s1 h
  · exact w_BR3 w off o0 o1 v v0 v1 s s0 s1 h
end Go.Proofs.YtjkihlpckgaggaaGreat
