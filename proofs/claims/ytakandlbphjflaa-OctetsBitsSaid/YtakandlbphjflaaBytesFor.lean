import Derived.Test.YtakandlbphjflaaLib
namespace Go.Proofs.Ytakandlbphjflaa
open Go.RowKit

set_option maxHeartbeats 400000 in
theorem bytesFor_any (n : Int) (w : World) (h0 : 0 ≤ n) (h1 : n ≤ 9223372036854775807) :
    Calls Try.prog 31 #[.int .i64 n] w (Ret (.int .i64 ((n + 7) / 8)) w) := by
  go_enter Try.func31, Try.ntmps31
  go_wp2
  go_ret
  refine ⟨ret_int ?_, rfl⟩
  omega
end Go.Proofs.Ytakandlbphjflaa
