import Derived.Test.YtakandlbphjflaaUint
import Derived.Test.YtakandlbphjflaaAppend
namespace Go.Proofs.Ytakandlbphjflaa
open Go.RowKit

set_option maxHeartbeats 1000000 in
theorem known_any (w : World) : Calls Try.prog 19 #[] w (RetS (.bool true) w) := by
  go_enter Try.func19, Try.ntmps19
  go_wp2_with fail
  have h1 := (own_one w 1).isB (by simp)
  refine (append_any (some ⟨w.heap.size, 0, none⟩) 1 1 [1] 515 2 2 _ h1 (by omega) ⟨by omega, by omega⟩ ⟨by omega, by omega⟩ (by omega)).mono ?_
  rintro e w1 ⟨g, rfl, hg, hO, hB⟩
  have h2 := hO.isB (by simp [beBytes])
  have hB1 : Below w.heap.size w w1 := ((Below.refl _ _).alloc (Nat.le_refl _) _).trans (hB.mono (by simp))
  clear hO hB h1
  go_wp2_with fail
  refine (uint_yes _ _ _ _ 1 2 _ h2 (by omega) (by omega) (by omega) (by simp [beBytes])).mono ?_
  rintro e w2 ⟨rfl, rfl⟩
  go_wp2
  go_ret
  exact ⟨ret_bool (by decide +kernel), hB1⟩
end Go.Proofs.Ytakandlbphjflaa
