/-
  RotateLeft64, the reference's rot.
-/
import Derived.Test.YtjlogmbgapnceaaWord
namespace Go.Proofs.Ytjlogmbgapnceaa
open Go.RowKit

set_option maxHeartbeats 400000 in
theorem rotate_any (x : UInt64) (k : Nat) (w : World) (hk : k ≤ 63) :
    Calls Try.prog 33 #[.int .u64 (x.toNat : Int), .int .i64 (k : Int)] w (Ret (.int .u64 ((rotl x k).toNat : Int)) w) := by
  have e1 : bits .and .u64 (k : Int) 63 = (k : Int) := by
    have := bits_and_u64_nat k 63 (by omega) (by decide)
    rw [show (63 : Nat) = 2 ^ 6 - 1 from rfl, Nat.and_two_pow_sub_one_eq_mod, Nat.mod_eq_of_lt (by omega)] at this
    exact this
  have e2 : IntKind.u64.wrap (k : Int) = (k : Int) := by rw [IntKind.wrap_u64]; omega
  have e3 : IntKind.u64.wrap (64 - (k : Int)) = ((64 - k : Nat) : Int) := by rw [IntKind.wrap_u64]; omega
  have H := hid (rotl_val x k (by omega))
  go_enter Try.func33, Try.ntmps33
  go_wp2
  go_ret; exact ⟨ret_int H.out, rfl⟩

set_option maxHeartbeats 400000 in
theorem rot_any (x : UInt64) (k : Nat) (w : World) (hk : k ≤ 63) :
    Calls Try.prog 32 #[.int .u64 (x.toNat : Int), .int .u64 (k : Int)] w (Ret (.int .u64 ((rotl x k).toNat : Int)) w) := by
  have e3 : IntKind.u64.wrap (64 - (k : Int)) = ((64 - k : Nat) : Int) := by rw [IntKind.wrap_u64]; omega
  have H := hid (rotl_val x k (by omega))
  go_enter Try.func32, Try.ntmps32
  go_wp2
  go_ret; exact ⟨ret_int H.out, rfl⟩
end Go.Proofs.Ytjlogmbgapnceaa
