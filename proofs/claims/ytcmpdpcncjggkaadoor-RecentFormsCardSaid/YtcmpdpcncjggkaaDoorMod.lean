import Derived.Test.YtcmpdpcncjggkaaDoorLib
namespace Go.Proofs.YtcmpdpcncjggkaaDoor
open Go.RowKit

set_option maxHeartbeats 400000 in
theorem mod_any (v n : Int) (w : World) (hn : 0 < n) (hn2 : n < 2^62) (hi : I64 v):
    Calls Tryd.prog 19 #[.int .i64 v, .int .i64 n] w (Ret (.int .i64 (v % n)) w) := by
  obtain ⟨hv, hv2⟩ := hi
  have ht : v.tmod n = if 0 ≤ v then v % n else if v % n = 0 then 0 else v % n - n := by
    rw [Int.tmod_eq_emod]
    by_cases hh : 0 ≤ v
    · simp [hh]
    · by_cases hd : n ∣ v
      · have := Int.emod_eq_zero_of_dvd hd
        simp [hh, hd, this]
      · have : v % n ≠ 0 := fun e => hd (Int.dvd_of_emod_eq_zero e)
        simp [hh, hd, this]; omega
  have H := hid ht; clear ht
  have hm0 := Int.emod_nonneg v (show n ≠ 0 by omega)
  have hm1 := Int.emod_lt_of_pos v hn
  go_enter Tryd.func19, Tryd.ntmps19
  go_wp2
  all_goals (go_ret; refine ⟨ret_int ?_, rfl⟩; rename_i hh; rw [H.out] at hh ⊢; split at hh <;> (try split at hh) <;> simp_all [wrap64] <;> omega)

/-- the post: some number from 0 to k - 1 -/
def RetMod (k : Int) (w : World) (e : Ending) (w' : World) : Prop := ∃ r : Nat, e = .returned (.int .i64 r) ∧ (r : Int) < k ∧ w = w'

theorem mod_some (v n : Int) (w : World) (hn : 0 < n) (hn2 : n < 2^62) (hi : I64 v) : Calls Tryd.prog 19 #[.int .i64 v, .int .i64 n] w (RetMod n w) :=
  (mod_any v n w hn hn2 hi).mono fun e w' h => by
    obtain ⟨r, hr⟩ := Int.eq_ofNat_of_zero_le (Int.emod_nonneg v (show n ≠ 0 by omega))
    exact ⟨r, by rw [h.1, hr], by have := Int.emod_lt_of_pos v hn; omega, h.2⟩
end Go.Proofs.YtcmpdpcncjggkaaDoor
