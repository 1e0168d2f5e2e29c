import Derived.Test.YtgacmiobfopoeaaSumsLaw
namespace Go.Proofs.Ytgacmiobfopoeaa
open Go.RowKit

theorem sums_upto (a : Option Addr) (la ca : Nat) (l : List UInt8) (b : Option Addr) (lb cb : Nat) (m : List UInt8) (s o n : Int) (w : World) (ha : IsB w a la ca l) (_ : ca ≤ 140737488351232) (ka : la ≤ 1048576) (hb : IsB w b lb cb m) (_ : cb ≤ 140737488351232) (kb : lb ≤ 1048576)
    (hs : (Lit.int .u16 s).wf = true) (ho : (Lit.int .u16 o).wf = true) (hn : (Lit.int .u16 n).wf = true) :
    Calls Try.prog 3 #[.slice a la ca, .slice b lb cb, .int .u16 s, .int .u16 o, .int .u16 n] w (RetS (.bool true) w) := by
  have h1 := bounds_u16 hs
  have h2 := bounds_u16 ho
  have h3 := bounds_u16 hn
  obtain ⟨s, rfl⟩ := Int.eq_ofNat_of_zero_le (show 0 ≤ s by omega)
  obtain ⟨o, rfl⟩ := Int.eq_ofNat_of_zero_le (show 0 ≤ o by omega)
  obtain ⟨n, rfl⟩ := Int.eq_ofNat_of_zero_le (show 0 ≤ n by omega)
  exact sums_walk a la ca l b lb cb m s o n w ha hb (by omega) (by omega) (by omega) (by omega)
end Go.Proofs.Ytgacmiobfopoeaa
