import Derived.Test.YtgacmiobfopoeaaPartsLaw
import Derived.Test.YtgacmiobfopoeaaRefSums
namespace Go.Proofs.Ytgacmiobfopoeaa
open Go.RowKit

set_option maxHeartbeats 4000000 in
theorem sums_walk (a : Option Addr) (la ca : Nat) (l : List UInt8) (b : Option Addr) (lb cb : Nat) (m : List UInt8) (s o n : Nat) (w : World) (ha : IsB w a la ca l) (hb : IsB w b lb cb m) (hlen : la + lb ≤ 140737488355328) (hs : s < 65536) (ho : o < 65536) (hn : n < 65536) :
    Calls Try.prog 3 #[.slice a la ca, .slice b lb cb, .int .u16 (s : Int), .int .u16 (o : Int), .int .u16 (n : Int)] w (RetS (.bool true) w) := by
  have hl := hid ha.length
  have hm := hid hb.length
  go_enter Try.func3, Try.ntmps3
  go_wp2_with fail
  refine (known_any _).mono ?_
  rintro e w1 ⟨rfl, hB1⟩
  have ha1 := ha.below hB1
  have hb1 := hb.below hB1
  have hlt : l.length + m.length ≤ 140737488355328 := by rw [hl.out, hm.out]; exact hlen
  have F1 : Hid ([l].flatten = l) := hid (by simp)
  have F2 : Hid ([l, m].flatten = l ++ m) := hid (by simp)
  have F1l : Hid ([l].flatten.length ≤ 140737488355328) := hid (by rw [F1.out]; omega)
  have F2l : Hid ([l, m].flatten.length ≤ 140737488355328) := hid (by rw [F2.out, List.length_append]; exact hlt)
  clear ha hb hlt
  go_wp2_with fail
  refine (sum_any a la ca l _ ha1).mono ?_
  rintro e w2 ⟨rfl, hB2⟩
  have ha2 := ha1.below hB2
  have hb2 := hb1.below hB2
  have B2 := seq hB1 hB2
  clear ha1 hb1 hB1 hB2
  go_wp2_with fail
  refine (refSum_any a la ca l _ ha2).mono ?_
  rintro e w' ⟨rfl, rfl⟩
  go_wp2_with fail
  refine (internet_any _ 2 2 [l, m] _ (isBB_two ha2 hb2) (by have := F2l.out; omega)).mono ?_
  rintro e w' ⟨rfl, rfl⟩
  rw [F2.out]
  have ha3 := ha2.below (below_one (Below.refl w2.heap.size w2) (.cells #[.slice a la ca, .slice b lb cb] 22))
  have hb3 := hb2.below (below_one (Below.refl w2.heap.size w2) (.cells #[.slice a la ca, .slice b lb cb] 22))
  have B3 := below_one B2 (.cells #[.slice a la ca, .slice b lb cb] 22)
  clear ha2 hb2 B2
  go_wp2_with fail
  generalize hw3 : w2.alloc (.cells #[.slice a la ca, .slice b lb cb] 22) = w3
  rw [hw3] at ha3 hb3 B3
  have hz3 : w2.heap.size + 1 = w3.heap.size := by rw [← hw3, World.size_alloc]
  clear hw3
  rw [hz3]
  refine (refInternet_any _ 2 2 [l, m] _ (isBB_two ha3 hb3) F2l.out).mono ?_
  rintro e w4 ⟨rfl, hB4⟩
  rw [F2.out]
  have ha4 := (ha3.below (below_one (Below.refl w3.heap.size w3) (.cells #[.slice a la ca, .slice b lb cb] 22))).below hB4
  have B4 := seq (below_one B3 (.cells #[.slice a la ca, .slice b lb cb] 22)) hB4
  clear ha3 hb3 B3 hB4 hz3
  go_wp2_with fail
  refine (internet_any _ 1 1 [l] _ (isBB_one ha4) (by have := F1l.out; omega)).mono ?_
  rintro e w' ⟨rfl, rfl⟩
  rw [F1.out]
  have ha5 := ha4.below (below_one (Below.refl w4.heap.size w4) (.cells #[.slice a la ca] 22))
  have B5 := below_one B4 (.cells #[.slice a la ca] 22)
  clear ha4 B4
  go_wp2_with fail
  generalize hw5 : w4.alloc (.cells #[.slice a la ca] 22) = w5
  rw [hw5] at ha5 B5
  have hz5 : w4.heap.size + 1 = w5.heap.size := by rw [← hw5, World.size_alloc]
  clear hw5
  rw [hz5]
  refine (refInternet_any _ 1 1 [l] _ (isBB_one ha5) F1l.out).mono ?_
  rintro e w6 ⟨rfl, hB6⟩
  rw [F1.out]
  have B6 := seq (below_one B5 (.cells #[.slice a la ca] 22)) hB6
  clear ha5 B5 hB6 hz5
  go_wp2_with fail
  refine (update_any s o n _ hs ho hn).mono ?_
  rintro e w' ⟨rfl, rfl⟩
  go_wp2_with fail
  refine (refUpdate_any s o n _ hs ho hn).mono ?_
  rintro e w' ⟨rfl, rfl⟩
  go_wp2
  go_ret
  exact ⟨ret_bool (by simp), B6⟩
end Go.Proofs.Ytgacmiobfopoeaa
