/-
  The references of Sum, Internet and Update.
-/
import Derived.Test.YtgacmiobfopoeaaSums
import Derived.Test.YtgacmiobfopoeaaGrow
namespace Go.Proofs.Ytgacmiobfopoeaa
open Go.RowKit

theorem bsum_two (l : List UInt8) (k : Nat) (hk : k + 1 < l.length) (he : k % 2 = 0) : bsum 0 (l.take (k + 2)) = bsum 0 (l.take k) + ((l.getD k 0).toNat * 256 + (l.getD (k + 1) 0).toNat) := by
  rw [bsum_take l 0 (k + 1) hk, bsum_take l 0 k (by omega), show (0 + k + 1) % 2 = 1 from by omega, show (0 + (k + 1) + 1) % 2 = 0 from by omega]
  omega

theorem bsum_last (l : List UInt8) (k : Nat) (hk : k + 1 = l.length) (he : k % 2 = 0) : bsum 0 (l.take (k + 2)) = bsum 0 (l.take k) + (l.getD k 0).toNat * 256 := by
  have e : l.take (k + 2) = l.take (k + 1) := by rw [List.take_of_length_le (by omega), List.take_of_length_le (by omega)]
  rw [e, bsum_take l 0 k (by omega), show (0 + k + 1) % 2 = 1 from by omega]

set_option maxHeartbeats 1000000 in
theorem refSum_any (a : Option Addr) (len cap : Nat) (l : List UInt8) (w : World) (hb : IsB w a len cap l) :
    Calls Try.prog 13 #[.slice a len cap] w (Ret (.int .u16 ((sumN l : Nat) : Int)) w) := by
  have hle := hb.le
  have hmax := hb.max
  have hl := hid hb.length
  go_enter Try.func13, Try.ntmps13
  go_wp2
  go_loop [3, 4] (fun s v => ∃ i : Nat, i ≤ len + 1 ∧ i % 2 = 0 ∧ v = .int .i64 (i : Int) ∧ s = .int .u16 ((foldN (bsum 0 (l.take i)) : Nat) : Int)) (fun _ v => len + 1 - (intOf v).toNat)
  case atStart => exact ⟨0, Nat.zero_le _, rfl, rfl, rfl⟩
  case round =>
    obtain ⟨i, hi, he, rfl, rfl⟩ := hrel
    have hf := foldN_le (bsum 0 (l.take i))
    by_cases hlt : i < len
    · obtain ⟨b, off, rfl, _, hc⟩ := hb.some (by omega)
      have c1 := hc i hlt
      have hx := (l.getD i 0).toNat_lt
      by_cases hlt2 : i + 1 < len
      · have c2 := hc (i + 1) hlt2
        have hS : Hid (foldN (foldN (bsum 0 (l.take i)) + ((l.getD i 0).toNat * 256 + (l.getD (i + 1) 0).toNat)) = foldN (bsum 0 (l.take (i + 2)))) := hid (by
          rw [foldN_add, bsum_two l i (by rw [hl.out]; exact hlt2) he])
        have hy := (l.getD (i + 1) 0).toNat_lt
        clear hc
        generalize foldN (bsum 0 (l.take i)) = s at *
        generalize l.getD i 0 = x at *
        generalize l.getD (i + 1) 0 = y at *
        go_wp2_with fail
        rw [show (s : Int) + (256 * (x.toNat : Int) + (y.toNat : Int)) = ((s + (x.toNat * 256 + y.toNat) : Nat) : Int) from by omega]
        refine (refFold_any _ _ (by omega)).mono ?_
        rintro e w' ⟨rfl, rfl⟩
        rw [hS.out]
        go_wp2
        go_round
        case rel => exact ⟨i + 2, by omega, by omega, by go_num, rfl⟩
        case measure => simp [intOf]; omega
      · have hS : Hid (foldN (foldN (bsum 0 (l.take i)) + (l.getD i 0).toNat * 256) = foldN (bsum 0 (l.take (i + 2)))) := hid (by
          rw [foldN_add, bsum_last l i (by rw [hl.out]; omega) he])
        clear hc
        generalize foldN (bsum 0 (l.take i)) = s at *
        generalize l.getD i 0 = x at *
        go_wp2_with fail
        rw [show (s : Int) + 256 * (x.toNat : Int) = ((s + x.toNat * 256 : Nat) : Int) from by omega]
        refine (refFold_any _ _ (by omega)).mono ?_
        rintro e w' ⟨rfl, rfl⟩
        rw [hS.out]
        go_wp2
        go_round
        case rel => exact ⟨i + 2, by omega, by omega, by go_num, rfl⟩
        case measure => simp [intOf]; omega
    · go_wp2
      go_ret
      refine ⟨ret_int ?_, rfl⟩
      rw [List.take_of_length_le (by rw [hl.out]; omega)]
      rfl

set_option maxHeartbeats 1000000 in
theorem refUpdate_any (s o n : Nat) (w : World) (hs : s < 65536) (ho : o < 65536) (hn : n < 65536) :
    Calls Try.prog 17 #[.int .u16 (s : Int), .int .u16 (o : Int), .int .u16 (n : Int)] w (Ret (.int .u16 ((updN s o n : Nat) : Int)) w) := by
  have hf := foldN_le ((65535 - s) + (65535 - o) + n)
  go_enter Try.func17, Try.ntmps17
  go_wp2_with fail
  rw [show (65535 - (s : Int) + (65535 - (o : Int)) + (n : Int)) = ((65535 - s + (65535 - o) + n : Nat) : Int) from by omega]
  refine (refFold_any ((65535 - s) + (65535 - o) + n) _ (by omega)).mono ?_
  rintro e w' ⟨rfl, rfl⟩
  go_wp2
  go_ret
  refine ⟨ret_int ?_, rfl⟩
  unfold updN; omega

set_option maxHeartbeats 1000000 in
theorem refInternet_any (a : Option Addr) (len cap : Nat) (L : List (List UInt8)) (w : World) (hb : IsBB w a len cap L) (hlen : L.flatten.length ≤ 140737488355328) :
    Calls Try.prog 15 #[.slice a len cap] w (RetS (.int .u16 ((65535 - sumN L.flatten : Nat) : Int)) w) := by
  have hle := hb.le
  have hmax := hb.max
  have hl := hid hb.length
  have hs := sumN_le L.flatten
  go_enter Try.func15, Try.ntmps15
  go_wp2
  go_loopw [3, 4] (fun v t wr => ∃ (i : Nat) (s : Value), s = v ∧ i ≤ len ∧ t = .int .i64 (i : Int) ∧ Gr wr w.heap.size s (L.take i).flatten ∧ Below w.heap.size w wr) (fun _ t _ => len - (intOf t).toNat)
  case atStart => exact ⟨0, _, rfl, Nat.zero_le _, rfl, by simpa using Gr.nil w _, Below.refl _ _⟩
  case round =>
    obtain ⟨i, s, rfl, hi, rfl, hG, hB⟩ := hrel
    by_cases hlt : i < len
    · have hbr := hb.below hB
      obtain ⟨b, off, rfl, hc⟩ := hbr.some (by omega)
      obtain ⟨pa, pl, pc, hc, hp⟩ := hc i hlt
      have hT : Hid ((L.take (i + 1)).flatten = (L.take i).flatten ++ L.getD i []) := hid (take_flat L i (by rw [hl.out]; exact hlt))
      have hT2 : Hid ((L.take i).flatten.length + pl ≤ 140737488355328) := hid (by
        have h1 : (L.take (i + 1)).flatten.length ≤ L.flatten.length := by
          have h2 := congrArg List.flatten (List.take_append_drop (i + 1) L)
          rw [List.flatten_append] at h2
          have h3 := congrArg List.length h2
          rw [List.length_append] at h3
          omega
        rw [hT.out, List.length_append, hp.length] at h1
        omega)
      generalize (L.take i).flatten = D at *
      generalize L.getD i [] = P at *
      go_wp2_with (with_reducible refine wpList_append_bytes (o := ⟨some 16, _, _, _, _, _⟩) rfl (.tmp 11) (.tmp 15) rfl s rfl pa pl pc rfl w.heap.size D P hG hp hT2.out w hB hB.size ?_; intro v' w2 hG2 hB2 _)
      go_roundw
      case rel => exact ⟨i + 1, _, rfl, by omega, by go_num, by rw [hT.out]; exact hG2.out, hB2⟩
      case measure => simp [intOf]; omega
    · obtain rfl : i = len := by omega
      rw [List.take_of_length_le (by rw [hl.out]; omega)] at hG
      generalize L.flatten = F at *
      obtain ⟨ga, gc, rfl, hJ⟩ := hG.isB (by omega)
      generalize F.length = n at *
      go_wp2_with fail
      refine (refSum_any _ _ _ F _ hJ).mono ?_
      rintro e w' ⟨rfl, rfl⟩
      go_wp2
      go_ret
      refine ⟨ret_int ?_, hB⟩
      omega
end Go.Proofs.Ytgacmiobfopoeaa
