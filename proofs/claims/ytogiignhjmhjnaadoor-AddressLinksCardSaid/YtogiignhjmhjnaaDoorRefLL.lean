/-
  The reference's address on the link.
-/
import Derived.Test.YtogiignhjmhjnaaDoorRefOf
namespace Go.Proofs.YtogiignhjmhjnaaDoor
open Go.RowKit

set_option maxHeartbeats 1600000 in
set_option maxRecDepth 100000 in
theorem rlink_local (m s e : Int) (w : World) (hs : 0 ≤ s) (hs2 : s < 65536) (he : 0 ≤ e) (he2 : e < 18446744073709551616) :
    Calls Tryd.prog 36 #[av m s e] w (RetS (.tuple #[iv (llA m s e), .bool (iidA m s e).2]) w) := by
  have hv := fun w => riid_any m s e w hs hs2
  obtain ⟨r1, r2⟩ := iid_range m s e hs hs2 he he2
  have hdef : llA m s e = if (iidA m s e).2 = true then beBytes llHalf 8 ++ beBytes (iidA m s e).1.toNat 8 else zeros 16 := rfl
  generalize iidA m s e = r at hv r1 r2 hdef ⊢
  obtain ⟨x, b⟩ := r
  dsimp only at hv r1 r2 hdef ⊢
  obtain ⟨x, rfl⟩ := Int.eq_ofNat_of_zero_le r1
  rw [Int.toNat_natCast] at hdef
  have HD := hid hdef
  clear hdef
  simp only [av] at hv ⊢
  go_enter Tryd.func36, Tryd.ntmps36
  go_wp2_with fail
  have hI := Ik.lit (w.alloc (.cells #[.int .i64 m, .int .u16 s, .int .u64 e] 53))
  rw [World.size_alloc] at hI
  have hB := two_below w (.cells #[.int .i64 m, .int .u16 s, .int .u64 e] 53) (.cells #[.int .u8 0, .int .u8 0, .int .u8 0, .int .u8 0, .int .u8 0, .int .u8 0, .int .u8 0, .int .u8 0, .int .u8 0, .int .u8 0, .int .u8 0, .int .u8 0, .int .u8 0, .int .u8 0, .int .u8 0, .int .u8 0] 23)
  generalize (w.alloc _).alloc _ = w2 at hI hB ⊢
  with_reducible refine (hv w2).mono ?_
  rintro e' w3 ⟨rfl, hb3⟩
  have hB3 := hB.trans (hb3.mono hB.size)
  have hI3 := hI.below hb3 hI.lt
  clear hv hb3 hI hB
  cases b
  · have h0 : llA m s e = zeros 16 := HD.out
    go_wp2_with (with_reducible refine wpList_store_ip0 (op := ⟨none, _, _, _, _, _⟩) rfl (.tmp 2) (.tmp 13) rfl rfl rfl hI3 (length_zeros 16) w.heap.size w hB3 (by omega) ?_; intro w7 hR7 hB7)
    exact bodyPost_ret (results_ip2 rfl rfl hR7.out (length_zeros 16)) rfl ⟨by rw [h0]; rfl, hB7⟩
  · have h0 : llA m s e = beBytes llHalf 8 ++ beBytes x 8 := HD.out
    have hl16 : (beBytes llHalf 8 ++ beBytes x 8).length = 16 := by rw [List.length_append, length_beBytes, length_beBytes]
    go_wp2_with fail
    have hw := of_any llHalf x (by decide) (by omega) w3
    rw [show ((llHalf : Nat) : Int) = 18338657682652659712 from rfl] at hw
    with_reducible refine hw.mono ?_
    rintro e' w4 ⟨rfl, hb4⟩
    have hB4 := hB3.trans (hb4.mono hB3.size)
    have hI4 := hI3.below hb4 hI3.lt
    go_wp2_with (with_reducible refine wpList_store_ip (op := ⟨none, _, _, _, _, _⟩) rfl (.tmp 2) (.tmp 15) rfl rfl rfl hI4 (length_zeros 16) hl16 w.heap.size w hB4 (by omega) ?_; intro w7 hR7 hB7)
    exact bodyPost_ret (results_ip2 rfl rfl hR7.out hl16) rfl ⟨by rw [h0]; rfl, hB7⟩
end Go.Proofs.YtogiignhjmhjnaaDoor
