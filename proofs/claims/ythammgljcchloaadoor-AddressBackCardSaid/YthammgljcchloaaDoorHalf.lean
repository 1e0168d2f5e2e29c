/-
  Split, whole: an address and its two halves.
-/
import Derived.Test.YthammgljcchloaaDoorUint
import Derived.Test.YthammgljcchloaaDoorAppend
import Derived.Test.YthammgljcchloaaDoorIpMore
import Derived.Test.YthammgljcchloaaDoorIpReg
import Derived.StillTailTactics
import Derived.RegionTactic
import Derived.Deep.RegionLaw
import Derived.Deep.RegionHeld3
namespace Go.Proofs.YthammgljcchloaaDoor
open Go.RowKit

theorem u64_nat (n : Nat) (h : n < 18446744073709551616) : U64 (n : Int) := by unfold U64; omega
theorem i64_eight : I64 8 := by unfold I64; omega
def hiOf (l : List UInt8) : Nat := uintOf (l.take 8)
def loOf (l : List UInt8) : Nat := uintOf (l.drop 8)
theorem uint8_lt (l : List UInt8) (h : l.length ≤ 8) : uintOf l < 18446744073709551616 := by
  have h1 := uintOf_lt l
  have h2 : (256 : Nat) ^ l.length ≤ 256 ^ 8 := Nat.pow_le_pow_right (by decide) h
  omega

set_option maxHeartbeats 1600000 in
set_option maxRecDepth 100000 in
theorem split_any (l : List UInt8) (hz : l.length = 16) (w : World) :
    Calls Tryd.prog 28 #[iv l] w (RetS (.tuple #[.int .u64 (hiOf l), .int .u64 (loOf l)]) w) := by
  have hI := Ik.new w l
  have hB := (Below.refl w.heap.size w).alloc (Nat.le_refl _) (.cells (row l) 23)
  rw [iv]
  go_enter Tryd.func28, Tryd.ntmps28
  go_wp2_with fail
  generalize w.alloc (.cells (row l) 23) = w1 at hI hB ⊢
  have hb := hI.isB 0 16 16 (by omega) (by omega) (by omega) (by omega)
  rw [List.drop_zero, List.take_of_length_le (by omega)] at hb
  with_reducible refine (uint_yes _ 16 16 l 0 8 w1 hb (by omega) (by omega) (by omega) (by omega)).mono ?_
  rintro e w1 ⟨rfl, rfl⟩
  go_wp2_with fail
  with_reducible refine (uint_yes _ 16 16 l 8 8 w1 hb (by omega) (by omega) (by omega) (by omega)).mono ?_
  rintro e w1 ⟨rfl, rfl⟩
  go_wp2
  go_ret2
  refine ⟨?_, hB⟩
  have e1 : (l.drop 8).take 8 = l.drop 8 := List.take_of_length_le (by simp; omega)
  rw [e1]
  rfl

theorem Ik.drew {w : World} {g : Nat} {l : List UInt8} (h : Ik w g l) : Ik w.drew g l := h
theorem splice_16 (l : List UInt8) (h : l.length = 16) : splice (zeros 16) 0 l = l := by simp [splice, h, zeros]

set_option maxHeartbeats 4000000 in
set_option maxRecDepth 100000 in
theorem whole_any (h l : Nat) (hh : h < 18446744073709551616) (hl : l < 18446744073709551616) (w : World) :
    Calls Tryd.prog 54 #[.int .u64 h, .int .u64 l] w (RetS (iv (beBytes h 8 ++ beBytes l 8)) w) := by
  have hI2 := (Ik.lit w).below ((Below.refl (w.heap.size + 1) _).alloc (by simp) (.cells #[.int .u8 0, .int .u8 0, .int .u8 0, .int .u8 0, .int .u8 0, .int .u8 0, .int .u8 0, .int .u8 0, .int .u8 0, .int .u8 0, .int .u8 0, .int .u8 0, .int .u8 0, .int .u8 0, .int .u8 0, .int .u8 0] 23)) (Nat.lt_succ_self _)
  have hJ2 := Ik.lit (w.alloc (.cells #[.int .u8 0, .int .u8 0, .int .u8 0, .int .u8 0, .int .u8 0, .int .u8 0, .int .u8 0, .int .u8 0, .int .u8 0, .int .u8 0, .int .u8 0, .int .u8 0, .int .u8 0, .int .u8 0, .int .u8 0, .int .u8 0] 23))
  rw [World.size_alloc] at hJ2
  have hB2 := two_below w (.cells #[.int .u8 0, .int .u8 0, .int .u8 0, .int .u8 0, .int .u8 0, .int .u8 0, .int .u8 0, .int .u8 0, .int .u8 0, .int .u8 0, .int .u8 0, .int .u8 0, .int .u8 0, .int .u8 0, .int .u8 0, .int .u8 0] 23) (.cells #[.int .u8 0, .int .u8 0, .int .u8 0, .int .u8 0, .int .u8 0, .int .u8 0, .int .u8 0, .int .u8 0, .int .u8 0, .int .u8 0, .int .u8 0, .int .u8 0, .int .u8 0, .int .u8 0, .int .u8 0, .int .u8 0] 23)
  go_enter Tryd.func54, Tryd.ntmps54
  go_wp2_with fail
  generalize (w.alloc _).alloc _ = w2 at hI2 hJ2 hB2 ⊢
  refine wp_region_held_drew (S := fun w' => Below w.heap.size w w' ∧ Ik w' w.heap.size (zeros 16)) (by kernel_rfl) (⟨below_drewN hB2 1, hI2⟩) (fun hHeld => ?_)
  refine wpAnyH_take (i := 0) (oi := ⟨some 6, _, _, _, _, _⟩) (v := ?_) rfl (by kernel_rfl) (by kernel_rfl) (by kernel_rfl) (fun _ _ _ h => h) (Or.inl ⟨by rfl, ?_⟩) hHeld ?_
  rotate_left
  · intro w hSw; go_simp; try with_reducible rfl
  try simp only [Act.put, List.setIfInBounds_toArray, List.set_cons_zero, List.set_cons_succ]
  refine wpAnyH_take (i := 1) (oi := ⟨some 7, _, _, _, _, _⟩) (v := ?_) rfl (by kernel_rfl) (by kernel_rfl) (by kernel_rfl) (fun _ _ _ h => h) (Or.inl ⟨by rfl, ?_⟩) hHeld ?_
  rotate_left
  · intro w hSw; go_simp; try with_reducible rfl
  try simp only [Act.put, List.setIfInBounds_toArray, List.set_cons_zero, List.set_cons_succ]
  refine wpAnyH_take (i := 3) (oi := ⟨some 9, _, _, _, _, _⟩) (v := ?_) rfl (by kernel_rfl) (by kernel_rfl) (by kernel_rfl) (fun _ _ _ h => h) (Or.inl ⟨by rfl, ?_⟩) hHeld ?_
  rotate_left
  · intro w hSw; go_simp; try with_reducible rfl
  try simp only [Act.put, List.setIfInBounds_toArray, List.set_cons_zero, List.set_cons_succ]
  refine wpAnyH_ready (rs := [2]) (by kernel_rfl) (by simp) ?_
  refine AllReadyH.cons (o := ⟨some 8, _, _, _, _, _⟩) rfl (fun K hK => ?_) AllReadyH.nil
  go_simp
  have hA := hHeld
  have hJA := hJ2.drew
  with_reducible refine (append_any none 0 0 [] h 8 8 _ ⟨rfl, by omega, by omega, by omega, by simp, by simp⟩ (by omega) (u64_nat h hh) i64_eight (Or.inl ⟨by omega, by omega, rfl⟩)).mono ?_
  rintro e w3 ⟨g3, rfl, hg3, hO3, hb3⟩
  have hB3 := hA.1.trans (hb3.mono hA.1.size)
  have hI3 := hA.2.below hb3 hA.2.lt
  have hJ3 := hJA.below hb3 hJA.lt
  have hb8 := hO3.isB (by rw [List.nil_append, length_beBytes]; omega)
  rw [List.nil_append, length_beBytes, Int.toNat_natCast] at hb8
  simp only [List.nil_append, length_beBytes]
  go_wp2_with fail
  clear hHeld
  refine hK.out _ _ (⟨hB3, hI3⟩) (fun hHeld => ?_)
  clear hK K
  try simp only [Act.put, List.setIfInBounds_toArray, List.set_cons_zero, List.set_cons_succ]
  refine wpAnyH_ready (rs := [4]) (by kernel_rfl) (by simp) ?_
  refine AllReadyH.cons (o := ⟨some 10, _, _, _, _, _⟩) rfl (fun K hK => ?_) AllReadyH.nil
  go_simp
  with_reducible refine (append_any (some ⟨g3, 0, none⟩) 8 8 (beBytes h 8) l 8 8 w3 hb8 (by omega) (u64_nat l hl) i64_eight (Or.inl ⟨by omega, by omega, rfl⟩)).mono ?_
  rintro e w4 ⟨g4, rfl, hg4, hO4, hb4⟩
  have hB4 := hB3.trans (hb4.mono hB3.size)
  have hI4 := hI3.below hb4 hI3.lt
  have hJ4 := hJ3.below hb4 hJ3.lt
  have hl16 : (beBytes h 8 ++ beBytes l 8).length = 16 := by rw [List.length_append, length_beBytes, length_beBytes]
  have hb16 := hO4.isB (by simp only [Int.toNat_natCast]; omega)
  simp only [Int.toNat_natCast, hl16] at hb16
  simp only [List.length_append, length_beBytes, Nat.reduceAdd]
  go_wp2_with fail
  clear hHeld
  refine hK.out _ _ (⟨hB4, hI4⟩) (fun hHeld => ?_)
  clear hK K
  try simp only [Act.put, List.setIfInBounds_toArray, List.set_cons_zero, List.set_cons_succ]
  refine wpAnyH_ready (rs := [5]) (by kernel_rfl) (by simp) ?_
  refine AllReadyH.cons (o := ⟨some 11, _, _, _, _, _⟩) rfl (fun K hK => ?_) AllReadyH.nil
  refine step_copy_ip rfl (.tmp 6) (.tmp 10) rfl (w.heap.size + 1) 0 16 16 (some ⟨g4, 0, none⟩) 16 16 (some ⟨w.heap.size + 1, 0, none⟩) rfl (fun _ => rfl) rfl (zeros 16) (beBytes h 8 ++ beBytes l 8) hJ4 hb16 (by omega) (by rw [length_zeros]; omega) (w.heap.size + 1) w4 (Below.refl _ _) (Nat.le_refl _) ?_
  intro w5 hJ5 hb5
  have hB5 := hB4.trans (hb5.mono (by omega))
  have hI5 := hI4.below hb5 (by omega)
  have hJ5 := hJ5.out
  clear hHeld
  refine hK.out _ _ (⟨hB5, hI5⟩) (fun hHeld => ?_)
  clear hK K
  try simp only [Act.put, List.setIfInBounds_toArray, List.set_cons_zero, List.set_cons_succ]
  refine wpAnyH_done (by kernel_rfl) ?_ _
  have hsp : splice (zeros 16) 0 (beBytes h 8 ++ beBytes l 8) = beBytes h 8 ++ beBytes l 8 := splice_16 _ hl16
  rw [hsp] at hJ5
  go_wp2_with (first
    | (with_reducible refine wpList_load_ip (op := ⟨some 12, _, _, _, _, _⟩) rfl (.tmp 5) rfl rfl hJ5 hl16 ?_)
    | (with_reducible refine wpList_store_ip (op := ⟨none, _, _, _, _, _⟩) rfl (.tmp 4) (.tmp 12) rfl rfl rfl hI5 (length_zeros 16) hl16 w.heap.size w hB5 (Nat.le_refl _) ?_; intro w7 hR7 hB7))
  exact bodyPost_ret (results_ip rfl rfl hR7.out hl16) rfl ⟨rfl, hB7⟩
end Go.Proofs.YthammgljcchloaaDoor
