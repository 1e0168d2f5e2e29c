/-
  Solicited.
-/
import Derived.Test.YthammgljcchloaaDoorRefOf
import Derived.Test.YthammgljcchloaaDoorIpReg
namespace Go.Proofs.YthammgljcchloaaDoor
open Go.RowKit

def solH : List UInt8 := [255, 2, 0, 0, 0, 0, 0, 0, 0, 0, 0, 1, 255, 0, 0, 0]
/-- the address at which a node with the address l is asked for -/
def solV (l : List UInt8) : List UInt8 := splice solH 13 (l.drop 13)
theorem length_solV (l : List UInt8) (h : l.length = 16) : (solV l).length = 16 := by simp [solV, splice, solH, h]

set_option maxHeartbeats 3200000 in
set_option maxRecDepth 100000 in
theorem solic_any (l : List UInt8) (hl : l.length = 16) (w : World) :
    Calls Tryd.prog 36 #[iv l] w (RetS (iv (solV l)) w) := by
  have hI := Ik.new w l
  have hIz := Ik.lit (w.alloc (.cells (row l) 23))
  rw [World.size_alloc] at hIz
  have hB := two_below w (.cells (row l) 23) (.cells #[.int .u8 0, .int .u8 0, .int .u8 0, .int .u8 0, .int .u8 0, .int .u8 0, .int .u8 0, .int .u8 0, .int .u8 0, .int .u8 0, .int .u8 0, .int .u8 0, .int .u8 0, .int .u8 0, .int .u8 0, .int .u8 0] 23)
  have hI2 := hI.below ((Below.refl (w.heap.size + 1) _).alloc (by simp) (.cells #[.int .u8 0, .int .u8 0, .int .u8 0, .int .u8 0, .int .u8 0, .int .u8 0, .int .u8 0, .int .u8 0, .int .u8 0, .int .u8 0, .int .u8 0, .int .u8 0, .int .u8 0, .int .u8 0, .int .u8 0, .int .u8 0] 23)) (Nat.lt_succ_self _)
  rw [iv]
  go_enter Tryd.func36, Tryd.ntmps36
  go_wp2_with fail
  have hb3 := (Below.refl (w.heap.size + 1 + 1) ((w.alloc (.cells (row l) 23)).alloc (.cells #[.int .u8 0, .int .u8 0, .int .u8 0, .int .u8 0, .int .u8 0, .int .u8 0, .int .u8 0, .int .u8 0, .int .u8 0, .int .u8 0, .int .u8 0, .int .u8 0, .int .u8 0, .int .u8 0, .int .u8 0, .int .u8 0] 23))).alloc (by simp) (.cells #[.int .u8 255, .int .u8 2, .int .u8 0, .int .u8 0, .int .u8 0, .int .u8 0, .int .u8 0, .int .u8 0, .int .u8 0, .int .u8 0, .int .u8 0, .int .u8 1, .int .u8 255, .int .u8 0, .int .u8 0, .int .u8 0] 23)
  have hI3 := hI2.below hb3 (by omega)
  have hIz3 := hIz.below hb3 (by omega)
  have hT : Ik (((w.alloc (.cells (row l) 23)).alloc (.cells #[.int .u8 0, .int .u8 0, .int .u8 0, .int .u8 0, .int .u8 0, .int .u8 0, .int .u8 0, .int .u8 0, .int .u8 0, .int .u8 0, .int .u8 0, .int .u8 0, .int .u8 0, .int .u8 0, .int .u8 0, .int .u8 0] 23)).alloc (.cells #[.int .u8 255, .int .u8 2, .int .u8 0, .int .u8 0, .int .u8 0, .int .u8 0, .int .u8 0, .int .u8 0, .int .u8 0, .int .u8 0, .int .u8 0, .int .u8 1, .int .u8 255, .int .u8 0, .int .u8 0, .int .u8 0] 23)) (w.heap.size + 1 + 1) solH := by
    have h := heap_alloc_new ((w.alloc (.cells (row l) 23)).alloc (.cells #[.int .u8 0, .int .u8 0, .int .u8 0, .int .u8 0, .int .u8 0, .int .u8 0, .int .u8 0, .int .u8 0, .int .u8 0, .int .u8 0, .int .u8 0, .int .u8 0, .int .u8 0, .int .u8 0, .int .u8 0, .int .u8 0] 23)) (.cells #[.int .u8 255, .int .u8 2, .int .u8 0, .int .u8 0, .int .u8 0, .int .u8 0, .int .u8 0, .int .u8 0, .int .u8 0, .int .u8 0, .int .u8 0, .int .u8 1, .int .u8 255, .int .u8 0, .int .u8 0, .int .u8 0] 23)
    rw [World.size_alloc, World.size_alloc] at h
    exact h
  have hB3 := hB.alloc hB.size (.cells #[.int .u8 255, .int .u8 2, .int .u8 0, .int .u8 0, .int .u8 0, .int .u8 0, .int .u8 0, .int .u8 0, .int .u8 0, .int .u8 0, .int .u8 0, .int .u8 1, .int .u8 255, .int .u8 0, .int .u8 0, .int .u8 0] 23)
  clear hb3 hI hIz hB hI2
  generalize ((w.alloc _).alloc _).alloc _ = w3 at hI3 hIz3 hT hB3 ⊢
  have hsrc := hI3.drew.isB 13 3 3 (by omega) (by omega) (by omega) (by omega)
  rw [show (l.drop 13).take 3 = l.drop 13 from List.take_of_length_le (by simp; omega)] at hsrc
  refine wp_region_held_drew (S := fun w' => Below w.heap.size w w' ∧ Ik w' (w.heap.size + 1) (zeros 16)) (by kernel_rfl) (⟨below_drewN hB3 1, hIz3.drew⟩) (fun hHeld => ?_)
  refine wpAnyH_take (i := 0) (oi := ⟨some 6, _, _, _, _, _⟩) (v := ?_) rfl (by kernel_rfl) (by kernel_rfl) (by kernel_rfl) (fun _ _ _ h => h) (Or.inl ⟨by rfl, ?_⟩) hHeld ?_
  rotate_left
  · intro w hSw; go_simp; try with_reducible rfl
  try simp only [Act.put, List.setIfInBounds_toArray, List.set_cons_zero, List.set_cons_succ]
  refine wpAnyH_take (i := 1) (oi := ⟨some 7, _, _, _, _, _⟩) (v := ?_) rfl (by kernel_rfl) (by kernel_rfl) (by kernel_rfl) (fun _ _ _ h => h) (Or.inl ⟨by rfl, ?_⟩) hHeld ?_
  rotate_left
  · intro w hSw; go_simp; try with_reducible rfl
  try simp only [Act.put, List.setIfInBounds_toArray, List.set_cons_zero, List.set_cons_succ]
  refine wpAnyH_take (i := 2) (oi := ⟨some 8, _, _, _, _, _⟩) (v := ?_) rfl (by kernel_rfl) (by kernel_rfl) (by kernel_rfl) (fun _ _ _ h => h) (Or.inl ⟨by rfl, ?_⟩) hHeld ?_
  rotate_left
  · intro w hSw; go_simp; try with_reducible rfl
  try simp only [Act.put, List.setIfInBounds_toArray, List.set_cons_zero, List.set_cons_succ]
  refine wpAnyH_take (i := 3) (oi := ⟨some 9, _, _, _, _, _⟩) (v := ?_) rfl (by kernel_rfl) (by kernel_rfl) (by kernel_rfl) (fun _ _ _ h => h) (Or.inl ⟨by rfl, ?_⟩) hHeld ?_
  rotate_left
  · intro w hSw; go_simp; try with_reducible rfl
  try simp only [Act.put, List.setIfInBounds_toArray, List.set_cons_zero, List.set_cons_succ]
  refine wpAnyH_ready (rs := [4]) (by kernel_rfl) (by simp) ?_
  refine AllReadyH.cons (o := ⟨some 10, _, _, _, _, _⟩) rfl (fun K hK => ?_) AllReadyH.nil
  refine step_copy_ip rfl (.tmp 7) (.tmp 9) rfl (w.heap.size + 1 + 1) 13 3 3 (some ⟨w.heap.size, 13, none⟩) 3 3 (some ⟨w.heap.size + 1 + 1, 13, none⟩) rfl (fun _ => rfl) rfl solH (l.drop 13) hT.drew hsrc (by omega) (by decide) (w.heap.size + 1 + 1) w3.drew ((Below.refl w3.drew.heap.size w3.drew).mono (Nat.le_of_lt hT.drew.lt)) (Nat.le_refl _) ?_
  intro w5 hJ5 hb5
  have hS : Below w.heap.size w w5 ∧ Ik w5 (w.heap.size + 1) (zeros 16) := ⟨hHeld.1.trans (hb5.mono (by omega)), hHeld.2.below hb5 (by omega)⟩
  have hJ5 := hJ5.out
  clear hHeld
  refine hK.out _ _ (hS) (fun hHeld => ?_)
  clear hK K
  try simp only [Act.put, List.setIfInBounds_toArray, List.set_cons_zero, List.set_cons_succ]
  refine wpAnyH_done (by kernel_rfl) ?_ _
  have hJ5 := hJ5
  have hl5 := length_solV l hl
  have hsv : splice solH 13 (l.drop 13) = solV l := rfl
  rw [hsv] at hJ5
  generalize hV : solV l = V at hJ5 hl5 ⊢
  have HV := hid hV
  clear hV
  go_wp2_with (first
    | (with_reducible refine wpList_load_ip (op := ⟨some 11, _, _, _, _, _⟩) rfl (.tmp 3) rfl rfl hJ5 hl5 ?_)
    | (with_reducible refine wpList_store_ip (op := ⟨none, _, _, _, _, _⟩) rfl (.tmp 2) (.tmp 11) rfl rfl rfl hHeld.2 (length_zeros 16) hl5 w.heap.size w hHeld.1 (by omega) ?_; intro w7 hR7 hB7))
  exact bodyPost_ret (results_ip rfl rfl hR7.out hl5) rfl ⟨by rw [HV.out], hB7⟩
end Go.Proofs.YthammgljcchloaaDoor
