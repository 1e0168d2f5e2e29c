/-
  without.
-/
import Derived.Test.YtcmpdpcncjggkaaDoorRec7
namespace Go.Proofs.YtcmpdpcncjggkaaDoor
open Go.RowKit
set_option linter.unusedSimpArgs false
set_option linter.unusedVariables false

theorem slice_fullE {w : World} {b off len cap : Nat} {l : List Ent} (h : IsE w (some ⟨b, off, none⟩) len cap l) (k : Nat) (hk : k ≤ len) :
    (∀ W, (Instr.slice 22 (.slice (some ⟨b, off, none⟩) len cap) none (some (.int .i64 (k : Int))) (some (.int .i64 (k : Int)))).run Tryd.prog W = .ok (.slice (some ⟨b, off, none⟩) k k) W) ∧ IsE w (some ⟨b, off, none⟩) k k (l.take k) := by
  have hle := h.le
  refine ⟨fun W => ?_, (h.take k hk).cap k (Nat.le_refl _) (by omega)⟩
  rw [run_slice_hm (P := Tryd.prog) (w := W) 22 (some ⟨b, off, none⟩) len cap (by kernel_rfl) .i64 .i64 (k : Int) (k : Int) (by omega) (by omega) (by omega), run_size_ents]
  simp [Result.andThen, sliced, Addr.add]

set_option maxHeartbeats 4000000 in
set_option maxRecDepth 100000 in
theorem without_any (b off len cap k : Nat) (l : List Ent) (w : World) (hI : IsE w (some ⟨b, off, none⟩) len cap l) (hk : k < len) (hmax : len ≤ 1000000) :
    Calls Tryd.prog 29 #[.slice (some ⟨b, off, none⟩) len cap, .int .i64 k] w (fun e w' => ∃ v, e = .returned v ∧ OneE w' w.heap.size v (l.take k ++ l.drop (k + 1)) ∧ Below w.heap.size w w') := by
  have hle := hI.le
  obtain ⟨hs1, hI1⟩ := slice_fullE hI k (by omega)
  obtain ⟨p, hs2, hI2, hp⟩ := slice_tailE hI (k + 1) (by omega)
  have hpp : ∃ ad, p = some ad := by
    rw [hp]; split
    · exact ⟨_, rfl⟩
    · exact ⟨_, rfl⟩
  obtain ⟨ad, rfl⟩ := hpp
  have hp : (if cap = k + 1 then some (⟨b, off, none⟩ : Addr) else some ⟨b, off + (k + 1) * 5, none⟩) = some ad := by
    rw [hp]; split
    · rfl
    · simp [Addr.add_mid]
  have hw : IntKind.i64.wrap ((k : Int) + 1) = (k : Int) + 1 := by simp [IntKind.wrap, IntKind.bits, IntKind.signed]; omega
  have HP := hid hp
  have h0k : (0 : Int) ≤ (k : Int) + 1 := by omega
  have h1k : (k : Int) + 1 ≤ (len : Int) := by omega
  have htk : ((k : Int) + 1).toNat = k + 1 := by omega
  have HW := hid hw
  clear hs2 hp hw
  go_enter Tryd.func29, Tryd.ntmps29
  go_wp2_with fail
  refine wp_region_held_drew (S := fun w' => Below w.heap.size w w') (by kernel_rfl) (below_drewN (Below.refl _ _) 1) (fun hHeld => ?_)
  refine wpAnyH_take (i := 0) (oi := ⟨some 5, _, _, _, _, _⟩) (v := ?_) rfl (by kernel_rfl) (by kernel_rfl) (by kernel_rfl) (fun _ _ _ h => h) (Or.inl ⟨by rfl, ?_⟩) hHeld ?_
  rotate_left
  · intro w hSw; go_simp; try with_reducible rfl
  try simp only [Act.put, List.setIfInBounds_toArray, List.set_cons_zero, List.set_cons_succ]
  refine wpAnyH_take (i := 1) (oi := ⟨some 6, _, _, _, _, _⟩) (v := ?_) rfl (by kernel_rfl) (by kernel_rfl) (by kernel_rfl) (fun _ _ _ h => h) (Or.inl ⟨by rfl, ?_⟩) hHeld ?_
  rotate_left
  · intro w hSw; go_simp; try with_reducible rfl
  try simp only [Act.put, List.setIfInBounds_toArray, List.set_cons_zero, List.set_cons_succ]
  refine wpAnyH_take (i := 2) (oi := ⟨some 7, _, _, _, _, _⟩) (v := ?_) rfl (by kernel_rfl) (by kernel_rfl) (by kernel_rfl) (fun _ _ _ h => h) (Or.inl ⟨by rfl, ?_⟩) hHeld ?_
  rotate_left
  · intro w hSw; go_simp; try with_reducible rfl
  try simp only [Act.put, List.setIfInBounds_toArray, List.set_cons_zero, List.set_cons_succ]
  refine wpAnyH_take (i := 3) (oi := ⟨some 8, _, _, _, _, _⟩) (v := ?_) rfl (by kernel_rfl) (by kernel_rfl) (by kernel_rfl) (fun _ _ _ h => h) (Or.inl ⟨by rfl, ?_⟩) hHeld ?_
  rotate_left
  · intro w hSw; go_simp; try with_reducible rfl
  try simp only [Act.put, List.setIfInBounds_toArray, List.set_cons_zero, List.set_cons_succ]
  refine wpAnyH_take (i := 4) (oi := ⟨some 9, _, _, _, _, _⟩) (v := ?_) rfl (by kernel_rfl) (by kernel_rfl) (by kernel_rfl) (fun _ _ _ h => h) (Or.inl ⟨by rfl, ?_⟩) hHeld ?_
  rotate_left
  · intro w hSw; go_simp; try with_reducible rfl
  try simp only [Act.put, List.setIfInBounds_toArray, List.set_cons_zero, List.set_cons_succ]
  refine wpAnyH_take (i := 5) (oi := ⟨some 10, _, _, _, _, _⟩) (v := ?_) rfl (by kernel_rfl) (by kernel_rfl) (by kernel_rfl) (fun _ _ _ h => h) (Or.inl ⟨by rfl, ?_⟩) hHeld ?_
  rotate_left
  · intro w hSw; go_simp; try with_reducible rfl
  try simp only [Act.put, List.setIfInBounds_toArray, List.set_cons_zero, List.set_cons_succ]
  refine wpAnyH_take (i := 6) (oi := ⟨some 11, _, _, _, _, _⟩) (v := .int .i64 ((k : Int) + 1)) rfl (by kernel_rfl) (by kernel_rfl) (by kernel_rfl) (fun _ _ _ h => h) (Or.inl ⟨by rfl, ?_⟩) hHeld ?_
  · intro w hSw; go_simp; rw [HW.out]
  try simp only [Act.put, List.setIfInBounds_toArray, List.set_cons_zero, List.set_cons_succ]
  refine wpAnyH_take (i := 7) (oi := ⟨some 12, _, _, _, _, _⟩) (v := .slice (some ad) (len - (k + 1)) (cap - (k + 1))) rfl (by kernel_rfl) (by kernel_rfl) (by kernel_rfl) (fun _ _ _ h => h) (Or.inl ⟨by rfl, ?_⟩) hHeld ?_
  · intro w hSw; go_simp
  try simp only [Act.put, List.setIfInBounds_toArray, List.set_cons_zero, List.set_cons_succ]
  refine wpAnyH_ready (rs := [8]) (by kernel_rfl) (by simp) ?_
  refine AllReadyH.cons (o := ⟨some 13, _, _, _, _, _⟩) rfl (fun K hK => ?_) AllReadyH.nil
  refine step_append_full rfl (.tmp 8) (.tmp 12) rfl b off k ?_ ad (len - (k + 1)) (cap - (k + 1)) ?_ w.heap.size (l.take k) (l.drop (k + 1)) (hI1.below hHeld) (hI2.below hHeld) (by omega) w hHeld hHeld.size ?_
  · exact rfl
  · exact rfl
  intro v9 w9 hO9 hB9
  clear hHeld
  refine hK.out _ _ (hB9) (fun hHeld => ?_)
  clear hK K
  try simp only [Act.put, List.setIfInBounds_toArray, List.set_cons_zero, List.set_cons_succ]
  refine wpAnyH_take (i := 9) (oi := ⟨some 4, _, _, _, _, _⟩) (v := ?_) rfl (by kernel_rfl) (by kernel_rfl) (by kernel_rfl) (fun _ _ _ h => h) (Or.inl ⟨by rfl, ?_⟩) hHeld ?_
  rotate_left
  · intro w hSw; go_simp; try with_reducible rfl
  try simp only [Act.put, List.setIfInBounds_toArray, List.set_cons_zero, List.set_cons_succ]
  refine wpAnyH_done (by kernel_rfl) ?_ _
  go_wp2_with fail
  go_ret
  exact ⟨_, rfl, hO9.out, hB9⟩
end Go.Proofs.YtcmpdpcncjggkaaDoor
