/-
  Contains and ValidPrefix.
-/
import Derived.Test.YthammgljcchloaaDoorMask
import Derived.Test.YthammgljcchloaaDoorIpReg
import Derived.Test.YthammgljcchloaaDoorIpMore
namespace Go.Proofs.YthammgljcchloaaDoor
open Go.RowKit
set_option linter.unusedSimpArgs false
set_option linter.unusedVariables false

/-- the prefix l, n contains the address m -/
def conP (l : List UInt8) (n : Int) (m : List UInt8) : Bool := l == mL m (clamp n) && n == (clamp n : Int)
theorem Ry.lt {w : World} {g : Nat} {l : List UInt8} (h : Ry w g l) (hl : l.length = 16) : g < w.heap.size := by
  have h0 : w.cell? ⟨g, 0 + 0, none⟩ = some (bv (l.getD 0 0)) := h 0 _ (by cases l with | nil => simp at hl | cons x r => rfl)
  simp only [World.cell?] at h0
  split at h0
  · rename_i hh; exact (Array.getElem?_eq_some_iff.1 hh).1
  · cases h0
theorem Ry.drew {w : World} {g : Nat} {l : List UInt8} (h : Ry w g l) : Ry w.drew g l := h

set_option maxHeartbeats 3200000 in
set_option maxRecDepth 100000 in
theorem contains_any (l m : List UInt8) (hl : l.length = 16) (hm : m.length = 16) (n : Int) (hn : I64 n) (w : World) :
    Calls Tryd.prog 23 #[pv l n, iv m] w (RetS (.bool (conP l n m)) w) := by
  have hP : Pr ((w.alloc (.cells (pl l n).toArray 35)).alloc (.cells (row m) 23)) w.heap.size l n := (Pk.new w l n).pr.below ((Below.refl (w.heap.size + 1) _).alloc (by simp) _) (Nat.lt_succ_self _)
  have hR : Ry ((w.alloc (.cells (pl l n).toArray 35)).alloc (.cells (row m) 23)) (w.heap.size + 1) m := by
    have := (Ik.new (w.alloc (.cells (pl l n).toArray 35)) m).ry
    rwa [World.size_alloc] at this
  have hB := two_below w (.cells (pl l n).toArray 35) (.cells (row m) 23)
  rw [show pv l n = .agg (pl l n).toArray from rfl, show iv m = .agg (row m) from rfl]
  go_enter Tryd.func23, Tryd.ntmps23
  go_wp2_with fail
  generalize (w.alloc _).alloc _ = w2 at hP hR hB ⊢
  refine wp_region_held_drew (S := fun w' => Below w.heap.size w w' ∧ Pr w' w.heap.size l n ∧ Ry w' (w.heap.size + 1) m) (by kernel_rfl) (⟨below_drewN hB 1, hP.drew, hR.drew⟩) (fun hHeld => ?_)
  refine wpAnyH_pfx (g := w.heap.size) (l := l) (n := n) (i := 0) (oi := ⟨some 5, _, _, _, _, _⟩) rfl (by kernel_rfl) (by kernel_rfl) (by kernel_rfl) (fun _ _ _ h => h) (by rfl) (.tmp 2) rfl rfl hl (fun _ h => h.2.1) hHeld ?_
  try simp only [Act.put, List.setIfInBounds_toArray, List.set_cons_zero, List.set_cons_succ]
  refine wpAnyH_ip (g := w.heap.size + 1) (l := m) (i := 1) (oi := ⟨some 6, _, _, _, _, _⟩) rfl (by kernel_rfl) (by kernel_rfl) (by kernel_rfl) (fun _ _ _ h => h) (by rfl) (.tmp 3) rfl rfl hm (fun _ h => h.2.2) hHeld ?_
  try simp only [Act.put, List.setIfInBounds_toArray, List.set_cons_zero, List.set_cons_succ]
  refine wpAnyH_take (i := 2) (oi := ⟨some 7, _, _, _, _, _⟩) (v := ?_) rfl (by kernel_rfl) (by kernel_rfl) (by kernel_rfl) (fun _ _ _ h => h) (Or.inl ⟨by rfl, ?_⟩) hHeld ?_
  rotate_left
  · intro w hSw; go_simp; try with_reducible rfl
  try simp only [Act.put, List.setIfInBounds_toArray, List.set_cons_zero, List.set_cons_succ]
  refine wpAnyH_take (i := 3) (oi := ⟨some 8, _, _, _, _, _⟩) (v := ?_) rfl (by kernel_rfl) (by kernel_rfl) (by kernel_rfl) (fun _ _ _ h => h) (Or.inl ⟨by rfl, ?_⟩) hHeld ?_
  rotate_left
  · intro w hSw; have kb := hSw.2.1.bits hl; go_simp; try with_reducible rfl
  try simp only [Act.put, List.setIfInBounds_toArray, List.set_cons_zero, List.set_cons_succ]
  refine wpAnyH_ready (rs := [4]) (by kernel_rfl) (by simp) ?_
  refine AllReadyH.cons (o := ⟨some 9, _, _, _, _, _⟩) rfl (fun K hK => ?_) AllReadyH.nil
  go_simp
  have hP4 := hHeld
  with_reducible refine (mask_any m hm n hn _).mono ?_
  rintro e4 w4 ⟨rfl, hb4⟩
  have hQ4 := hP4.1.trans (hb4.mono hP4.1.size)
  have k1 := hP4.2.1.below hb4 (hP4.2.1.lt hl)
  have k2 := hP4.2.2.below hb4 (hP4.2.2.lt hm)
  go_wp2_with fail
  clear hHeld
  refine hK.out _ _ (⟨hQ4, k1, k2⟩) (fun hHeld => ?_)
  clear hK K
  try simp only [Act.put, List.setIfInBounds_toArray, List.set_cons_zero, List.set_cons_succ]
  refine wpAnyH_take (i := 5) (oi := ⟨some 10, _, _, _, _, _⟩) (v := .bool (conP l n m)) rfl (by kernel_rfl) (by kernel_rfl) (by kernel_rfl) (fun _ _ _ h => h) (Or.inl ⟨by rfl, ?_⟩) hHeld ?_
  · intro w hSw; go_simp; simp [pfx_guarded, pfx_eql _ _ _ _ hl (length_mL m (clamp n)), conP]
  try simp only [Act.put, List.setIfInBounds_toArray, List.set_cons_zero, List.set_cons_succ]
  refine wpAnyH_take (i := 6) (oi := ⟨some 4, _, _, _, _, _⟩) (v := ?_) rfl (by kernel_rfl) (by kernel_rfl) (by kernel_rfl) (fun _ _ _ h => h) (Or.inl ⟨by rfl, ?_⟩) hHeld ?_
  rotate_left
  · intro w hSw; go_simp; try with_reducible rfl
  try simp only [Act.put, List.setIfInBounds_toArray, List.set_cons_zero, List.set_cons_succ]
  refine wpAnyH_done (by kernel_rfl) ?_ _
  go_wp2_with fail
  go_ret
  exact ⟨rfl, hHeld.1⟩

set_option maxHeartbeats 3200000 in
set_option maxRecDepth 100000 in
theorem validp_any (l : List UInt8) (hl : l.length = 16) (n : Int) (hn : I64 n) (w : World) :
    Calls Tryd.prog 21 #[pv l n] w (RetS (.bool (conP l n l)) w) := by
  have hP : Pr (w.alloc (.cells (pl l n).toArray 35)) w.heap.size l n := (Pk.new w l n).pr
  have hB := (Below.refl w.heap.size w).alloc (Nat.le_refl _) (.cells (pl l n).toArray 35)
  rw [show pv l n = .agg (pl l n).toArray from rfl]
  go_enter Tryd.func21, Tryd.ntmps21
  go_wp2_with (first
    | (with_reducible refine wpList_load_pfx (op := ⟨some 3, _, _, _, _, _⟩) rfl (.tmp 1) rfl rfl hP hl ?_)
    | (with_reducible refine wpList_load_ry (op := ⟨some 5, _, _, _, _, _⟩) rfl (.tmp 4) rfl rfl hP.ry hl ?_))
  with_reducible refine (contains_any l l hl hl n hn _).mono ?_
  rintro e3 w3 ⟨rfl, hb3⟩
  go_wp2_with fail
  go_ret
  exact ⟨rfl, hB.trans (hb3.mono hB.size)⟩
end Go.Proofs.YthammgljcchloaaDoor
