import Derived.Test.YtjlogmbgapnceaaKey
import Derived.Test.YtjlogmbgapnceaaTake
namespace Go.Proofs.Ytjlogmbgapnceaa
open Go.RowKit

/-- the state before any word -/
def ini (l : List UInt8) : St :=
  ⟨xr (leW (l.take 8)) 8317987319222330741, xr (leW (l.drop 8)) 7237128888997146477, xr (leW (l.take 8)) 7816392313619706465, xr (leW (l.drop 8)) 8387220255154660723⟩

theorem xk0 (x : UInt64) : bits .xor .u64 (x.toNat : Int) 8317987319222330741 = ((xr x 8317987319222330741).toNat : Int) := xr_val x 8317987319222330741
theorem xk1 (x : UInt64) : bits .xor .u64 (x.toNat : Int) 7237128888997146477 = ((xr x 7237128888997146477).toNat : Int) := xr_val x 7237128888997146477
theorem xk2 (x : UInt64) : bits .xor .u64 (x.toNat : Int) 7816392313619706465 = ((xr x 7816392313619706465).toNat : Int) := xr_val x 7816392313619706465
theorem xk3 (x : UInt64) : bits .xor .u64 (x.toNat : Int) 8387220255154660723 = ((xr x 8387220255154660723).toNat : Int) := xr_val x 8387220255154660723

theorem zero_four (w : World) : Four (w.alloc (.cells #[.int .u64 0, .int .u64 0, .int .u64 0, .int .u64 0] 42)) w.heap.size ⟨0, 0, 0, 0⟩ := heap_alloc_new w _

set_option maxHeartbeats 1000000 in
theorem begin_any (l : List UInt8) (w : World) (hl : l.length = 16) :
    Calls Try.prog 20 #[kv l] w fun e w' => e = .returned (.agg (stc (ini l))) ∧ Below w.heap.size w w' := by
  have h1 := (Ky.new w l).isB 0 8 16 (by omega) (by omega) (by omega) (by omega)
  have h2 := (Ky.new w l).isB 8 8 8 (by omega) (by omega) (by omega) (by omega)
  rw [List.drop_zero] at h1
  rw [List.take_of_length_le (by rw [List.length_drop]; omega)] at h2
  unfold kv
  go_enter Try.func20, Try.ntmps20
  go_wp2_with fail
  have k1 := h1.below ((Below.refl _ _).alloc (Nat.le_refl _) (.cells #[.int .u64 0, .int .u64 0, .int .u64 0, .int .u64 0] 42))
  have k2 := h2.below ((Below.refl _ _).alloc (Nat.le_refl _) (.cells #[.int .u64 0, .int .u64 0, .int .u64 0, .int .u64 0] 42))
  have hB := two_below w (.cells (row l) 23) (.cells #[.int .u64 0, .int .u64 0, .int .u64 0, .int .u64 0] 42)
  have hF := zero_four (w.alloc (.cells (row l) 23))
  rw [show (w.alloc (.cells (row l) 23)).heap.size = w.heap.size + 1 from by simp] at hF
  clear h1 h2
  generalize (w.alloc (.cells (row l) 23)).alloc (.cells #[.int .u64 0, .int .u64 0, .int .u64 0, .int .u64 0] 42) = w1 at *
  go_quiet ((go_at_call 22; exact Calls.quiet_of_same ((number_any _ _ _ _ _ (IsB.below (w := w1) (by first | exact k1 | exact k2) (below_drewN (Below.refl _ _) _)) (by omega)).mono fun e w' h => ⟨h.1, h.2.symm⟩)))
  obtain ⟨c0, c1, c2, c3⟩ := hF.cells
  obtain ⟨f0, f1, f2, f3⟩ := hF.free
  go_wp2_with fail
  simp only [xk0, xk1, xk2, xk3]
  have F4 := ((((hF.drewN nq).set0 (xr (leW (l.take 8)) 8317987319222330741)).set1 (xr (leW (l.drop 8)) 7237128888997146477)).set2 (xr (leW (l.take 8)) 7816392313619706465)).set3 (xr (leW (l.drop 8)) 8387220255154660723)
  have B4 := ((((below_drewN hB nq).setCell (p := ⟨w.heap.size + 1, 0, none⟩) (by simp) (.int .u64 (xr (leW (l.take 8)) 8317987319222330741).toNat)).setCell (p := ⟨w.heap.size + 1, 1, none⟩) (by simp) (.int .u64 (xr (leW (l.drop 8)) 7237128888997146477).toNat)).setCell (p := ⟨w.heap.size + 1, 2, none⟩) (by simp) (.int .u64 (xr (leW (l.take 8)) 7816392313619706465).toNat)).setCell (p := ⟨w.heap.size + 1, 3, none⟩) (by simp) (.int .u64 (xr (leW (l.drop 8)) 8387220255154660723).toNat)
  clear c0 c1 c2 c3 f0 f1 f2 f3
  generalize ((((w1.drewN nq).setCell ⟨w.heap.size + 1, 0, none⟩ _).setCell ⟨w.heap.size + 1, 1, none⟩ _).setCell ⟨w.heap.size + 1, 2, none⟩ _).setCell ⟨w.heap.size + 1, 3, none⟩ _ = w2 at *
  obtain ⟨c0, c1, c2, c3⟩ := F4.cells
  dsimp only at c0 c1 c2 c3
  refine bodyPost_ret (v := .agg (stc (ini l))) (by simp [results, Try.results20, go_sem, c0, c1, c2, c3]; rfl) rfl ⟨rfl, B4⟩
end Go.Proofs.Ytjlogmbgapnceaa
