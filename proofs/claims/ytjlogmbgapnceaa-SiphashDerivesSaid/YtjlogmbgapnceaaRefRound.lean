/-
  The reference's round, word.
-/
import Derived.Test.YtjlogmbgapnceaaTake
namespace Go.Proofs.Ytjlogmbgapnceaa
open Go.RowKit

theorem rot13 (x : UInt64) (w : World) : Calls Try.prog 32 #[.int .u64 (x.toNat : Int), .int .u64 13] w (Ret (.int .u64 ((rotl x 13).toNat : Int)) w) := rot_any x 13 w (by decide)
theorem rot16 (x : UInt64) (w : World) : Calls Try.prog 32 #[.int .u64 (x.toNat : Int), .int .u64 16] w (Ret (.int .u64 ((rotl x 16).toNat : Int)) w) := rot_any x 16 w (by decide)
theorem rot17 (x : UInt64) (w : World) : Calls Try.prog 32 #[.int .u64 (x.toNat : Int), .int .u64 17] w (Ret (.int .u64 ((rotl x 17).toNat : Int)) w) := rot_any x 17 w (by decide)
theorem rot21 (x : UInt64) (w : World) : Calls Try.prog 32 #[.int .u64 (x.toNat : Int), .int .u64 21] w (Ret (.int .u64 ((rotl x 21).toNat : Int)) w) := rot_any x 21 w (by decide)
theorem rot32 (x : UInt64) (w : World) : Calls Try.prog 32 #[.int .u64 (x.toNat : Int), .int .u64 32] w (Ret (.int .u64 ((rotl x 32).toNat : Int)) w) := rot_any x 32 w (by decide)

set_option maxRecDepth 100000 in
set_option maxHeartbeats 1000000 in
theorem round_any (a b c d : UInt64) (w : World) :
    Calls Try.prog 26 #[.agg #[.int .u64 a.toNat, .int .u64 b.toNat, .int .u64 c.toNat, .int .u64 d.toNat]] w (RetS (.agg (stc (rnd ⟨a, b, c, d⟩))) w) := by
  have A := ad_val
  have X := xr_val
  go_enter Try.func26, Try.ntmps26
  go_wp2_with fail
  with_reducible refine (rot13 _ _).mono ?_
  rintro e w1 ⟨rfl, rfl⟩
  go_wp2_with fail
  with_reducible refine (rot32 _ _).mono ?_
  rintro e w1 ⟨rfl, rfl⟩
  go_wp2_with fail
  with_reducible refine (rot16 _ _).mono ?_
  rintro e w1 ⟨rfl, rfl⟩
  go_wp2_with fail
  with_reducible refine (rot21 _ _).mono ?_
  rintro e w1 ⟨rfl, rfl⟩
  go_wp2_with fail
  with_reducible refine (rot17 _ _).mono ?_
  rintro e w1 ⟨rfl, rfl⟩
  go_wp2_with fail
  with_reducible refine (rot32 _ _).mono ?_
  rintro e w1 ⟨rfl, rfl⟩
  go_wp2_with fail
  clear A X
  exact bodyPost_ret (v := .agg (stc (rnd ⟨a, b, c, d⟩))) (by simp [results, Try.results26, go_sem]; rfl) rfl ⟨rfl, two_below w _ _⟩

theorem round_st (s : St) (w : World) : Calls Try.prog 26 #[.agg (stc s)] w (RetS (.agg (stc (rnd s))) w) := by
  obtain ⟨a, b, c, d⟩ := s
  exact round_any a b c d w

/-- block g is a state of the reference -/
def Rf (w : World) (g : Nat) (s : St) : Prop := w.heap[g]? = some (.cells (stc s) 48 (0, 0))
theorem Rf.new (w : World) (s : St) : Rf (w.alloc (.cells (stc s) 48)) w.heap.size s := heap_alloc_new w _
theorem Rf.lt {w : World} {g : Nat} {s : St} (h : Rf w g s) : g < w.heap.size := (Array.getElem?_eq_some_iff.1 h).1
theorem Rf.cells {w : World} {g : Nat} {a b c d : UInt64} (h : Rf w g ⟨a, b, c, d⟩) :
    w.cell? ⟨g, 0, none⟩ = some (.int .u64 a.toNat) ∧ w.cell? ⟨g, 1, none⟩ = some (.int .u64 b.toNat) ∧ w.cell? ⟨g, 2, none⟩ = some (.int .u64 c.toNat) ∧ w.cell? ⟨g, 3, none⟩ = some (.int .u64 d.toNat) ∧
    w.frozen? ⟨g, 0, none⟩ = false ∧ w.frozen? ⟨g, 1, none⟩ = false ∧ w.frozen? ⟨g, 2, none⟩ = false ∧ w.frozen? ⟨g, 3, none⟩ = false :=
  ⟨by rw [cell_of_row w g 0 _ _ (0, 0) h]; rfl, by rw [cell_of_row w g 1 _ _ (0, 0) h]; rfl, by rw [cell_of_row w g 2 _ _ (0, 0) h]; rfl, by rw [cell_of_row w g 3 _ _ (0, 0) h]; rfl,
   frozen_of_row w g 0 _ _ h, frozen_of_row w g 1 _ _ h, frozen_of_row w g 2 _ _ h, frozen_of_row w g 3 _ _ h⟩
theorem Rf.below {w w' : World} {g B : Nat} {s : St} (h : Rf w g s) (hb : Below B w w') (hg : g < B) : Rf w' g s := by
  unfold Rf; rw [hb.block g hg]; exact h
theorem Rf.drewN {w : World} {g : Nat} {s : St} (h : Rf w g s) (n : Nat) : Rf (w.drewN n) g s := by
  unfold Rf; rw [← h]; simp
theorem Rf.other {w : World} {g : Nat} {s : St} (h : Rf w g s) (p : Addr) (v : Value) (hp : g ≠ p.block) : Rf (w.setCell p v) g s := by
  unfold Rf; rw [heap_setCell_other _ _ _ _ hp]; exact h
theorem Rf.set0 {w : World} {g : Nat} {s : St} (h : Rf w g s) (x : UInt64) : Rf (w.setCell ⟨g, 0, none⟩ (.int .u64 x.toNat)) g ⟨x, s.b, s.c, s.d⟩ := heap_setCell_same w g 0 _ _ _ h
theorem Rf.set1 {w : World} {g : Nat} {s : St} (h : Rf w g s) (x : UInt64) : Rf (w.setCell ⟨g, 1, none⟩ (.int .u64 x.toNat)) g ⟨s.a, x, s.c, s.d⟩ := heap_setCell_same w g 1 _ _ _ h
theorem Rf.set2 {w : World} {g : Nat} {s : St} (h : Rf w g s) (x : UInt64) : Rf (w.setCell ⟨g, 2, none⟩ (.int .u64 x.toNat)) g ⟨s.a, s.b, x, s.d⟩ := heap_setCell_same w g 2 _ _ _ h
theorem Rf.set3 {w : World} {g : Nat} {s : St} (h : Rf w g s) (x : UInt64) : Rf (w.setCell ⟨g, 3, none⟩ (.int .u64 x.toNat)) g ⟨s.a, s.b, s.c, x⟩ := heap_setCell_same w g 3 _ _ _ h

set_option maxRecDepth 100000 in
set_option maxHeartbeats 1000000 in
theorem refWord_any (s : St) (m : UInt64) (w : World) :
    Calls Try.prog 25 #[.agg (stc s), .int .u64 m.toNat] w (RetS (.agg (stc (word s m))) w) := by
  obtain ⟨a, b, c, d⟩ := s
  have X := xr_val
  have HV : Hid (word ⟨a, b, c, d⟩ m = ⟨xr (rnd (rnd ⟨a, b, c, xr d m⟩)).a m, (rnd (rnd ⟨a, b, c, xr d m⟩)).b, (rnd (rnd ⟨a, b, c, xr d m⟩)).c, (rnd (rnd ⟨a, b, c, xr d m⟩)).d⟩) := hid rfl
  generalize word ⟨a, b, c, d⟩ m = r at *
  have h1 := (Rf.new w ⟨a, b, c, xr d m⟩).below ((Below.refl _ _).alloc (Nat.le_refl _) (.cells (stc ⟨0, 0, 0, 0⟩) 48)) (Rf.new w _).lt
  have h2 := Rf.new (w.alloc (.cells (stc ⟨a, b, c, xr d m⟩) 48)) ⟨0, 0, 0, 0⟩
  have hb := two_below w (.cells (stc ⟨a, b, c, xr d m⟩) 48) (.cells (stc ⟨0, 0, 0, 0⟩) 48)
  rw [show (w.alloc (.cells (stc ⟨a, b, c, xr d m⟩) 48)).heap.size = w.heap.size + 1 from by simp] at h2
  simp only [stc, wv] at *
  go_enter Try.func25, Try.ntmps25
  go_wp2_with fail
  with_reducible refine (round_any _ _ _ _ _).mono ?_
  rintro e w1 ⟨rfl, hb1⟩
  go_wp2_with fail
  with_reducible refine (round_st _ _).mono ?_
  rintro e w2 ⟨rfl, hb2⟩
  generalize rnd (rnd ⟨a, b, c, xr d m⟩) = t at *
  obtain ⟨a', b', c', d'⟩ := t
  have k1 := h1.below (seq hb1 hb2) h1.lt
  have k2 := h2.below (seq hb1 hb2) h2.lt
  have kb := seq hb (seq hb1 hb2)
  clear h1 h2 hb hb1 hb2
  obtain ⟨c0, c1, c2, c3, f0, f1, f2, f3⟩ := k1.cells
  obtain ⟨d0, d1, d2, d3, e0, e1, e2, e3⟩ := k2.cells
  simp only [stc, wv]
  go_wp2_with fail
  clear c0 c1 c2 c3 f0 f1 f2 f3 d0 d1 d2 d3 e0 e1 e2 e3
  have F := ((((((((k2.other ⟨w.heap.size, 0, none⟩ (.int .u64 a'.toNat) (by simp)).other ⟨w.heap.size, 1, none⟩ (.int .u64 b'.toNat) (by simp)).other ⟨w.heap.size, 2, none⟩ (.int .u64 c'.toNat) (by simp)).other ⟨w.heap.size, 3, none⟩ (.int .u64 d'.toNat) (by simp)).other ⟨w.heap.size, 0, none⟩ (.int .u64 (xr a' m).toNat) (by simp)).set0 (xr a' m)).set1 b').set2 c').set3 d'
  have B := ((((((((kb.setCell (p := ⟨w.heap.size, 0, none⟩) (Nat.le_refl _) (.int .u64 a'.toNat)).setCell (p := ⟨w.heap.size, 1, none⟩) (Nat.le_refl _) (.int .u64 b'.toNat)).setCell (p := ⟨w.heap.size, 2, none⟩) (Nat.le_refl _) (.int .u64 c'.toNat)).setCell (p := ⟨w.heap.size, 3, none⟩) (Nat.le_refl _) (.int .u64 d'.toNat)).setCell (p := ⟨w.heap.size, 0, none⟩) (Nat.le_refl _) (.int .u64 (xr a' m).toNat)).setCell (p := ⟨w.heap.size + 1, 0, none⟩) (Nat.le_succ _) (.int .u64 (xr a' m).toNat)).setCell (p := ⟨w.heap.size + 1, 1, none⟩) (Nat.le_succ _) (.int .u64 b'.toNat)).setCell (p := ⟨w.heap.size + 1, 2, none⟩) (Nat.le_succ _) (.int .u64 c'.toNat)).setCell (p := ⟨w.heap.size + 1, 3, none⟩) (Nat.le_succ _) (.int .u64 d'.toNat)
  generalize ((((((((w2.setCell ⟨w.heap.size, 0, none⟩ _).setCell ⟨w.heap.size, 1, none⟩ _).setCell ⟨w.heap.size, 2, none⟩ _).setCell ⟨w.heap.size, 3, none⟩ _).setCell ⟨w.heap.size, 0, none⟩ _).setCell ⟨w.heap.size + 1, 0, none⟩ _).setCell ⟨w.heap.size + 1, 1, none⟩ _).setCell ⟨w.heap.size + 1, 2, none⟩ _).setCell ⟨w.heap.size + 1, 3, none⟩ _ = w3 at *
  obtain ⟨c0, c1, c2, c3, _⟩ := F.cells
  rw [HV.out]
  exact bodyPost_ret (v := .agg #[.int .u64 (xr a' m).toNat, .int .u64 b'.toNat, .int .u64 c'.toNat, .int .u64 d'.toNat]) (by simp [results, Try.results25, go_sem, c0, c1, c2, c3]) rfl ⟨rfl, B⟩
end Go.Proofs.Ytjlogmbgapnceaa
