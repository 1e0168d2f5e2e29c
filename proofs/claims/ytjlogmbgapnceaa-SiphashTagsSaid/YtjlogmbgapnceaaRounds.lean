/-
  The state of four words; the rounds.
-/
import Derived.Test.YtjlogmbgapnceaaRot
import Derived.Deep.QuietTactic
import Derived.BigQuiet
import Derived.StillTailTactics
import Derived.Deep.RegionHeld3
namespace Go.Proofs.Ytjlogmbgapnceaa
open Go.RowKit

structure St where
  a : UInt64
  b : UInt64
  c : UInt64
  d : UInt64

/-- one round -/
def rnd (s : St) : St :=
  let a1 := ad s.a s.b
  let b1 := xr (rotl s.b 13) a1
  let a2 := rotl a1 32
  let c1 := ad s.c s.d
  let d1 := xr (rotl s.d 16) c1
  let a3 := ad a2 d1
  let d2 := xr (rotl d1 21) a3
  let c2 := ad c1 b1
  let b2 := xr (rotl b1 17) c2
  let c3 := rotl c2 32
  ⟨a3, b2, c3, d2⟩

def iter {α : Type} (f : α → α) : Nat → α → α
  | 0, s => s
  | n + 1, s => iter f n (f s)

theorem iter_succ {α : Type} (f : α → α) (n : Nat) (s : α) : iter f (n + 1) s = f (iter f n s) := by
  induction n generalizing s with
  | zero => rfl
  | succ n ih => rw [iter, ih, ← iter]

def rnds (n : Nat) (s : St) : St := iter rnd n s
theorem rnds_succ (n : Nat) (s : St) : rnds (n + 1) s = rnd (rnds n s) := iter_succ rnd n s

/-- the cells of a state -/
def stc (s : St) : Array Value := #[wv s.a, wv s.b, wv s.c, wv s.d]
/-- block g is a state of the call's own -/
def Four (w : World) (g : Nat) (s : St) : Prop := w.heap[g]? = some (.cells (stc s) 42 (0, 0))

theorem Four.lt {w : World} {g : Nat} {s : St} (h : Four w g s) : g < w.heap.size := (Array.getElem?_eq_some_iff.1 h).1
theorem Four.cells {w : World} {g : Nat} {s : St} (h : Four w g s) :
    w.cell? ⟨g, 0, none⟩ = some (.int .u64 s.a.toNat) ∧ w.cell? ⟨g, 1, none⟩ = some (.int .u64 s.b.toNat) ∧ w.cell? ⟨g, 2, none⟩ = some (.int .u64 s.c.toNat) ∧ w.cell? ⟨g, 3, none⟩ = some (.int .u64 s.d.toNat) :=
  ⟨by rw [cell_of_row w g 0 _ _ (0, 0) h]; rfl, by rw [cell_of_row w g 1 _ _ (0, 0) h]; rfl, by rw [cell_of_row w g 2 _ _ (0, 0) h]; rfl, by rw [cell_of_row w g 3 _ _ (0, 0) h]; rfl⟩
theorem Four.free {w : World} {g : Nat} {s : St} (h : Four w g s) :
    w.frozen? ⟨g, 0, none⟩ = false ∧ w.frozen? ⟨g, 1, none⟩ = false ∧ w.frozen? ⟨g, 2, none⟩ = false ∧ w.frozen? ⟨g, 3, none⟩ = false :=
  ⟨frozen_of_row w g 0 _ _ h, frozen_of_row w g 1 _ _ h, frozen_of_row w g 2 _ _ h, frozen_of_row w g 3 _ _ h⟩
theorem Four.set0 {w : World} {g : Nat} {s : St} (h : Four w g s) (x : UInt64) : Four (w.setCell ⟨g, 0, none⟩ (.int .u64 x.toNat)) g ⟨x, s.b, s.c, s.d⟩ := heap_setCell_same w g 0 _ _ _ h
theorem Four.set1 {w : World} {g : Nat} {s : St} (h : Four w g s) (x : UInt64) : Four (w.setCell ⟨g, 1, none⟩ (.int .u64 x.toNat)) g ⟨s.a, x, s.c, s.d⟩ := heap_setCell_same w g 1 _ _ _ h
theorem Four.set2 {w : World} {g : Nat} {s : St} (h : Four w g s) (x : UInt64) : Four (w.setCell ⟨g, 2, none⟩ (.int .u64 x.toNat)) g ⟨s.a, s.b, x, s.d⟩ := heap_setCell_same w g 2 _ _ _ h
theorem Four.set3 {w : World} {g : Nat} {s : St} (h : Four w g s) (x : UInt64) : Four (w.setCell ⟨g, 3, none⟩ (.int .u64 x.toNat)) g ⟨s.a, s.b, s.c, x⟩ := heap_setCell_same w g 3 _ _ _ h
theorem Four.drewN {w : World} {g : Nat} {s : St} (h : Four w g s) (n : Nat) : Four (w.drewN n) g s := by
  unfold Four; rw [← h]; simp
theorem Four.below {w w' : World} {g B : Nat} {s : St} (h : Four w g s) (hb : Below B w w') (hg : g < B) : Four w' g s := by
  unfold Four; rw [hb.block g hg]; exact h

theorem rotate_still (x : UInt64) (k : Nat) (w : World) (hk : k ≤ 63) :
    Calls Try.prog 33 #[.int .u64 (x.toNat : Int), .int .i64 (k : Int)] w fun e w' => e = .returned (.int .u64 ((rotl x k).toNat : Int)) ∧ w' = w :=
  (rotate_any x k w hk).mono fun e w' h => ⟨h.1, h.2.symm⟩

theorem after0 {w wr : World} {g : Nat} {a b c d : UInt64} (HS : Hid (Four wr g ⟨a, b, c, d⟩)) (hB : Below g w wr) (x : UInt64) :
    ∃ w1, w1 = (wr.setCell ⟨g, 0, none⟩ (.int .u64 x.toNat)).drew ∧ Hid (Four w1 g ⟨x, b, c, d⟩) ∧ Below g w w1 ∧
      w1.cell? ⟨g, 0, none⟩ = some (.int .u64 x.toNat) ∧ w1.cell? ⟨g, 1, none⟩ = some (.int .u64 b.toNat) ∧ w1.cell? ⟨g, 2, none⟩ = some (.int .u64 c.toNat) ∧ w1.cell? ⟨g, 3, none⟩ = some (.int .u64 d.toNat) ∧
      w1.frozen? ⟨g, 0, none⟩ = false ∧ w1.frozen? ⟨g, 1, none⟩ = false ∧ w1.frozen? ⟨g, 2, none⟩ = false ∧ w1.frozen? ⟨g, 3, none⟩ = false := by
  have h : Four (wr.setCell ⟨g, 0, none⟩ (.int .u64 x.toNat)).drew g ⟨x, b, c, d⟩ := HS.out.set0 x
  have hb : Below g w (wr.setCell ⟨g, 0, none⟩ (.int .u64 x.toNat)).drew := below_drewN (hB.setCell (p := ⟨g, 0, none⟩) (Nat.le_refl _) _) 1
  obtain ⟨c0, c1, c2, c3⟩ := h.cells
  obtain ⟨f0, f1, f2, f3⟩ := h.free
  exact ⟨_, rfl, hid h, hb, c0, c1, c2, c3, f0, f1, f2, f3⟩

theorem after1 {w wr : World} {g : Nat} {a b c d : UInt64} (HS : Hid (Four wr g ⟨a, b, c, d⟩)) (hB : Below g w wr) (x : UInt64) :
    ∃ w1, w1 = (wr.setCell ⟨g, 1, none⟩ (.int .u64 x.toNat)).drew ∧ Hid (Four w1 g ⟨a, x, c, d⟩) ∧ Below g w w1 ∧
      w1.cell? ⟨g, 0, none⟩ = some (.int .u64 a.toNat) ∧ w1.cell? ⟨g, 1, none⟩ = some (.int .u64 x.toNat) ∧ w1.cell? ⟨g, 2, none⟩ = some (.int .u64 c.toNat) ∧ w1.cell? ⟨g, 3, none⟩ = some (.int .u64 d.toNat) ∧
      w1.frozen? ⟨g, 0, none⟩ = false ∧ w1.frozen? ⟨g, 1, none⟩ = false ∧ w1.frozen? ⟨g, 2, none⟩ = false ∧ w1.frozen? ⟨g, 3, none⟩ = false := by
  have h : Four (wr.setCell ⟨g, 1, none⟩ (.int .u64 x.toNat)).drew g ⟨a, x, c, d⟩ := HS.out.set1 x
  have hb : Below g w (wr.setCell ⟨g, 1, none⟩ (.int .u64 x.toNat)).drew := below_drewN (hB.setCell (p := ⟨g, 1, none⟩) (Nat.le_refl _) _) 1
  obtain ⟨c0, c1, c2, c3⟩ := h.cells
  obtain ⟨f0, f1, f2, f3⟩ := h.free
  exact ⟨_, rfl, hid h, hb, c0, c1, c2, c3, f0, f1, f2, f3⟩

theorem after2 {w wr : World} {g : Nat} {a b c d : UInt64} (HS : Hid (Four wr g ⟨a, b, c, d⟩)) (hB : Below g w wr) (x : UInt64) :
    ∃ w1, w1 = (wr.setCell ⟨g, 2, none⟩ (.int .u64 x.toNat)).drew ∧ Hid (Four w1 g ⟨a, b, x, d⟩) ∧ Below g w w1 ∧
      w1.cell? ⟨g, 0, none⟩ = some (.int .u64 a.toNat) ∧ w1.cell? ⟨g, 1, none⟩ = some (.int .u64 b.toNat) ∧ w1.cell? ⟨g, 2, none⟩ = some (.int .u64 x.toNat) ∧ w1.cell? ⟨g, 3, none⟩ = some (.int .u64 d.toNat) ∧
      w1.frozen? ⟨g, 0, none⟩ = false ∧ w1.frozen? ⟨g, 1, none⟩ = false ∧ w1.frozen? ⟨g, 2, none⟩ = false ∧ w1.frozen? ⟨g, 3, none⟩ = false := by
  have h : Four (wr.setCell ⟨g, 2, none⟩ (.int .u64 x.toNat)).drew g ⟨a, b, x, d⟩ := HS.out.set2 x
  have hb : Below g w (wr.setCell ⟨g, 2, none⟩ (.int .u64 x.toNat)).drew := below_drewN (hB.setCell (p := ⟨g, 2, none⟩) (Nat.le_refl _) _) 1
  obtain ⟨c0, c1, c2, c3⟩ := h.cells
  obtain ⟨f0, f1, f2, f3⟩ := h.free
  exact ⟨_, rfl, hid h, hb, c0, c1, c2, c3, f0, f1, f2, f3⟩

theorem after3 {w wr : World} {g : Nat} {a b c d : UInt64} (HS : Hid (Four wr g ⟨a, b, c, d⟩)) (hB : Below g w wr) (x : UInt64) :
    ∃ w1, w1 = (wr.setCell ⟨g, 3, none⟩ (.int .u64 x.toNat)).drew ∧ Hid (Four w1 g ⟨a, b, c, x⟩) ∧ Below g w w1 ∧
      w1.cell? ⟨g, 0, none⟩ = some (.int .u64 a.toNat) ∧ w1.cell? ⟨g, 1, none⟩ = some (.int .u64 b.toNat) ∧ w1.cell? ⟨g, 2, none⟩ = some (.int .u64 c.toNat) ∧ w1.cell? ⟨g, 3, none⟩ = some (.int .u64 x.toNat) ∧
      w1.frozen? ⟨g, 0, none⟩ = false ∧ w1.frozen? ⟨g, 1, none⟩ = false ∧ w1.frozen? ⟨g, 2, none⟩ = false ∧ w1.frozen? ⟨g, 3, none⟩ = false := by
  have h : Four (wr.setCell ⟨g, 3, none⟩ (.int .u64 x.toNat)).drew g ⟨a, b, c, x⟩ := HS.out.set3 x
  have hb : Below g w (wr.setCell ⟨g, 3, none⟩ (.int .u64 x.toNat)).drew := below_drewN (hB.setCell (p := ⟨g, 3, none⟩) (Nat.le_refl _) _) 1
  obtain ⟨c0, c1, c2, c3⟩ := h.cells
  obtain ⟨f0, f1, f2, f3⟩ := h.free
  exact ⟨_, rfl, hid h, hb, c0, c1, c2, c3, f0, f1, f2, f3⟩

set_option maxRecDepth 100000 in
set_option maxRecDepth 100000 in
set_option maxHeartbeats 4000000 in
theorem rounds_any (g : Nat) (s : St) (n : Nat) (w : World) (hs : Four w g s) (hn : n < 100) :
    Calls Try.prog 31 #[.pointer (some ⟨g, 0, none⟩), .int .i64 n] w fun e w' => e = .returned (.tuple #[]) ∧ Four w' g (rnds n s) ∧ Below g w w' := by
  go_enter Try.func31, Try.ntmps31
  go_wp2
  go_loopw [5] (fun i wr => ∃ k : Nat, k ≤ n ∧ i = .int .i64 k ∧ Hid (Four wr g (rnds k s)) ∧ Below g w wr) (fun i _ => n - (intOf i).toNat)
  case atStart => exact ⟨0, Nat.zero_le _, rfl, hid hs, Below.refl _ _⟩
  case round =>
    obtain ⟨k, hk, rfl, HS, hB⟩ := hrel
    by_cases hlt : k < n
    · have HR := hid (rnds_succ k s)
      generalize rnds k s = t at *
      obtain ⟨a, b, c, d⟩ := t
      obtain ⟨c0, c1, c2, c3⟩ := HS.out.cells
      obtain ⟨f0, f1, f2, f3⟩ := HS.out.free
      dsimp only at c0 c1 c2 c3
      go_wp2_with fail
      go_still_tail 11, (by kernel_rfl)
      go_wp2_with fail
      rw [ad_val a b]
      clear c0 c1 c2 c3 f0 f1 f2 f3
      obtain ⟨w0, e0, HS, hB, c0, c1, c2, c3, f0, f1, f2, f3⟩ := after0 HS hB (ad a b)
      rw [← e0]; clear e0
      go_still_tail 13, (by kernel_rfl)
      still_call (rotate_still b 13 _ (by omega))
      repeat still_step
      try refine wpStill_nil ?_
      go_wp2_with fail
      rw [xr_val (rotl b 13) (ad a b)]
      clear c0 c1 c2 c3 f0 f1 f2 f3
      obtain ⟨w1, e1, HS, hB, c0, c1, c2, c3, f0, f1, f2, f3⟩ := after1 HS hB (xr (rotl b 13) (ad a b))
      rw [← e1]; clear e1
      go_still_tail 8, (by kernel_rfl)
      still_call (rotate_still (ad a b) 32 _ (by omega))
      repeat still_step
      try refine wpStill_nil ?_
      go_wp2_with fail
      clear c0 c1 c2 c3 f0 f1 f2 f3
      obtain ⟨w2, e2, HS, hB, c0, c1, c2, c3, f0, f1, f2, f3⟩ := after0 HS hB (rotl (ad a b) 32)
      rw [← e2]; clear e2
      go_still_tail 11, (by kernel_rfl)
      go_wp2_with fail
      rw [ad_val c d]
      clear c0 c1 c2 c3 f0 f1 f2 f3
      obtain ⟨w3, e3, HS, hB, c0, c1, c2, c3, f0, f1, f2, f3⟩ := after2 HS hB (ad c d)
      rw [← e3]; clear e3
      go_still_tail 13, (by kernel_rfl)
      still_call (rotate_still d 16 _ (by omega))
      repeat still_step
      try refine wpStill_nil ?_
      go_wp2_with fail
      rw [xr_val (rotl d 16) (ad c d)]
      clear c0 c1 c2 c3 f0 f1 f2 f3
      obtain ⟨w4, e4, HS, hB, c0, c1, c2, c3, f0, f1, f2, f3⟩ := after3 HS hB (xr (rotl d 16) (ad c d))
      rw [← e4]; clear e4
      go_still_tail 11, (by kernel_rfl)
      go_wp2_with fail
      rw [ad_val (rotl (ad a b) 32) (xr (rotl d 16) (ad c d))]
      clear c0 c1 c2 c3 f0 f1 f2 f3
      obtain ⟨w5, e5, HS, hB, c0, c1, c2, c3, f0, f1, f2, f3⟩ := after0 HS hB (ad (rotl (ad a b) 32) (xr (rotl d 16) (ad c d)))
      rw [← e5]; clear e5
      go_still_tail 13, (by kernel_rfl)
      still_call (rotate_still (xr (rotl d 16) (ad c d)) 21 _ (by omega))
      repeat still_step
      try refine wpStill_nil ?_
      go_wp2_with fail
      rw [xr_val (rotl (xr (rotl d 16) (ad c d)) 21) (ad (rotl (ad a b) 32) (xr (rotl d 16) (ad c d)))]
      clear c0 c1 c2 c3 f0 f1 f2 f3
      obtain ⟨w6, e6, HS, hB, c0, c1, c2, c3, f0, f1, f2, f3⟩ := after3 HS hB (xr (rotl (xr (rotl d 16) (ad c d)) 21) (ad (rotl (ad a b) 32) (xr (rotl d 16) (ad c d))))
      rw [← e6]; clear e6
      go_still_tail 11, (by kernel_rfl)
      go_wp2_with fail
      rw [ad_val (ad c d) (xr (rotl b 13) (ad a b))]
      clear c0 c1 c2 c3 f0 f1 f2 f3
      obtain ⟨w7, e7, HS, hB, c0, c1, c2, c3, f0, f1, f2, f3⟩ := after2 HS hB (ad (ad c d) (xr (rotl b 13) (ad a b)))
      rw [← e7]; clear e7
      go_still_tail 13, (by kernel_rfl)
      still_call (rotate_still (xr (rotl b 13) (ad a b)) 17 _ (by omega))
      repeat still_step
      try refine wpStill_nil ?_
      go_wp2_with fail
      rw [xr_val (rotl (xr (rotl b 13) (ad a b)) 17) (ad (ad c d) (xr (rotl b 13) (ad a b)))]
      clear c0 c1 c2 c3 f0 f1 f2 f3
      obtain ⟨w8, e8, HS, hB, c0, c1, c2, c3, f0, f1, f2, f3⟩ := after1 HS hB (xr (rotl (xr (rotl b 13) (ad a b)) 17) (ad (ad c d) (xr (rotl b 13) (ad a b))))
      rw [← e8]; clear e8
      go_still_tail 8, (by kernel_rfl)
      still_call (rotate_still (ad (ad c d) (xr (rotl b 13) (ad a b))) 32 _ (by omega))
      repeat still_step
      try refine wpStill_nil ?_
      go_wp2_with fail
      clear c0 c1 c2 c3 f0 f1 f2 f3
      obtain ⟨w9, e9, HS, hB, c0, c1, c2, c3, f0, f1, f2, f3⟩ := after2 HS hB (rotl (ad (ad c d) (xr (rotl b 13) (ad a b))) 32)
      go_roundw
      case rel => exact ⟨k + 1, by omega, by go_num, by rw [HR.out, ← e9]; exact HS, by rw [← e9]; exact hB⟩
      case measure => simp [intOf]; omega
    · obtain rfl : k = n := by omega
      go_wp2
      exact bodyPost_end (v := .tuple #[]) (by simp [results, Try.results31, go_sem]) rfl ⟨rfl, HS.out, hB⟩
end Go.Proofs.Ytjlogmbgapnceaa
