/-
  Bytes that repeat a few, off the tape.
-/
import Derived.Test.YtmbiophckeiehaaTapeNew
namespace Go.Proofs.Ytmbiophckeiehaa
open Go.RowKit
set_option linter.unusedSimpArgs false
set_option linter.unusedVariables false

/-- block g holds five bytes -/
def Five (w : World) (g : Nat) : Prop := ∀ j, j < 5 → ∃ x : Nat, x < 256 ∧ w.cell? ⟨g, j, none⟩ = some (.int .u8 x)

theorem Five.set {w : World} {g : Nat} (h : Five w g) (p : Addr) (v : Value) (hp : g ≠ p.block) : Five (w.setCell p v) g := by
  intro j hj
  obtain ⟨x, h1, h2⟩ := h j hj
  exact ⟨x, h1, by rw [← h2]; exact World.cell?_of_block (a := ⟨g, j, none⟩) (heap_setCell_other _ _ _ _ hp)⟩

theorem bv_of (z : Int) (h0 : 0 ≤ z) (h1 : z < 256) : Value.int .u8 z = bv (UInt8.ofNat z.toNat) := by
  obtain ⟨z, rfl⟩ := Int.eq_ofNat_of_zero_le h0
  simp only [bv, Int.toNat_natCast]
  rw [UInt8.toNat_ofNat', Nat.mod_eq_of_lt (by omega)]

set_option maxHeartbeats 2000000 in
theorem fill_any (g : Nat) (n : Int) (w : World) (hT : TapeAt w g) (h1 : 0 ≤ n) (h2 : n ≤ 1099511627776) :
    Calls Try.prog 18 #[.pointer (some ⟨g, 0, none⟩), .int .i64 n] w
      (fun e w' => ∃ k l, e = .returned (.slice (some ⟨k, 0, none⟩) l.length l.length) ∧ w.heap.size ≤ k ∧ l.length = n.toNat ∧ Own w' k l ∧ TapeAt w' g ∧ Only g w w') := by
  obtain ⟨n, rfl⟩ := Int.eq_ofNat_of_zero_le h1
  have hmk := fun u => run_make_bytes (n : Int) n rfl (by omega) u
  have hglt := hT.lt
  go_enter Try.func18, Try.ntmps18
  go_wp2_with fail
  refine (next_any g 256 w hT (by decide) (by decide)).mono ?_
  rintro e w1 ⟨v1, rfl, hv1, hT1, hO1⟩
  go_wp2_with fail
  refine (next_any g 256 w1 hT1 (by decide) (by decide)).mono ?_
  rintro e w2 ⟨v2, rfl, hv2, hT2, hO2⟩
  go_wp2_with fail
  refine (next_any g 256 w2 hT2 (by decide) (by decide)).mono ?_
  rintro e w3 ⟨v3, rfl, hv3, hT3, hO3⟩
  have O3 := (hO1.trans hO2).trans hO3
  clear hO1 hO2 hO3 hT hT1 hT2
  go_wp2
  have hcell : Five ((w3.alloc (.cells #[.int .u8 v1, .int .u8 v2, .int .u8 0, .int .u8 v3, .int .u8 7] 65)).alloc (.cells (row (zeros n)) 5)) w3.heap.size := by
    intro j hj
    have hr := heap_alloc2_old w3 (.cells #[.int .u8 v1, .int .u8 v2, .int .u8 0, .int .u8 v3, .int .u8 7] 65) (.cells (row (zeros n)) 5)
    rw [cell_of_row _ _ j _ _ (0, 0) hr]
    match j, hj with
    | 0, _ => exact ⟨v1, by omega, rfl⟩
    | 1, _ => exact ⟨v2, by omega, rfl⟩
    | 2, _ => exact ⟨0, by omega, rfl⟩
    | 3, _ => exact ⟨v3, by omega, rfl⟩
    | 4, _ => exact ⟨7, by omega, rfl⟩
  have hown : Own ((w3.alloc (.cells #[.int .u8 v1, .int .u8 v2, .int .u8 0, .int .u8 v3, .int .u8 7] 65)).alloc (.cells (row (zeros n)) 5)) (w3.heap.size + 1) (zeros n) := by
    have := Own.new (w3.alloc (.cells #[.int .u8 v1, .int .u8 v2, .int .u8 0, .int .u8 v3, .int .u8 7] 65)) (zeros n)
    simpa using this
  go_loopw [7] (fun t wr => ∃ i : Nat, i ≤ n ∧ t = .int .i64 i ∧ (∃ l, l.length = n ∧ Own wr (w3.heap.size + 1) l) ∧ Five wr w3.heap.size ∧ Below w3.heap.size w3 wr) (fun t _ => n - (intOf t).toNat)
  case atStart => exact ⟨0, Nat.zero_le _, rfl, ⟨zeros n, length_zeros n, hown⟩, hcell, ((Below.refl _ _).alloc (Nat.le_refl _) _).alloc (by simp) _⟩
  case round =>
    obtain ⟨i, hi, rfl, ⟨l, hl, hO⟩, h5, hB⟩ := hrel
    clear hcell hown hmk
    by_cases hlt : i < n
    · have d1 := hO.cell i (by omega)
      have d2 := hO.frozen i
      obtain ⟨x, hx, d3⟩ := h5 (i % 5) (by omega)
      have H5 := hid h5
      have HO := hid hO
      clear h5 hO
      go_wp2
      go_roundw
      case rel =>
        refine ⟨i + 1, by omega, by go_num, ⟨l.set i _, by simpa using hl, HO.out.set i _ (UInt8.ofNat (((x : Int) + (i : Int) / 5) % 256).toNat) (bv_of _ (by omega) (by omega))⟩, H5.out.set _ _ (by simp), hB.setCell (by simp) _⟩
      case measure => simp [intOf]; omega
    · obtain rfl : i = n := by omega
      have HO := hid hO
      clear hO h5
      go_wp2
      go_ret
      exact ⟨w3.heap.size + 1, l, by rw [hl]; rfl, by have := O3.size; omega, by simpa using hl, HO.out, hT3.below hB, O3.trans (Only.ofBelow g hB)⟩
end Go.Proofs.Ytmbiophckeiehaa
