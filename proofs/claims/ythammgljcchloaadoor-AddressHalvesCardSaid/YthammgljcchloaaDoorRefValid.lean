/-
  The reference's ValidPrefix.
-/
import Derived.Test.YthammgljcchloaaDoorRefBit
import Derived.Test.YthammgljcchloaaDoorMaskMath
namespace Go.Proofs.YthammgljcchloaaDoor
open Go.RowKit
set_option linter.unusedSimpArgs false
set_option linter.unusedVariables false

theorem con_iff (l : List UInt8) (hl : l.length = 16) (n : Int) : conP l n l = true ↔ (0 ≤ n ∧ n ≤ 128 ∧ ∀ j : Nat, n ≤ j → j < 128 → bitV l j = 0) := by
  have key : ∀ c : Nat, c ≤ 128 → (l = mL l c ↔ ∀ j : Nat, c ≤ j → j < 128 → bitV l j = 0) := by
    intro c hc
    have h1 : l = mL l c ↔ hiOf l = clr (64 - min c 64) (hiOf l) ∧ loOf l = clr (64 - (c - 64)) (loOf l) := by
      constructor
      · intro h
        exact ⟨by rw [← hi_mL l hl, ← h], by rw [← lo_mL l hl, ← h]⟩
      · rintro ⟨e1, e2⟩
        unfold mL
        rw [← e1, ← e2, be_halves l hl]
    rw [h1, clr_self, clr_self]
    constructor
    · rintro ⟨g1, g2⟩ j hj hj2
      by_cases h : j < 64
      · rw [bit_hi l hl j h]; exact g1 (63 - j) (by omega)
      · rw [bit_lo l hl j (by omega) hj2]; exact g2 (127 - j) (by omega)
    · intro h
      constructor
      · intro j hj
        have := h (63 - j) (by omega) (by omega)
        rw [bit_hi l hl _ (by omega), show 63 - (63 - j) = j by omega] at this
        exact this
      · intro j hj
        have := h (127 - j) (by omega) (by omega)
        rw [bit_lo l hl _ (by omega) (by omega), show 127 - (127 - j) = j by omega] at this
        exact this
  unfold conP
  simp only [Bool.and_eq_true, beq_iff_eq]
  constructor
  · rintro ⟨h1, h2⟩
    have hc := clamp_le n
    refine ⟨by omega, by omega, ?_⟩
    intro j hj hj2
    exact (key (clamp n) hc).1 h1 j (by omega) hj2
  · rintro ⟨h0, h8, h⟩
    have hc : (clamp n : Int) = n := by unfold clamp; omega
    exact ⟨(key (clamp n) (clamp_le n)).2 (fun j hj hj2 => h j (by omega) hj2), hc.symm⟩

set_option maxHeartbeats 3200000 in
set_option maxRecDepth 100000 in
theorem rvalidp_any (l : List UInt8) (hl : l.length = 16) (n : Int) (hn : I64 n) (w : World) :
    Calls Tryd.prog 22 #[pv l n] w (RetS (.bool (conP l n l)) w) := by
  have hP : Pr (w.alloc (.cells (pl l n).toArray 35)) w.heap.size l n := (Pk.new w l n).pr
  have hB := (Below.refl w.heap.size w).alloc (Nat.le_refl _) (.cells (pl l n).toArray 35)
  have hci := con_iff l hl n
  have CI := hid hci
  clear hci
  generalize conP l n l = b at CI
  have z1 := hP.bits hl
  rw [show pv l n = .agg (pl l n).toArray from rfl]
  go_enter Tryd.func22, Tryd.ntmps22
  by_cases h0 : n < 0
  · have hb : b = false := by
      cases hq : b
      · rfl
      · have := (CI.out.1 hq).1; omega
    subst hb
    go_wp2_with fail
    go_ret
    exact ⟨rfl, hB⟩
  · by_cases h8 : 128 < n
    · have hb : b = false := by
        cases hq : b
        · rfl
        · have := (CI.out.1 hq).2.1; omega
      subst hb
      go_wp2_with fail
      go_ret
      exact ⟨rfl, hB⟩
    · obtain ⟨N, rfl⟩ := Int.eq_ofNat_of_zero_le (show 0 ≤ n by omega)
      go_wp2_with fail
      generalize w.alloc _ = w2 at hP hB z1 ⊢
      go_loopw [3] (fun i wr => ∃ k : Nat, N ≤ k ∧ k ≤ 128 ∧ i = .int .i64 k ∧ (∀ j : Nat, N ≤ j → j < k → bitV l j = 0) ∧ Below w2.heap.size w2 wr) (fun i _ => 128 - (intOf i).toNat)
      case atStart => exact ⟨N, Nat.le_refl _, by omega, rfl, fun j h1 h2 => absurd h2 (by omega), Below.refl _ _⟩
      case round =>
        obtain ⟨k, hk0, hk, rfl, hz, hbr⟩ := hrel
        have hPr := hP.below hbr (hP.lt hl)
        have HZ := hid hz
        clear hz
        by_cases hlt : k < 128
        · have hbit := fun w => rbit_any l hl k hlt w
          have hdef : ∃ x, x = bitV l k := ⟨_, rfl⟩
          obtain ⟨x, hx⟩ := hdef
          rw [← hx] at hbit
          have HX := hid hx
          clear hx
          go_wp2_with (with_reducible refine wpList_load_ry (op := ⟨some 19, _, _, _, _, _⟩) rfl (.tmp 18) rfl rfl hPr.ry hl ?_)
          with_reducible refine (hbit _).mono ?_
          rintro e3 w3 ⟨rfl, hb3⟩
          have hB3 := hbr.trans (hb3.mono hbr.size)
          by_cases hx0 : x = 0
          · subst hx0
            go_wp2_with fail
            go_roundw
            case rel => 
              refine ⟨k + 1, by omega, by omega, by go_num, ?_, hB3⟩
              intro j h1 h2
              by_cases hjk : j = k
              · subst hjk; exact HX.out.symm
              · exact HZ.out j h1 (by omega)
            case measure => simp [intOf]; omega
          · have hb : b = false := by
              cases hq : b
              · rfl
              · have := (CI.out.1 hq).2.2 k (by omega) hlt
                exact absurd (HX.out.trans this) hx0
            subst hb
            go_wp2_with fail
            go_ret
            exact ⟨rfl, hB.trans (hB3.mono hB.size)⟩
        · obtain rfl : k = 128 := by omega
          have hb : b = true := CI.out.2 ⟨by omega, by omega, fun j h1 h2 => HZ.out j (by omega) h2⟩
          subst hb
          go_wp2_with fail
          go_ret
          exact ⟨rfl, hB.trans (hbr.mono hB.size)⟩
end Go.Proofs.YthammgljcchloaaDoor
