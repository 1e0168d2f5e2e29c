/-
  The reference's bits of an address.
-/
import Derived.Test.YthammgljcchloaaDoorJoin
namespace Go.Proofs.YthammgljcchloaaDoor
open Go.RowKit
set_option linter.unusedSimpArgs false
set_option linter.unusedVariables false

def bitV (l : List UInt8) (i : Nat) : Nat := (l.getD (i / 8) 0).toNat / 2 ^ (7 - i % 8) % 2
theorem bitV_lt (l : List UInt8) (i : Nat) : bitV l i < 2 := Nat.mod_lt _ (by decide)
theorem byte_at (L : List UInt8) (j : Nat) (hj : j < L.length) : uintOf L / 256 ^ (L.length - 1 - j) % 256 = (L.getD j 0).toNat := by
  have e : L = (L.take j ++ [L.getD j 0]) ++ L.drop (j + 1) := by
    rw [List.append_assoc]
    conv => lhs; rw [← List.take_append_drop j L]
    congr 1
    rw [List.drop_eq_getElem_cons hj]
    simp [List.getD_eq_getElem?_getD, hj]
  have hm : (L.drop (j + 1)).length = L.length - 1 - j := by simp; omega
  have hb := (L.getD j 0).toNat_lt
  have h1 : uintOf [L.getD j 0] = (L.getD j 0).toNat := by simp [uintOf]
  have e2 := congrArg uintOf e
  rw [uintOf_append, uintOf_append, hm, h1] at e2
  have hB := uintOf_lt (L.drop (j + 1))
  rw [hm] at hB
  rw [e2]
  generalize 256 ^ (L.length - 1 - j) = P at *
  have hP : 0 < P := by omega
  rw [Nat.mul_comm _ P, Nat.mul_add_div hP, Nat.div_eq_of_lt hB]
  simp
theorem bit_of_byte (x j : Nat) (hj : j < 8) (k : Nat) : x / 2 ^ (8 * k + j) % 2 = x / 256 ^ k % 256 / 2 ^ j % 2 := by
  have e : (256 : Nat) ^ k = 2 ^ (8 * k) := by rw [Nat.pow_mul]
  rw [e, Nat.pow_add, ← Nat.div_div_eq_div_mul]
  generalize x / 2 ^ (8 * k) = y
  rcases (by omega : j = 0 ∨ j = 1 ∨ j = 2 ∨ j = 3 ∨ j = 4 ∨ j = 5 ∨ j = 6 ∨ j = 7) with rfl | rfl | rfl | rfl | rfl | rfl | rfl | rfl <;> simp <;> omega
theorem bit_hi (l : List UInt8) (hl : l.length = 16) (i : Nat) (hi : i < 64) : bitV l i = hiOf l / 2 ^ (63 - i) % 2 := by
  have h8 : (l.take 8).length = 8 := by simp; omega
  have := byte_at (l.take 8) (i / 8) (by omega)
  rw [h8] at this
  have e : (l.take 8).getD (i / 8) 0 = l.getD (i / 8) 0 := by
    simp only [List.getD_eq_getElem?_getD, List.getElem?_take]
    rw [if_pos (by omega)]
  rw [e] at this
  unfold bitV hiOf
  rw [show 63 - i = 8 * (8 - 1 - i / 8) + (7 - i % 8) by omega, bit_of_byte _ _ (by omega), this]
theorem bit_lo (l : List UInt8) (hl : l.length = 16) (i : Nat) (h1 : 64 ≤ i) (hi : i < 128) : bitV l i = loOf l / 2 ^ (127 - i) % 2 := by
  have h8 : (l.drop 8).length = 8 := by simp; omega
  have := byte_at (l.drop 8) (i / 8 - 8) (by omega)
  rw [h8] at this
  have e : (l.drop 8).getD (i / 8 - 8) 0 = l.getD (i / 8) 0 := by
    simp only [List.getD_eq_getElem?_getD, List.getElem?_drop]
    rw [show 8 + (i / 8 - 8) = i / 8 by omega]
  rw [e] at this
  unfold bitV loOf
  rw [show 127 - i = 8 * (8 - 1 - (i / 8 - 8)) + (7 - i % 8) by omega, bit_of_byte _ _ (by omega), this]

set_option maxHeartbeats 1600000 in
set_option maxRecDepth 100000 in
theorem rbit_any (l : List UInt8) (hz : l.length = 16) (i : Nat) (hi : i < 128) (w : World) :
    Calls Tryd.prog 49 #[iv l, .int .i64 i] w (RetS (.int .u8 (bitV l i)) w) := by
  have hI := Ik.new w l
  have hB := (Below.refl w.heap.size w).alloc (Nat.le_refl _) (.cells (row l) 23)
  have z1 := hI.cell (i / 8) (by omega)
  have hb := (l.getD (i / 8) 0).toNat_lt
  have hdef : bitV l i = (l.getD (i / 8) 0).toNat / 2 ^ (7 - i % 8) % 2 := rfl
  have HD := hid hdef
  clear hdef
  generalize (l.getD (i / 8) 0).toNat = c at *
  rw [iv]
  go_enter Tryd.func49, Tryd.ntmps49
  go_wp2_with fail
  go_ret
  refine ⟨ret_int ?_, hB⟩
  have hc : c / 2 ^ (7 - i % 8) < 256 := Nat.lt_of_le_of_lt (Nat.div_le_self _ _) (by simpa using hb)
  have e1 : ((c : Int) / 2 ^ (7 - i % 8)) = ((c / 2 ^ (7 - i % 8) : Nat) : Int) := by simp
  rw [e1, show (1 : Int) = ((1 : Nat) : Int) from rfl, bits_and_u8_nat _ 1 hc (by decide), HD.out, Nat.and_one_is_mod]

theorem low_zero (x : Nat) : ∀ k, x % 2 ^ k = 0 ↔ ∀ j, j < k → x / 2 ^ j % 2 = 0
  | 0 => by simp [Nat.mod_one]
  | k + 1 => by
    rw [Nat.pow_succ, Nat.mod_mul]
    have ih := low_zero x k
    have hp := Nat.two_pow_pos k
    constructor
    · intro h j hj
      have h1 : x % 2 ^ k = 0 := by omega
      have h2 : 2 ^ k * (x / 2 ^ k % 2) = 0 := by omega
      by_cases hjk : j = k
      · subst hjk
        rcases Nat.mul_eq_zero.1 h2 with h3 | h3
        · omega
        · exact h3
      · exact ih.1 h1 j (by omega)
    · intro h
      rw [ih.2 fun j hj => h j (by omega), h k (by omega)]
      simp
theorem clr_self (k x : Nat) : x = clr k x ↔ ∀ j, j < k → x / 2 ^ j % 2 = 0 := by
  rw [← low_zero x k]
  have h := Nat.div_add_mod x (2 ^ k)
  unfold clr
  rw [Nat.mul_comm] at h
  omega
theorem be_uint (L : List UInt8) : beBytes (uintOf L) L.length = L := by
  apply List.ext_getElem
  · rw [length_beBytes]
  · intro j h1 h2
    have hb := byte_at L j h2
    have e := beBytes_getD (uintOf L) L.length j h2
    have hx := (L.getD j 0).toNat_lt
    rw [List.getD_eq_getElem?_getD, List.getElem?_eq_getElem h1, Option.getD_some] at e
    rw [e]
    apply UInt8.toNat_inj.1
    unfold beByte
    rw [show 2 ^ (8 * (L.length - 1 - j)) = 256 ^ (L.length - 1 - j) by rw [Nat.pow_mul]]
    rw [UInt8.toNat_ofNat']
    have : L[j].toNat = (L.getD j 0).toNat := by simp [List.getD_eq_getElem?_getD, h2]
    rw [this, ← hb]
theorem be_halves (l : List UInt8) (hl : l.length = 16) : beBytes (hiOf l) 8 ++ beBytes (loOf l) 8 = l := by
  have h1 := be_uint (l.take 8)
  have h2 := be_uint (l.drop 8)
  rw [show (l.take 8).length = 8 by simp; omega] at h1
  rw [show (l.drop 8).length = 8 by simp; omega] at h2
  unfold hiOf loOf
  rw [h1, h2, List.take_append_drop]
end Go.Proofs.YthammgljcchloaaDoor
