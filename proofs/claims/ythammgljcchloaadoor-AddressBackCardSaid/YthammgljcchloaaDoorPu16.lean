/-
  strconv.ParseUint at base 16, 16 bits, of at most four bytes; readGroup.
-/
import Derived.Test.YthammgljcchloaaDoorShelf
import Derived.Test.YthammgljcchloaaDoorGl
import Derived.Lib.ConvBytes
import Derived.Laws.Strings3
import Derived.Laws.Closers25
import Derived.Laws.Closers25b
import Derived.BigCall
import Derived.BigGuard
namespace Go.Proofs.YthammgljcchloaaDoor
open Go.RowKit

/-- the value of a hexadecimal digit of either case -/
def hexv (c : UInt8) : Option Nat :=
  if 48 ≤ c.toNat ∧ c.toNat ≤ 57 then some (c.toNat - 48) else if 97 ≤ c.toNat ∧ c.toNat ≤ 102 then some (c.toNat - 87) else if 65 ≤ c.toNat ∧ c.toNat ≤ 70 then some (c.toNat - 55) else none
def hexl : Nat → List UInt8 → Option Nat
  | a, [] => some a
  | a, c :: l => match hexv c with | none => none | some d => hexl (16 * a + d) l
/-- the number of a group -/
def rgroup (l : List UInt8) : Option Nat := if l = [] ∨ 4 < l.length then none else hexl 0 l

theorem low_table : ∀ c : Fin 256, ∃ L : Fin 256, (c.val ||| 32) = L.val ∧ (¬ (48 ≤ c.val ∧ c.val ≤ 57) →
    (¬ (97 ≤ L.val ∧ L.val ≤ 122) ∧ hexv (UInt8.ofNat c.val) = none) ∨ (97 ≤ L.val ∧ L.val ≤ 102 ∧ hexv (UInt8.ofNat c.val) = some (L.val - 87)) ∨ (102 < L.val ∧ L.val ≤ 122 ∧ hexv (UInt8.ofNat c.val) = none)) := by
  decide +kernel

theorem low_fact (c : UInt8) : ∃ L : Nat, bits .or .u8 (c.toNat : Int) 32 = (L : Int) ∧ L < 256 ∧ (¬ (48 ≤ c.toNat ∧ c.toNat ≤ 57) →
    (¬ (97 ≤ L ∧ L ≤ 122) ∧ hexv c = none) ∨ (97 ≤ L ∧ L ≤ 102 ∧ hexv c = some (L - 87)) ∨ (102 < L ∧ L ≤ 122 ∧ hexv c = none)) := by
  obtain ⟨L, h1, h2⟩ := low_table ⟨c.toNat, c.toNat_lt⟩
  have e : UInt8.ofNat c.toNat = c := by simp
  simp only [e] at h2
  refine ⟨L.val, ?_, L.isLt, h2⟩
  rw [← h1]
  exact bits_or_u8_nat c.toNat 32 c.toNat_lt (by decide)

theorem below_bytes (w : World) (e : TypeId) (s : ByteArray) : Below w.heap.size w (Lib.bytesWorld w e s) :=
  ⟨rfl, rfl, rfl, by rw [Lib.bytesWorld_size]; omega, fun k hk => Lib.bytesWorld_at_old w e s k hk⟩

set_option maxHeartbeats 8000000 in
set_option maxRecDepth 100000 in
theorem parse_hex (t : ByteArray) (w : World) (h4 : t.size ≤ 4) (hne : t.size ≠ 0) :
    Calls Tryd.prog 92 #[.string t, .int .i64 16, .int .i64 16] w fun e w' =>
      ((∃ n : Nat, hexl 0 t.data.toList = some n ∧ n < 65536 ∧ e = .returned (.tuple #[.int .u64 n, .nilIface])) ∨ (hexl 0 t.data.toList = none ∧ e = .returned (.tuple #[.int .u64 0, .iface 109 (.int .i64 2)]))) ∧ Below w.heap.size w w' := by
  have hcv := Lib.run_convert_string_bytes (P := Tryd.prog) w 9 26 5 t (u := .string) Tryd.underlying9 Tryd.underlying26 Tryd.underlying5
  have hB : ∀ j, j < t.size → (Lib.bytesWorld w 5 t).cell? ⟨w.heap.size, j, none⟩ = some (.int .u8 (t.data.toList.getD j 0).toNat) := fun j hj => Lib.bytesWorld_cell w 5 t j hj
  have hBel : Below w.heap.size w (Lib.bytesWorld w 5 t) := below_bytes w 5 t
  obtain ⟨W1, hW1⟩ : ∃ W1, W1 = Lib.bytesWorld w 5 t := ⟨_, rfl⟩
  rw [← hW1] at hcv hB hBel
  clear hW1
  have hLn : t.data.toList.length = t.size := by rw [Array.length_toList]; rfl
  have hemp : t.toList.isEmpty = false := by
    rw [← decide_eq_emptyBytes]
    exact decide_eq_false (fun h => hne (by rw [h]; rfl))
  obtain ⟨bs, hL⟩ : ∃ bs, bs = t.data.toList := ⟨_, rfl⟩
  rw [← hL] at hB hLn ⊢
  clear hL
  have hmv : IntKind.u64.wrap (IntKind.u64.wrap 65536 - 1) = 65535 := by
    rw [IntKind.wrap_u64, IntKind.wrap_u64]
    decide
  go_enter Tryd.func92, Tryd.ntmps92
  go_wp2
  go_loop [12, 13, 101] (fun vu vn vi => ∃ (k acc : Nat) (a : Int), vu = .bool false ∧ vn = .int .u64 a ∧ vi = .int .i64 k ∧ k ≤ t.size ∧ Hid (a = (acc : Int) ∧ acc < 16 ^ k ∧ hexl 0 bs = hexl acc (bs.drop k)))
    (fun _ _ vi => t.size - (intOf vi).toNat)
  case atStart => exact ⟨0, 0, 0, rfl, rfl, rfl, by omega, rfl, by decide, rfl⟩
  case round =>
    obtain ⟨k, acc, a, rfl, rfl, rfl, hk, hh⟩ := hrel
    obtain ⟨ha, hacc, hdec⟩ := hh.out
    clear hh
    by_cases hkn : k < t.size
    · have hpow : 16 ^ k ≤ 16 ^ 3 := Nat.pow_le_pow_right (by decide) (by omega)
      have hps : 16 ^ (k + 1) = 16 * 16 ^ k := by rw [Nat.pow_succ, Nat.mul_comm]
      have a0 : 0 ≤ a := by omega
      have a1 : a ≤ 4095 := by omega
      have hc := hB k hkn
      have hdrop : bs.drop k = bs[k]'(by omega) :: bs.drop (k + 1) := List.drop_eq_getElem_cons (by omega)
      have hget : bs.getD k 0 = bs[k]'(by omega) := by simp [List.getD, List.getElem?_eq_getElem (show k < bs.length by omega)]
      rw [hdrop] at hdec
      rw [hget] at hc
      generalize bs[k]'(by omega) = c at hc hdec
      have hc256 : c.toNat < 256 := c.toNat_lt
      clear hB hdrop hget
      by_cases hdig : 48 ≤ c.toNat ∧ c.toNat ≤ 57
      · obtain ⟨hd0, hd1⟩ := hdig
        have hF : hexl acc (c :: bs.drop (k + 1)) = hexl (16 * acc + (c.toNat - 48)) (bs.drop (k + 1)) := by simp [hexl, hexv, hd0, hd1]
        have HN : Hid (a * 16 + ((c.toNat : Int) - 48) = ((16 * acc + (c.toNat - 48) : Nat) : Int) ∧ 16 * acc + (c.toNat - 48) < 16 ^ (k + 1) ∧ hexl 0 bs = hexl (16 * acc + (c.toNat - 48)) (bs.drop (k + 1))) := hid ⟨by omega, by omega, hdec.trans hF⟩
        clear hacc hF hdec ha hpow hps
        go_wp2
        refine ⟨⟨k + 1, 16 * acc + (c.toNat - 48), a * 16 + ((c.toNat : Int) - 48), rfl, (by first | rfl | (congr 1; omega)), (by first | rfl | (congr 1; omega)), by omega, HN⟩, by simp [intOf]; omega⟩
      · obtain ⟨L, hL, hL256, hLc⟩ := low_fact c
        have hL9 : (c.toNat : Int) = 95 → bits .or .u8 95 32 = (L : Int) := fun h => by rw [← hL, h]
        rcases hLc hdig with ⟨hn, hx⟩ | ⟨hn, hn2, hx⟩ | ⟨hn, hn2, hx⟩
        · have hF : hexl acc (c :: bs.drop (k + 1)) = none := by simp [hexl, hx]
          rw [hF] at hdec
          have HD := hid hdec
          clear hacc hF ha hdec hLc hpow hps
          go_wp2_with (go_at_call 104; refine (Tryd.internal_strconv_lower _ _).mono ?_; rintro e w' ⟨rfl, rfl⟩; first | rw [hL] | rw [hL9 (by assumption)])
          all_goals first | (exfalso; omega) | (go_ret2; exact ⟨Or.inr ⟨HD.out, rfl⟩, hBel⟩) | skip
        · have hF : hexl acc (c :: bs.drop (k + 1)) = hexl (16 * acc + (L - 87)) (bs.drop (k + 1)) := by simp [hexl, hx]
          have HN : Hid (a * 16 + ((L : Int) - 97 + 10) = ((16 * acc + (L - 87) : Nat) : Int) ∧ 16 * acc + (L - 87) < 16 ^ (k + 1) ∧ hexl 0 bs = hexl (16 * acc + (L - 87)) (bs.drop (k + 1))) := hid ⟨by omega, by omega, hdec.trans hF⟩
          clear hacc hF hdec ha hLc hpow hps
          go_wp2_with (go_at_call 104; refine (Tryd.internal_strconv_lower _ _).mono ?_; rintro e w' ⟨rfl, rfl⟩; first | rw [hL] | rw [hL9 (by assumption)])
          all_goals first | (exfalso; omega) | skip
          all_goals refine ⟨⟨k + 1, 16 * acc + (L - 87), a * 16 + ((L : Int) - 97 + 10), rfl, (by first | rfl | (congr 1; omega)), (by first | rfl | (congr 1; omega)), by omega, HN⟩, by simp [intOf]; omega⟩
        · have hF : hexl acc (c :: bs.drop (k + 1)) = none := by simp [hexl, hx]
          rw [hF] at hdec
          have HD := hid hdec
          clear hacc hF ha hdec hLc hpow hps
          go_wp2_with (go_at_call 104; refine (Tryd.internal_strconv_lower _ _).mono ?_; rintro e w' ⟨rfl, rfl⟩; first | rw [hL] | rw [hL9 (by assumption)])
          all_goals first | (exfalso; omega) | (go_ret2; exact ⟨Or.inr ⟨HD.out, rfl⟩, hBel⟩) | skip
    · have hkk : k = t.size := by omega
      subst hkk
      have hF : hexl acc (bs.drop t.size) = some acc := by rw [List.drop_eq_nil_of_le (by omega)]; rfl
      rw [hF] at hdec
      have hpow : 16 ^ t.size ≤ 16 ^ 4 := Nat.pow_le_pow_right (by decide) (by omega)
      subst ha
      have HD := hid hdec
      have HA : Hid (acc < 65536) := hid (by omega)
      clear hacc hF hdec hpow
      go_wp2
      go_ret2
      exact ⟨Or.inl ⟨acc, HD.out, HA.out, rfl⟩, hBel⟩
end Go.Proofs.YthammgljcchloaaDoor
