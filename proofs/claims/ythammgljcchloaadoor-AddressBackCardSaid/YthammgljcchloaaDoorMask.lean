/-
  Mask: a prefix of the first bits of an address.
-/
import Derived.Test.YthammgljcchloaaDoorClr
import Derived.Laws.Tables
import Derived.BigRegion
import Derived.Deep.DeepCutAuto
namespace Go.Proofs.YthammgljcchloaaDoor
open Go.RowKit
set_option linter.unusedSimpArgs false
set_option linter.unusedVariables false

/-- a size between 0 and 128 -/
def clamp (n : Int) : Nat := min n.toNat 128
/-- the address whose first c bits are those of l, and no others -/
def mL (l : List UInt8) (c : Nat) : List UInt8 := beBytes (clr (64 - min c 64) (hiOf l)) 8 ++ beBytes (clr (64 - (c - 64)) (loOf l)) 8
theorem length_mL (l : List UInt8) (c : Nat) : (mL l c).length = 16 := by unfold mL; rw [List.length_append, length_beBytes, length_beBytes]
theorem clamp_le (n : Int) : clamp n ≤ 128 := by unfold clamp; omega
theorem hi_lt (l : List UInt8) (h : l.length = 16) : hiOf l < 18446744073709551616 := uint8_lt _ (by simp; omega)
theorem lo_lt (l : List UInt8) (h : l.length = 16) : loOf l < 18446744073709551616 := uint8_lt _ (by simp; omega)
theorem list16 (l : List UInt8) (h : l.length = 16) : ∃ b0 b1 b2 b3 b4 b5 b6 b7 b8 b9 b10 b11 b12 b13 b14 b15, l = [b0, b1, b2, b3, b4, b5, b6, b7, b8, b9, b10, b11, b12, b13, b14, b15] := by
  match l, h with
  | [b0, b1, b2, b3, b4, b5, b6, b7, b8, b9, b10, b11, b12, b13, b14, b15], _ => exact ⟨_, _, _, _, _, _, _, _, _, _, _, _, _, _, _, _, rfl⟩
theorem build_pfx (l : List UInt8) (n : Int) (h : l.length = 16) (w : World) : (Instr.build 35 #[(0, iv l), (1, .int .i64 n)]).run Tryd.prog w = .ok (pv l n) w := by
  obtain ⟨b0, b1, b2, b3, b4, b5, b6, b7, b8, b9, b10, b11, b12, b13, b14, b15, rfl⟩ := list16 l h
  exact run_build w 35 _ _ (by kernel_rfl)

theorem wpList_build_pfx {ops : Array Oper} {rest : List Oper} {op : Oper} {a : Act} {w : World} {Q : Exit → Act → World → Prop} {l : List UInt8} {n : Int} (hgd : op.guard = none) (x y : Operand) (ho : op.op = .build 35 #[(0, x), (1, y)])
    (hx : a.eval x = iv l) (hy : a.eval y = .int .i64 n) (hl : l.length = 16)
    (h : wpList Tryd.prog ops Q rest (a.put op.dst (pv l n)) w) : wpList Tryd.prog ops Q (op :: rest) a w :=
  wpList_plain hgd fun _ hK => by
    unfold Oper.wp execOp
    simp only [ho, List.map_toArray, List.map_cons, List.map_nil, hx, hy, Sem.run_bind, Sem.run_pure, Result.andThen_ok, build_pfx l n hl]
    exact hK _ _ h
set_option maxHeartbeats 3200000 in
set_option maxRecDepth 100000 in
theorem mask_any (l : List UInt8) (hl : l.length = 16) (n : Int) (hn : I64 n) (w : World) :
    Calls Tryd.prog 27 #[iv l, .int .i64 n] w (RetS (pv (mL l (clamp n)) (clamp n)) w) := by
  have hs := fun w => split_any l hl w
  have hh := hi_lt l hl
  have hlo := lo_lt l hl
  have hm : mL l (clamp n) = beBytes (clr (64 - min (clamp n) 64) (hiOf l)) 8 ++ beBytes (clr (64 - (clamp n - 64)) (loOf l)) 8 := rfl
  have hlen := length_mL l (clamp n)
  have HM := hid hm
  clear hm
  generalize mL l (clamp n) = M at HM hlen ⊢
  generalize hiOf l = H at hs hh HM
  generalize loOf l = L at hs hlo HM
  have hI := (Ik.new w l).below ((Below.refl (w.heap.size + 1) _).alloc (by simp) (.cells #[.int .u8 0, .int .u8 0, .int .u8 0, .int .u8 0, .int .u8 0, .int .u8 0, .int .u8 0, .int .u8 0, .int .u8 0, .int .u8 0, .int .u8 0, .int .u8 0, .int .u8 0, .int .u8 0, .int .u8 0, .int .u8 0, .int .i64 0] 35)) (Nat.lt_succ_self _)
  have hP := Pk.zero (w.alloc (.cells (row l) 23))
  rw [World.size_alloc] at hP
  have hB := two_below w (.cells (row l) 23) (.cells #[.int .u8 0, .int .u8 0, .int .u8 0, .int .u8 0, .int .u8 0, .int .u8 0, .int .u8 0, .int .u8 0, .int .u8 0, .int .u8 0, .int .u8 0, .int .u8 0, .int .u8 0, .int .u8 0, .int .u8 0, .int .u8 0, .int .i64 0] 35)
  rw [iv]
  go_enter Tryd.func27, Tryd.ntmps27
  go_upto_region 1 with (fail)
  generalize (w.alloc _).alloc _ = w2 at hI hP hB ⊢
  go_cut [1] (fun v wc => v = .int .i64 (clamp n) ∧ wc = w2)
  case first =>
    go_wp2_with fail
    all_goals go_meet
    all_goals (refine ⟨?_, rfl⟩; congr 1; unfold clamp; omega)
  case rest =>
    obtain ⟨rfl, rfl⟩ := hcut
    have hc := clamp_le n
    clear hn
    generalize clamp n = c at *
    go_wp2_with (with_reducible refine wpList_load_ip (op := ⟨some 11, _, _, _, _, _⟩) rfl (.tmp 2) rfl rfl hI hl ?_)
    with_reducible refine (hs _).mono ?_
    rintro e3 w3 ⟨rfl, hb3⟩
    have hP3 := hP.below hb3 hP.lt
    have hB3 := hB.trans (hb3.mono hB.size)
    clear hb3 hI hs hP hB
    have f0 := fun w => first_bits 0 (by omega) w
    have f64 := fun w => first_bits 64 (by omega) w
    rw [show ((0 : Nat) : Int) = 0 from rfl] at f0
    rw [show ((64 : Nat) : Int) = 64 from rfl] at f64
    have ha : ∀ (x k : Nat), x < 18446744073709551616 → k ≤ 64 → bits .and .u64 (x : Int) (ones k : Int) = (clr (64 - k) x : Int) := by
      intro x k hx hk
      rw [bits_and_u64_nat x (ones k) hx (ones_lt k), ones, and_mask x (64 - k) hx (by omega)]
    by_cases h64 : c < 64
    · have hm1 : M = beBytes (clr (64 - c) H) 8 ++ beBytes (clr 64 L) 8 := by rw [HM.out, show min c 64 = c by omega, show c - 64 = 0 by omega]
      have HM1 := hid hm1
      clear HM hm1
      have e1 := ha H c hh (by omega)
      have e2 : bits .and .u64 (L : Int) (ones 0 : Int) = (clr 64 L : Int) := ha L 0 hlo (by omega)
      clear ha
      go_wp2_with fail
      with_reducible refine (first_bits c (by omega) w3).mono ?_
      rintro e4 w3 ⟨rfl, rfl⟩
      go_wp2_with fail
      with_reducible refine (f0 _).mono ?_
      rintro e4 w3 ⟨rfl, rfl⟩
      go_wp2_with fail
      with_reducible refine (whole_any (clr (64 - c) H) (clr 64 L) (Nat.lt_of_le_of_lt (clr_le _ _) hh) (Nat.lt_of_le_of_lt (clr_le _ _) hlo) _).mono ?_
      rintro e4 w4 ⟨rfl, hb4⟩
      have hP4 := hP3.below hb4 hP3.lt
      have hB4 := hB3.trans (hb4.mono hB3.size)
      rw [← HM1.out]
      go_wp2_with (first
        | (with_reducible refine wpList_build_pfx (op := ⟨some 30, _, _, _, _, _⟩) rfl (.tmp 28) (.tmp 29) rfl rfl rfl hlen ?_)
        | (with_reducible refine wpList_store_pfx (op := ⟨none, _, _, _, _, _⟩) rfl (.tmp 4) (.tmp 30) rfl rfl rfl hP4 (length_zeros 16) hlen w.heap.size w hB4 (by omega) ?_; intro w7 hR7 hB7))
      exact bodyPost_ret (results_pfx rfl rfl hR7.out hlen) rfl ⟨rfl, hB7⟩
    · by_cases h65 : c = 64
      · subst h65
        have hm1 : M = beBytes (clr 0 H) 8 ++ beBytes (clr 64 L) 8 := HM.out
        have HM1 := hid hm1
        clear HM hm1
        have e1 : bits .and .u64 (H : Int) (ones 64 : Int) = (clr 0 H : Int) := ha H 64 hh (by omega)
        have e2 : bits .and .u64 (L : Int) (ones 0 : Int) = (clr 64 L : Int) := ha L 0 hlo (by omega)
        clear ha
        go_wp2_with fail
        with_reducible refine (f64 w3).mono ?_
        rintro e4 w3 ⟨rfl, rfl⟩
        go_wp2_with fail
        with_reducible refine (f0 w3).mono ?_
        rintro e4 w3 ⟨rfl, rfl⟩
        go_wp2_with fail
        with_reducible refine (whole_any (clr 0 H) (clr 64 L) (Nat.lt_of_le_of_lt (clr_le _ _) hh) (Nat.lt_of_le_of_lt (clr_le _ _) hlo) _).mono ?_
        rintro e4 w4 ⟨rfl, hb4⟩
        have hP4 := hP3.below hb4 hP3.lt
        have hB4 := hB3.trans (hb4.mono hB3.size)
        rw [← HM1.out]
        go_wp2_with (first
          | (with_reducible refine wpList_build_pfx (op := ⟨some 30, _, _, _, _, _⟩) rfl (.tmp 28) (.tmp 29) rfl rfl rfl hlen ?_)
          | (with_reducible refine wpList_store_pfx (op := ⟨none, _, _, _, _, _⟩) rfl (.tmp 4) (.tmp 30) rfl rfl rfl hP4 (length_zeros 16) hlen w.heap.size w hB4 (by omega) ?_; intro w7 hR7 hB7))
        exact bodyPost_ret (results_pfx rfl rfl hR7.out hlen) rfl ⟨rfl, hB7⟩
      · obtain ⟨d, rfl⟩ : ∃ d, c = 64 + d := ⟨c - 64, by omega⟩
        have hd0 : 0 < d := by omega
        clear h64 h65
        have hm1 : M = beBytes (clr 0 H) 8 ++ beBytes (clr (64 - d) L) 8 := by rw [HM.out, Nat.min_eq_right (by omega), show 64 + d - 64 = d by omega]
        have HM1 := hid hm1
        clear HM hm1
        have fd := first_bits d (by omega)
        have e1 : bits .and .u64 (H : Int) (ones 64 : Int) = (clr 0 H : Int) := ha H 64 hh (by omega)
        have e2 := ha L d hlo (by omega)
        clear ha
        go_wp2_with fail
        with_reducible refine (f64 w3).mono ?_
        rintro e4 w3 ⟨rfl, rfl⟩
        go_wp2_with fail
        rw [show (64 + (d : Int) - 64) = d by omega]
        with_reducible refine (fd w3).mono ?_
        rintro e4 w3 ⟨rfl, rfl⟩
        go_wp2_with fail
        with_reducible refine (whole_any (clr 0 H) (clr (64 - d) L) (Nat.lt_of_le_of_lt (clr_le _ _) hh) (Nat.lt_of_le_of_lt (clr_le _ _) hlo) _).mono ?_
        rintro e4 w4 ⟨rfl, hb4⟩
        have hP4 := hP3.below hb4 hP3.lt
        have hB4 := hB3.trans (hb4.mono hB3.size)
        rw [← HM1.out]
        go_wp2_with (first
          | (with_reducible refine wpList_build_pfx (op := ⟨some 30, _, _, _, _, _⟩) rfl (.tmp 28) (.tmp 29) rfl rfl rfl hlen ?_)
          | (with_reducible refine wpList_store_pfx (op := ⟨none, _, _, _, _, _⟩) rfl (.tmp 4) (.tmp 30) rfl rfl rfl hP4 (length_zeros 16) hlen w.heap.size w hB4 (by omega) ?_; intro w7 hR7 hB7))
        exact bodyPost_ret (results_pfx rfl rfl hR7.out hlen) rfl ⟨rfl, hB7⟩
end Go.Proofs.YthammgljcchloaaDoor
