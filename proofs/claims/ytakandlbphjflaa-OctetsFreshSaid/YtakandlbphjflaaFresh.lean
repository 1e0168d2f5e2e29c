import Derived.Test.YtakandlbphjflaaBitMath
import Derived.Test.YtakandlbphjflaaGrow
import Derived.Test.YtakandlbphjflaaMod
import Derived.Test.YtakandlbphjflaaSame
import Derived.Test.YtakandlbphjflaaKnown01
namespace Go.Proofs.Ytakandlbphjflaa
open Go.RowKit

theorem validB_full (l : List UInt8) : validB l (8 * (l.length : Int)) = true := by
  simp only [validB, decide_eq_true_eq]; omega

/-- what holds while the results are changed: the old row is as it was -/
structure FInv (w : World) (B : Nat) (l : List UInt8) (g2 n2 g3 n3 bx : Nat) (n : Int) (wr : World) : Prop where
  o2 : ∃ l2, l2.length = n2 ∧ Own wr g2 l2
  o3 : ∃ l3, l3.length = n3 ∧ Own wr g3 l3
  r : Own wr B (l ++ zeros 16)
  x : Box wr bx (some ⟨g3, 0, none⟩) n3 n3 n
  b : Below w.heap.size w wr
  lt1 : B < g2
  lt2 : g2 < g3
  lt3 : g3 < bx
  base : w.heap.size ≤ B

theorem FInv.set2 {w wr : World} {B g2 n2 g3 n3 bx : Nat} {l : List UInt8} {n : Int} (h : FInv w B l g2 n2 g3 n3 bx n wr) (j : Nat) (x : UInt8) (v : Value) (hv : v = bv x) :
    FInv w B l g2 n2 g3 n3 bx n (wr.setCell ⟨g2, j, none⟩ v) := by
  obtain ⟨l2, hl2, ho2⟩ := h.o2
  obtain ⟨l3, hl3, ho3⟩ := h.o3
  have := h.lt1; have := h.lt2; have := h.lt3; have := h.base
  exact ⟨⟨l2.set j x, by simpa using hl2, ho2.set j v x hv⟩, ⟨l3, hl3, ho3.set_other _ _ (by simp; omega)⟩, h.r.set_other _ _ (by simp; omega), h.x.set_other _ _ (by simp; omega), h.b.setCell (by simp; omega) _, h.lt1, h.lt2, h.lt3, h.base⟩

theorem FInv.set3 {w wr : World} {B g2 n2 g3 n3 bx : Nat} {l : List UInt8} {n : Int} (h : FInv w B l g2 n2 g3 n3 bx n wr) (j : Nat) (x : UInt8) (v : Value) (hv : v = bv x) :
    FInv w B l g2 n2 g3 n3 bx n (wr.setCell ⟨g3, j, none⟩ v) := by
  obtain ⟨l2, hl2, ho2⟩ := h.o2
  obtain ⟨l3, hl3, ho3⟩ := h.o3
  have := h.lt1; have := h.lt2; have := h.lt3; have := h.base
  exact ⟨⟨l2, hl2, ho2.set_other _ _ (by simp; omega)⟩, ⟨l3.set j x, by simpa using hl3, ho3.set j v x hv⟩, h.r.set_other _ _ (by simp; omega), h.x.set_other _ _ (by simp; omega), h.b.setCell (by simp; omega) _, h.lt1, h.lt2, h.lt3, h.base⟩

theorem inc_u8 (x : UInt8) : Value.int .u8 (((x.toNat : Int) + 1) % 256) = bv (x + 1) := by
  simp only [bv, UInt8.toNat_add]
  congr 1

set_option maxRecDepth 100000 in
set_option maxHeartbeats 4000000 in
theorem fresh_walk (a : Option Addr) (len cap : Nat) (l : List UInt8) (v n : Int) (w : World) (hb : IsB w a len cap l) (hcap : cap ≤ 140737488351232) (hv : U64 v) (hn : I64 n) :
    Calls Try.prog 9 #[.slice a len cap, .int .u64 v, .int .i64 n] w (RetS (.bool true) w) := by
  obtain ⟨v, rfl⟩ := Int.eq_ofNat_of_zero_le hv.1
  obtain ⟨p, hp⟩ := Int.eq_ofNat_of_zero_le (Int.emod_nonneg n (show (8 : Int) ≠ 0 by decide))
  have hp2 : p < 8 := by have := Int.emod_lt_of_pos n (show (0 : Int) < 8 by decide); omega
  have HP := hid hp
  clear hp
  have hle := hb.le
  have hl := hid hb.length
  have hmk := fun u => run_make_room ((len : Int) + 16) (len + 16) (by omega) (by omega) u
  go_enter Try.func9, Try.ntmps9
  go_wp2_with (with_reducible refine wpList_append_room (o := ⟨some 21, _, _, _, _, _⟩) rfl (.tmp 19) (.tmp 20) rfl w.heap.size 0 (len + 16) rfl a len cap rfl (zeros (len + 16)) l (Own.new _ _) (hb.below ((Below.refl _ _).alloc (Nat.le_refl _) _)) (by omega) (by rw [length_zeros]; omega) w.heap.size w ((Below.refl _ _).alloc (Nat.le_refl _) _) (Nat.le_refl _) ?_; intro w1 HO hB1)
  have R1 : Hid (Own w1 w.heap.size (l ++ zeros 16)) := hid (by
    have := HO.out
    rw [Nat.zero_add, List.take_zero, List.nil_append, show (zeros (len + 16)).drop len = zeros 16 from by simp [zeros]] at this
    exact this)
  have hG : w.heap.size < w1.heap.size := R1.out.lt
  have J1 := R1.out.isB_cap len (len + 16) hl.out (by omega) (by omega) (by omega)
  have V1 : Hid (validB l (8 * (len : Int)) = true) := hid (by rw [← hl.out]; exact validB_full l)
  clear HO hmk
  refine (mod_any n 8 _ (by decide) (by decide) hn).mono ?_
  rintro e w' ⟨rfl, rfl⟩
  rw [HP.out]
  go_wp2_with fail
  refine (append_any _ len (len + 16) l v (1 + (p : Int)) (p + 1) _ J1 (by omega) hv ⟨by omega, by omega⟩ (by omega)).mono ?_
  rintro e w2 ⟨g2, rfl, hg2, hO2, hB2⟩
  rw [Int.toNat_natCast] at *
  have L2 : (l ++ beBytes v (p + 1)).length = len + (p + 1) := by rw [List.length_append, length_beBytes, hl.out]
  generalize l ++ beBytes v (p + 1) = l2 at *
  rw [L2]
  have R2 := hid (R1.out.below hB2 hG)
  have B2 := seq hB1 hB2
  have O2 := hid hO2
  have hg2' := hO2.lt
  have J2 := J1.below hB2
  have M2 := hid L2
  clear L2 hO2 hB1 hB2 R1 J1
  go_wp2_with fail
  have BX := Box.new w2 (some ⟨w.heap.size, 0, none⟩) len (len + 16) (8 * (len : Int))
  refine (appendBits_yes _ len (len + 16) l (8 * (len : Int)) v 64 _ (J2.below ((Below.refl _ _).alloc (Nat.le_refl _) (.cells #[.slice (some ⟨w.heap.size, 0, none⟩) len (len + 16), .int .i64 (8 * (len : Int))] 24))) V1.out ⟨by omega, by omega⟩ (by omega) (by omega) (by omega) hv).mono ?_
  rintro e w3 ⟨g3, rfl, hg3, hO3, hB3⟩
  rw [show Int.toNat (8 * (len : Int)) = 8 * len from by omega, Int.toNat_natCast, show Int.toNat 64 = 64 from rfl, show 8 * (len : Int) + 64 = ((8 * len + 64 : Nat) : Int) from by omega] at *
  have L3 := length_appTo l (8 * len) v 64 (by rw [hl.out]; omega) 64
  rw [show (8 * len + 64 + 7) / 8 = len + 8 from by omega] at L3
  generalize appTo l (8 * len) v 64 64 = l3 at *
  rw [L3]
  have R3 := hid ((R2.out.alloc _).below hB3 (R2.out.alloc _).lt)
  have B3 := seq (B2.alloc B2.size _) hB3
  have O3 := hid hO3
  have O23 := hid ((O2.out.alloc _).below hB3 (O2.out.alloc _).lt)
  have hs3 := hB3.size
  have hg3' := hO3.lt
  simp only [World.size_alloc] at hg3 hs3
  have M3 := hid L3
  clear L3 hO3 R2 B2 O2 hB3 BX J2
  have BX := Box.new w3 (some ⟨g3, 0, none⟩) (len + 8) (len + 8) ((8 * len + 64 : Nat) : Int)
  have R4 := hid (R3.out.alloc (.cells #[.slice (some ⟨g3, 0, none⟩) (len + 8) (len + 8), .int .i64 ((8 * len + 64 : Nat) : Int)] 24))
  go_wp2
  have F0 : FInv w w.heap.size l g2 (len + (p + 1)) g3 (len + 8) w3.heap.size ((8 * len + 64 : Nat) : Int) (w3.alloc (.cells #[.slice (some ⟨g3, 0, none⟩) (len + 8) (len + 8), .int .i64 ((8 * len + 64 : Nat) : Int)] 24)) :=
    ⟨⟨_, M2.out, O23.out.alloc _⟩, ⟨_, M3.out, O3.out.alloc _⟩, R4.out, BX, B3.alloc B3.size _, by omega, by omega, hg3', Nat.le_refl _⟩
  have cgen : ((8 * len + 64 : Nat) : Int) = 8 * (len : Int) + 64 := by omega
  rw [cgen] at F0
  clear cgen BX R4 O3 O23 R3 B3 M2 M3
  go_loopw [12] (fun t wr => ∃ i : Nat, i ≤ len + (p + 1) ∧ t = .int .i64 i ∧ FInv w w.heap.size l g2 (len + (p + 1)) g3 (len + 8) w3.heap.size (8 * (len : Int) + 64) wr) (fun t _ => len + (p + 1) - (intOf t).toNat)
  case atStart => exact ⟨0, Nat.zero_le _, rfl, F0⟩
  case round =>
    obtain ⟨i, hi, rfl, hF⟩ := hrel
    clear F0
    by_cases hlt : i < len + (p + 1)
    · obtain ⟨l2', hl2', ho2'⟩ := hF.o2
      have d1 := ho2'.cell i (by omega)
      have d2 := ho2'.frozen i
      have hFs := fun v x hv => FInv.set2 hF i x v hv
      have HF := hid hFs
      clear hFs hF ho2' hl2'
      go_wp2
      go_roundw
      case rel => exact ⟨i + 1, by omega, by go_num, HF.out _ _ (by rw [← List.getD_eq_getElem?_getD]; exact inc_u8 _)⟩
      case measure => simp [intOf]; omega
    · obtain rfl : i = len + (p + 1) := by omega
      go_wp2
      go_loopw [13] (fun t wr => ∃ i : Nat, i ≤ len + 8 ∧ t = .int .i64 i ∧ FInv w w.heap.size l g2 (len + (p + 1)) g3 (len + 8) w3.heap.size (8 * (len : Int) + 64) wr) (fun t _ => len + 8 - (intOf t).toNat)
      case atStart => exact ⟨0, Nat.zero_le _, rfl, hF⟩
      case round =>
        obtain ⟨i, hi, rfl, hF⟩ := hrel
        have x0 := hF.x.c0
        by_cases hlt : i < len + 8
        · obtain ⟨l3', hl3', ho3'⟩ := hF.o3
          have d1 := ho3'.cell i (by omega)
          have d2 := ho3'.frozen i
          have hFs := fun v x hv => FInv.set3 hF i x v hv
          have HF := hid hFs
          clear hFs hF ho3' hl3'
          go_wp2
          go_roundw
          case rel => exact ⟨i + 1, by omega, by go_num, HF.out _ _ (by rw [← List.getD_eq_getElem?_getD]; exact inc_u8 _)⟩
          case measure => simp [intOf]; omega
        · obtain rfl : i = len + 8 := by omega
          have HF := hid hF
          clear hF
          go_wp2
          have hz : ∀ i, len ≤ i → i < len + 16 → wr.cell? ⟨w.heap.size, i, none⟩ = some (.int .u8 0) := by
            intro i h1 h2
            rw [HF.out.r.cell i (by rw [List.length_append, length_zeros, hl.out]; omega), List.getD_eq_getElem?_getD, List.getElem?_append_right (by rw [hl.out]; exact h1)]
            simp only [zeros, List.getElem?_replicate]
            split <;> rfl
          have HZ := hid hz
          clear hz
          go_loop [15] (fun t => ∃ i : Nat, len ≤ i ∧ i ≤ len + 16 ∧ t = .int .i64 i) (fun t => len + 16 - (intOf t).toNat)
          case atStart => exact ⟨len, Nat.le_refl _, by omega, rfl⟩
          case round =>
            obtain ⟨i, hi1, hi2, rfl⟩ := hrel
            by_cases hlt : i < len + 16
            · have d1 := HZ.out i hi1 hlt
              go_wp2
              go_round
              case rel => exact ⟨i + 1, by omega, by omega, by go_num⟩
              case measure => simp [intOf]; omega
            · obtain rfl : i = len + 16 := by omega
              go_wp2_with fail
              refine (known_any _).mono ?_
              rintro e w5 ⟨rfl, hB5⟩
              have J6 := (HF.out.r.below hB5 HF.out.r.lt).isB_cap len (len + 16) hl.out (by omega) (by omega) (by omega)
              have B6 := seq HF.out.b hB5
              go_wp2_with fail
              refine (same_any _ len (len + 16) l a len cap l _ J6 (hb.below B6)).mono ?_
              rintro e w6 ⟨rfl, hB6⟩
              have B7 := seq B6 hB6
              go_wp2
              go_ret
              exact ⟨ret_bool (by simp), B7⟩
end Go.Proofs.Ytakandlbphjflaa
