import Derived.Test.YtgacmiobfopoeaaZeroLaw
import Derived.Test.YtgacmiobfopoeaaFb
import Derived.BigRegion
import Derived.Deep.DeepCutAuto
namespace Go.Proofs.Ytgacmiobfopoeaa
open Go.RowKit

theorem bsum_set : ∀ (l : List UInt8) (p j : Nat) (v : UInt8), j < l.length → bsum p (l.set j v) + (l.getD j 0).toNat * 256 ^ ((p + j + 1) % 2) = bsum p l + v.toNat * 256 ^ ((p + j + 1) % 2)
  | [], _, _, _, h => by simp at h
  | x :: l, p, 0, v, _ => by simp [bsum]; omega
  | x :: l, p, j + 1, v, h => by
    have ih := bsum_set l (p + 1) j v (by simpa using h)
    rw [show p + 1 + j + 1 = p + (j + 1) + 1 from by omega] at ih
    simp only [List.set_cons_succ, bsum, List.getD_cons_succ]
    omega

/-- an exchange of two bytes whose places are both even or both odd -/
theorem bsum_swap (l : List UInt8) (a b : Nat) (ha : a < l.length) (hb : b < l.length) (hab : a % 2 = b % 2) : bsum 0 ((l.set a (l.getD b 0)).set b (l.getD a 0)) = bsum 0 l := by
  have h1 := bsum_set l 0 a (l.getD b 0) ha
  have h2 := bsum_set (l.set a (l.getD b 0)) 0 b (l.getD a 0) (by rw [List.length_set]; exact hb)
  have e : (l.set a (l.getD b 0)).getD b 0 = l.getD b 0 := by
    by_cases h : a = b
    · subst h; simp [List.getD_eq_getElem?_getD, ha]
    · simp [List.getD_eq_getElem?_getD, h]
  rw [e] at h2
  rw [show (0 + a + 1) % 2 = (0 + b + 1) % 2 from by omega] at h1
  omega

theorem swap_len (l : List UInt8) (a b : Nat) (x y : UInt8) : ((l.set a x).set b y).length = l.length := by simp

theorem u8_of_cell {o : Option Value} {x y : UInt8} (h : o = some (.int .u8 (x.toNat : Int))) (k : o = some (.int .u8 (y.toNat : Int))) : x = y := by
  rw [h] at k
  simp at k
  exact UInt8.toNat_inj.1 (by omega)

theorem FB.drew {w : World} {g : Nat} {l : List UInt8} (h : FB w g l) : FB w.drew g l := h.below ((Below.refl w.heap.size w).drew) h.1

set_option maxHeartbeats 4000000 in
theorem order_walk (a : Option Addr) (len cap : Nat) (l : List UInt8) (n m : Int) (w : World) (hb : IsB w a len cap l) (hcap : cap ≤ 140737488351232) (hn : I64 n) (hm : I64 m) :
    Calls Try.prog 10 #[.slice a len cap, .int .i64 n, .int .i64 m] w (RetS (.bool true) w) := by
  have hle := hb.le
  have K := hb.take (len / 2 * 2) (by omega)
  have hL := hid K.length
  have HE : Hid (len / 2 * 2 % 2 = 0) := hid (by omega)
  have hle2 : len / 2 * 2 ≤ len := by omega
  generalize l.take (len / 2 * 2) = l2 at *
  go_enter Try.func10, Try.ntmps10
  go_wp2_with (with_reducible refine wpList_append_bytes (o := ⟨some 15, _, _, _, _, _⟩) rfl (.tmp 8) (.tmp 14) rfl (.slice (some ⟨w.heap.size, 0, none⟩) 0 0) rfl a (len / 2 * 2) cap rfl w.heap.size [] l2 (gr_new w _ (Nat.le_refl _)) (K.below ((Below.refl _ _).alloc (Nat.le_refl _) _)) (by simp; omega) w ((Below.refl _ _).alloc (Nat.le_refl _) _) (by simp) ?_; intro v2 w2 hG2 hB2 _)
  have hG := hG2.out
  rw [List.nil_append] at hG
  clear hG2
  obtain ⟨ga, gc, rfl, J⟩ := hG.isB (by rw [hL.out]; omega)
  have hln := hL.out
  generalize len / 2 * 2 = nn at *
  rw [hln] at J hG ⊢
  refine (sum_any ga nn gc l2 _ J).mono ?_
  rintro e w3 ⟨rfl, hB3⟩
  have J3 := J.below hB3
  have B3 := seq hB2 hB3
  have G3 := hG.below hB3
  clear J hB2 hB3 hG
  by_cases h0 : nn = 0
  · subst h0
    have hl2 : l2 = [] := List.eq_nil_of_length_eq_zero hln
    subst hl2
    rw [show sumN [] = 0 from by decide]
    go_wp2_with fail
    refine (known_any _).mono ?_
    rintro e w4 ⟨rfl, hB4⟩
    have B4 := seq B3 hB4
    go_wp2
    go_ret
    exact ⟨rfl, B4⟩
  · have hh0 : ((nn : Int) == 0) = false := by simp; omega
    obtain ⟨g, c2, e, hgB, hF, hc1, hc2⟩ := G3.fb (by omega)
    simp at e
    obtain ⟨rfl, hx, rfl⟩ := e
    clear hx
    have HC2 : Hid (I64 (gc : Int)) := hid ⟨by omega, by omega⟩
    clear hc2
    obtain ⟨h, rfl⟩ : ∃ h, nn = 2 * h := ⟨nn / 2, by have := HE.out; omega⟩
    have hh1 : 0 < h := by omega
    rw [hln] at hc1
    clear hln h0
    go_wp2_with fail
    refine (mod_some n (h : Int) _ (by omega) (by omega) hn).mono ?_
    rintro e w' ⟨i, rfl, hi, rfl⟩
    go_wp2_with fail
    refine (mod_some m (h : Int) _ (by omega) (by omega) hm).mono ?_
    rintro e w' ⟨k, rfl, hk, rfl⟩
    go_wp2_with fail
    have HF := hid hF
    obtain ⟨a1, f1⟩ := hF.2 (2 * i) (by rw [hL.out]; omega)
    obtain ⟨a2, f2⟩ := hF.2 (2 * k) (by rw [hL.out]; omega)
    have hS1 : Hid (bsum 0 ((l2.set (2 * i) (l2.getD (2 * k) 0)).set (2 * k) (l2.getD (2 * i) 0)) = bsum 0 l2) := hid (bsum_swap l2 _ _ (by rw [hL.out]; omega) (by rw [hL.out]; omega) (by omega))
    clear hF J3 G3 K hb
    have z1 : (0 : Int) ≤ 2 * (i : Int) := by omega
    have z2 : (2 : Int) * i < ((2 * h : Nat) : Int) := by omega
    have z3 : (0 : Int) ≤ 2 * (k : Int) := by omega
    have z4 : (2 : Int) * k < ((2 * h : Nat) : Int) := by omega
    generalize l2.getD (2 * i) 0 = x at *
    generalize l2.getD (2 * k) 0 = y at *
    have F4 : Hid (FB (((w3.setCell ⟨g, 2 * i, none⟩ (.int .u8 (y.toNat : Int))).setCell ⟨g, 2 * k, none⟩ (.int .u8 (x.toNat : Int))).drew) g ((l2.set (2 * i) y).set (2 * k) x)) :=
      hid (((HF.out.set (2 * i) y _ rfl (by rw [hL.out]; omega)).set (2 * k) x _ rfl (by rw [List.length_set, hL.out]; omega)).drew)
    have B4 : Hid (Below w.heap.size w (((w3.setCell ⟨g, 2 * i, none⟩ (.int .u8 (y.toNat : Int))).setCell ⟨g, 2 * k, none⟩ (.int .u8 (x.toNat : Int))).drew)) :=
      hid ((B3.setCell hgB _).setCell hgB _).drew
    have L4 : Hid (((l2.set (2 * i) y).set (2 * k) x).length = 2 * h) := hid (by rw [swap_len, hL.out])
    go_upto_region 6 with (fail)
    go_cut [49] (fun _ wx => ∃ l3, FB wx g l3 ∧ Below w.heap.size w wx ∧ l3.length = 2 * h ∧ bsum 0 l3 = bsum 0 l2)
    case first =>
      by_cases hik : i = k
      · subst hik
        obtain rfl : x = y := u8_of_cell a1 a2
        go_big_region
        go_wp2_with fail
        go_meet
        exact ⟨_, F4.out, B4.out, L4.out, hS1.out⟩
      · have n1 : ¬ 2 * i = 2 * k := by omega
        have n2 : ¬ 2 * k = 2 * i := by omega
        go_big_region
        go_wp2_with fail
        go_meet
        exact ⟨_, F4.out, B4.out, L4.out, hS1.out⟩
    case rest =>
      obtain ⟨l3, F5, B5, L5, S5⟩ := hcut
      rename World => w5
      clear hS1 F4 B4 L4 HF a1 a2 f1 f2
      have HF5 := hid F5
      obtain ⟨a1, f1⟩ := F5.2 (2 * i + 1) (by omega)
      obtain ⟨a2, f2⟩ := F5.2 (2 * k + 1) (by omega)
      have hS6 : Hid (bsum 0 ((l3.set (2 * i + 1) (l3.getD (2 * k + 1) 0)).set (2 * k + 1) (l3.getD (2 * i + 1) 0)) = bsum 0 l2) := hid (by rw [bsum_swap l3 _ _ (by omega) (by omega) (by omega), S5])
      have y1 : (0 : Int) ≤ 2 * (i : Int) + 1 := by omega
      have y2 : (2 : Int) * i + 1 < ((2 * h : Nat) : Int) := by omega
      have y3 : (0 : Int) ≤ 2 * (k : Int) + 1 := by omega
      have y4 : (2 : Int) * k + 1 < ((2 * h : Nat) : Int) := by omega
      generalize l3.getD (2 * i + 1) 0 = x' at *
      generalize l3.getD (2 * k + 1) 0 = y' at *
      have F6 : Hid (FB (((w5.setCell ⟨g, 2 * i + 1, none⟩ (.int .u8 (y'.toNat : Int))).setCell ⟨g, 2 * k + 1, none⟩ (.int .u8 (x'.toNat : Int))).drew) g ((l3.set (2 * i + 1) y').set (2 * k + 1) x')) :=
        hid (((HF5.out.set (2 * i + 1) y' _ rfl (by omega)).set (2 * k + 1) x' _ rfl (by rw [List.length_set]; omega)).drew)
      have B6 : Hid (Below w.heap.size w (((w5.setCell ⟨g, 2 * i + 1, none⟩ (.int .u8 (y'.toNat : Int))).setCell ⟨g, 2 * k + 1, none⟩ (.int .u8 (x'.toNat : Int))).drew)) :=
        hid ((B5.setCell hgB _).setCell hgB _).drew
      have L6 : Hid (((l3.set (2 * i + 1) y').set (2 * k + 1) x').length = 2 * h) := hid (by rw [swap_len, L5])
      clear S5 L5 F5 HF5
      go_upto_region 7 with (fail)
      go_cut [50] (fun _ wx => ∃ l3, FB wx g l3 ∧ Below w.heap.size w wx ∧ l3.length = 2 * h ∧ bsum 0 l3 = bsum 0 l2)
      case first =>
        by_cases hik : i = k
        · subst hik
          obtain rfl : x' = y' := u8_of_cell a1 a2
          go_big_region
          go_wp2_with fail
          go_meet
          exact ⟨_, F6.out, B6.out, L6.out, hS6.out⟩
        · have n1 : ¬ 2 * i = 2 * k := by omega
          have n2 : ¬ 2 * k = 2 * i := by omega
          have n3 : ¬ 2 * i + 1 = 2 * k + 1 := by omega
          have n4 : ¬ 2 * k + 1 = 2 * i + 1 := by omega
          go_big_region
          go_wp2_with fail
          go_meet
          exact ⟨_, F6.out, B6.out, L6.out, hS6.out⟩
      case rest =>
        obtain ⟨l4, F7, B7, L7, S7⟩ := hcut
        rename World => w7
        have HF7 := hid F7
        have HS7 : Hid (sumN l4 = sumN l2) := hid (by unfold sumN; rw [S7])
        clear S7 F7
        go_wp2_with fail
        refine (known_any _).mono ?_
        rintro e w8 ⟨rfl, hB8⟩
        have B8 := seq B7 hB8
        have J8 := (HF7.out.below hB8 HF7.out.1).isB (2 * h) gc L7 hc1 (by omega) (by have := HC2.out.2; omega)
        clear L7 hB8
        go_wp2_with fail
        refine (sum_any _ (2 * h) gc l4 _ J8).mono ?_
        rintro e w9 ⟨rfl, hB9⟩
        have B9 := seq B8 hB9
        rw [HS7.out]
        go_wp2
        go_ret
        exact ⟨ret_bool (by simp), B9⟩
end Go.Proofs.Ytgacmiobfopoeaa
