import Derived.Test.YtgacmiobfopoeaaOrderLaw
import Derived.Deep.QuietTactic
import Derived.BigQuiet
namespace Go.Proofs.Ytgacmiobfopoeaa
open Go.RowKit

theorem Gr.set {w : World} {B g n cap : Nat} {l : List UInt8} (h : Gr w B (.slice (some ⟨g, 0, none⟩) n cap) l) (j : Nat) (x : UInt8) (v : Value) (hv : v = bv x) : Gr (w.setCell ⟨g, j, none⟩ v) B (.slice (some ⟨g, 0, none⟩) n cap) (l.set j x) := by
  subst hv
  refine ⟨by simp, ?_⟩
  rcases h.2 with ⟨h0, _⟩ | ⟨g', cap', cur, he, hB, hh, h1, h2, h3, h4⟩
  · simp at h0
  · simp at he
    obtain ⟨rfl, rfl, rfl⟩ := he
    refine .inr ⟨g, cap, cur.setIfInBounds j (bv x), by rw [List.length_set], hB, ?_, by rw [List.length_set]; exact h1, h2, by rw [Array.size_setIfInBounds]; exact h3, ?_⟩
    · simp [World.setCell, Array.getElem?_modify, hh]
    · rw [List.length_set, Array.toList_setIfInBounds, List.take_set, h4, List.map_set]

theorem old_word (x y : UInt8) : IntKind.u16.wrap (IntKind.u16.wrap (IntKind.u16.wrap (x.toNat : Int) * 256) + IntKind.u16.wrap (y.toNat : Int)) = ((x.toNat * 256 + y.toNat : Nat) : Int) := by
  have hx := x.toNat_lt
  have hy := y.toNat_lt
  simp only [IntKind.wrap_u16]
  omega

theorem upd_closed (S S' o q : Nat) (h : S' + o = S + q) (ho : o < 65536) (hq : q < 65536) :
    (S' = 0 → updN (65535 - foldN S) o q = 0) ∧ (0 < S' → foldN (S' + updN (65535 - foldN S) o q) = 65535) ∧ updN (65535 - foldN S) o q ≤ 65535 := by
  have hf := foldN_le S
  have e : updN (65535 - foldN S) o q = 65535 - foldN (S' + 65535) := by
    unfold updN
    rw [show 65535 - (65535 - foldN S) + (65535 - o) + q = foldN S + (65535 - o + q) from by omega, foldN_add, show S + (65535 - o + q) = S' + 65535 from by omega]
  rw [e]
  have e2 : foldN (S' + 65535) = (S' + 65534) % 65535 + 1 := by
    unfold foldN; rw [if_neg (by omega)]; congr 1
  rw [e2]
  refine ⟨fun h0 => by subst h0; decide, fun hp => ?_, by omega⟩
  unfold foldN
  rw [if_neg (by omega)]
  omega

set_option maxHeartbeats 4000000 in
theorem updates_walk (a : Option Addr) (len cap : Nat) (l : List UInt8) (n m : Int) (w : World) (hb : IsB w a len cap l) (hcap : cap ≤ 140737488351232) (hn : I64 n) (hm : (Lit.int .u16 m).wf = true) :
    Calls Try.prog 6 #[.slice a len cap, .int .i64 n, .int .u16 m] w (RetS (.bool true) w) := by
  have hbd := bounds_u16 hm
  obtain ⟨q, rfl⟩ := Int.eq_ofNat_of_zero_le (show 0 ≤ m by omega)
  have hq : q < 65536 := by omega
  have hle := hb.le
  have K := hb.take (len / 2 * 2) (by omega)
  have hL := hid K.length
  have HE : Hid (len / 2 * 2 % 2 = 0) := hid (by omega)
  have hle2 : len / 2 * 2 ≤ len := by omega
  generalize l.take (len / 2 * 2) = l2 at *
  go_enter Try.func6, Try.ntmps6
  go_wp2_with (with_reducible refine wpList_append_bytes (o := ⟨some 20, _, _, _, _, _⟩) rfl (.tmp 13) (.tmp 19) rfl (.slice (some ⟨w.heap.size, 0, none⟩) 0 0) rfl a (len / 2 * 2) cap rfl w.heap.size [] l2 (gr_new w _ (Nat.le_refl _)) (K.below ((Below.refl _ _).alloc (Nat.le_refl _) _)) (by simp; omega) w ((Below.refl _ _).alloc (Nat.le_refl _) _) (by simp) ?_; intro v2 w2 hG2 hB2 _; have hG := hG2.out; rw [List.nil_append] at hG; obtain ⟨ga, gc, rfl, J⟩ := hG.isB (by rw [hL.out]; omega); rw [hL.out] at J hG ⊢; clear hG2; generalize len / 2 * 2 = nn at *)
  · refine (known_any _).mono ?_
    rintro e w4 ⟨rfl, hB4⟩
    have B4 := seq hB2 hB4
    go_wp2
    go_ret
    exact ⟨rfl, B4⟩
  · have hz : ((nn : Int) == 0) = false := by assumption
    have hnn : nn ≠ 0 := by rintro rfl; simp at hz
    obtain ⟨g, c2, e, hgB, hF, hc1, hc2⟩ := hG.fb (by rw [hL.out]; omega)
    simp at e
    obtain ⟨rfl, hx, rfl⟩ := e
    clear hx
    rw [hL.out] at hc1
    have HC2 : Hid (I64 (gc : Int)) := hid ⟨by omega, by omega⟩
    clear hc2 hF
    obtain ⟨h, rfl⟩ : ∃ h, nn = 2 * h := ⟨nn / 2, by have := HE.out; omega⟩
    have hh1 : 0 < h := by omega
    clear hnn
    have F1 : Hid ([l2].flatten = l2) := hid (by simp)
    refine (internet_any _ 1 1 [l2] _ (isBB_one J) (by rw [F1.out, hL.out]; omega)).mono ?_
    rintro e w' ⟨rfl, rfl⟩
    rw [F1.out]
    have B3 : Below w.heap.size w (w2.alloc (.cells #[.slice (some ⟨g, 0, none⟩) (2 * h) gc] 22)) := hB2.alloc hB2.size _
    have G3 := hG.below ((Below.refl w2.heap.size w2).alloc (Nat.le_refl _) (.cells #[.slice (some ⟨g, 0, none⟩) (2 * h) gc] 22))
    clear hG J K hb F1 hB2
    go_wp2_with fail
    generalize hw3 : w2.alloc (.cells #[.slice (some ⟨g, 0, none⟩) (2 * h) gc] 22) = w3
    rw [hw3] at B3 G3
    clear hw3
    refine (mod_some n (h : Int) _ (by omega) (by omega) hn).mono ?_
    rintro e w' ⟨i, rfl, hi, rfl⟩
    go_wp2_with fail
    have F3 := hid (G3.fb (by rw [hL.out]; omega))
    have hF3 : FB w3 g l2 := by
      obtain ⟨g', c', e, _, hF, _, _⟩ := F3.out
      simp at e
      obtain ⟨rfl, _, _⟩ := e
      exact hF
    obtain ⟨a1, f1⟩ := hF3.2 (2 * i) (by rw [hL.out]; omega)
    obtain ⟨a2, f2⟩ := hF3.2 (2 * i + 1) (by rw [hL.out]; omega)
    have hset1 := hid (bsum_set l2 0 (2 * i) (UInt8.ofNat (q / 256)) (by rw [hL.out]; omega))
    have hset2 := hid (bsum_set (l2.set (2 * i) (UInt8.ofNat (q / 256))) 0 (2 * i + 1) (UInt8.ofNat (q % 256)) (by rw [List.length_set, hL.out]; omega))
    have hget := hid (show (l2.set (2 * i) (UInt8.ofNat (q / 256))).getD (2 * i + 1) 0 = l2.getD (2 * i + 1) 0 from by simp [List.getD_eq_getElem?_getD])
    clear F3 hF3 f1 f2
    generalize l2.getD (2 * i) 0 = x at *
    generalize l2.getD (2 * i + 1) 0 = y at *
    have z1 : (0 : Int) ≤ 2 * (i : Int) := by omega
    have z2 : (2 : Int) * i < ((2 * h : Nat) : Int) := by omega
    have z3 : (0 : Int) ≤ 2 * (i : Int) + 1 := by omega
    have z4 : (2 : Int) * i + 1 < ((2 * h : Nat) : Int) := by omega
    go_quiet (fail)
    rw [old_word x y]
    have ho : x.toNat * 256 + y.toNat < 65536 := by have := x.toNat_lt; have := y.toNat_lt; omega
    have B5 := below_drewN B3 nq
    have G5 := G3.below (below_drewN (Below.refl w3.heap.size w3) nq)
    generalize w3.drewN nq = w5 at B5 G5 ⊢
    clear G3 B3 a1 a2 z1 z2 z3 z4
    generalize hO : x.toNat * 256 + y.toNat = o at ho ⊢
    have HOx := hid hO
    clear hO
    have F5 := hid (G5.fb (by rw [hL.out]; omega))
    have hF5 : FB w5 g l2 := by
      obtain ⟨g', c', e, _, hF, _, _⟩ := F5.out
      simp at e
      obtain ⟨rfl, _, _⟩ := e
      exact hF
    obtain ⟨a1, f1⟩ := hF5.2 (2 * i) (by rw [hL.out]; omega)
    obtain ⟨a2, f2⟩ := hF5.2 (2 * i + 1) (by rw [hL.out]; omega)
    clear F5 hF5
    generalize l2.getD (2 * i) 0 = x' at a1
    generalize l2.getD (2 * i + 1) 0 = y' at a2
    have z1 : (0 : Int) ≤ 2 * (i : Int) := by omega
    have z2 : (2 : Int) * i < ((2 * h : Nat) : Int) := by omega
    have z3 : (0 : Int) ≤ 2 * (i : Int) + 1 := by omega
    have z4 : (2 : Int) * i + 1 < ((2 * h : Nat) : Int) := by omega
    go_wp2_with fail
    have v1 : Value.int .u8 ((q : Int) / 256) = bv (UInt8.ofNat (q / 256)) := by simp only [bv, UInt8.toNat_ofNat']; congr 1; omega
    have v2 : Value.int .u8 ((q : Int) % 256) = bv (UInt8.ofNat (q % 256)) := by simp only [bv, UInt8.toNat_ofNat']; congr 1; omega
    have G6 := (G5.set (2 * i) _ _ v1).set (2 * i + 1) _ _ v2
    have B6 := (B5.setCell (p := ⟨g, 2 * i, none⟩) hgB (.int .u8 ((q : Int) / 256))).setCell (p := ⟨g, 2 * i + 1, none⟩) hgB (.int .u8 ((q : Int) % 256))
    have S6 : Hid (bsum 0 ((l2.set (2 * i) (UInt8.ofNat (q / 256))).set (2 * i + 1) (UInt8.ofNat (q % 256))) + o = bsum 0 l2 + q) := hid (by
      have h1 := hset1.out
      have h2 := hset2.out
      rw [hget.out] at h2
      rw [show (0 + 2 * i + 1) % 2 = 1 from by omega] at h1
      rw [show (0 + (2 * i + 1) + 1) % 2 = 0 from by omega] at h2
      have e1 : (UInt8.ofNat (q / 256)).toNat = q / 256 := by rw [UInt8.toNat_ofNat']; omega
      have e2 : (UInt8.ofNat (q % 256)).toNat = q % 256 := by rw [UInt8.toNat_ofNat']; omega
      rw [e1] at h1
      rw [e2] at h2
      have h3 := HOx.out
      simp only [Nat.pow_one, Nat.pow_zero, Nat.mul_one] at h1 h2
      omega)
    have L6 : Hid (((l2.set (2 * i) (UInt8.ofNat (q / 256))).set (2 * i + 1) (UInt8.ofNat (q % 256))).length = 2 * h) := hid (by rw [swap_len, hL.out])
    have HU := hid (upd_closed _ _ o q S6.out ho hq)
    clear v1 v2 G5 B5 hset1 hset2 hget S6 a1 a2 f1 f2
    generalize (l2.set (2 * i) (UInt8.ofNat (q / 256))).set (2 * i + 1) (UInt8.ofNat (q % 256)) = l3 at *
    refine (update_any (65535 - sumN l2) o q _ (by omega) ho hq).mono ?_
    rintro e w' ⟨rfl, rfl⟩
    have HU2 : Hid ((bsum 0 l3 = 0 → updN (65535 - sumN l2) o q = 0) ∧ (0 < bsum 0 l3 → foldN (bsum 0 l3 + updN (65535 - sumN l2) o q) = 65535)) := hid ⟨HU.out.1, HU.out.2.1⟩
    have hc3 : updN (65535 - sumN l2) o q ≤ 65535 := HU.out.2.2
    clear HU
    generalize updN (65535 - sumN l2) o q = c1 at *
    generalize hw6 : (w5.setCell ⟨g, 2 * i, none⟩ (.int .u8 ((q : Int) / 256))).setCell ⟨g, 2 * i + 1, none⟩ (.int .u8 ((q : Int) % 256)) = w6
    rw [hw6] at G6 B6
    clear hw6
    have J6 := two_bytes w6 c1 hc3
    go_wp2_with (with_reducible refine wpList_append_bytes (o := ⟨some 70, _, _, _, _, _⟩) rfl (.tmp 63) (.tmp 69) rfl (.slice (some ⟨g, 0, none⟩) (2 * h) gc) rfl (some ⟨w6.heap.size, 0, none⟩) 2 2 rfl w.heap.size l3 [UInt8.ofNat (c1 / 256), UInt8.ofNat (c1 % 256)] (G6.below ((Below.refl _ _).alloc (Nat.le_refl _) _)) J6 (by rw [L6.out]; omega) w (B6.alloc B6.size _) (by have := B6.size; simp; omega) ?_; intro v7 w7 hG7 hB7 _)
    obtain ⟨g7, c7, e7, hg7, hF7, hc7, hm7⟩ := hG7.out.fb (by rw [List.length_append, L6.out]; simp)
    have hL7 : Hid ((l3 ++ [UInt8.ofNat (c1 / 256), UInt8.ofNat (c1 % 256)]).length = 2 * h + 2) := hid (by rw [List.length_append, L6.out]; rfl)
    rw [hL7.out] at e7 hc7
    subst e7
    have HM7 : Hid (I64 (c7 : Int)) := hid ⟨by omega, by omega⟩
    clear hm7 hG7
    have hSum : Hid (bsum 0 (l3 ++ [UInt8.ofNat (c1 / 256), UInt8.ofNat (c1 % 256)]) = bsum 0 l3 + c1) := hid (by
      rw [bsum_append, L6.out]
      simp only [bsum]
      rw [show (0 + 2 * h + 1) % 2 = 1 from by omega, show (0 + 2 * h + 1 + 1) % 2 = 0 from by omega]
      have := two_value c1 hc3
      omega)
    clear J6 G6 B6
    generalize l3 ++ [UInt8.ofNat (c1 / 256), UInt8.ofNat (c1 % 256)] = l4 at *
    go_loopw [11, 12] (fun z v wr => ∃ k : Nat, k ≤ 2 * h + 2 ∧ v = .int .i64 (k : Int) ∧ z = .bool (decide (bsum 0 (l4.take k) = 0)) ∧ FB wr g7 l4 ∧ Below w.heap.size w wr) (fun _ v _ => 2 * h + 2 - (intOf v).toNat)
    case atStart => exact ⟨0, by omega, rfl, by simp [bsum], hF7, hB7⟩
    case round =>
      obtain ⟨k, hk, rfl, rfl, hFr, hBr⟩ := hrel
      clear hF7 hB7
      by_cases hlt : k < 2 * h + 2
      · obtain ⟨a1, _⟩ := hFr.2 k (by rw [hL7.out]; exact hlt)
        have hT := hid (bsum_take l4 0 k (by rw [hL7.out]; exact hlt))
        have HFr := hid hFr
        clear hFr
        generalize l4.getD k 0 = x at *
        by_cases hz0 : bsum 0 (l4.take k) = 0
        · have hd : decide (bsum 0 (l4.take k) = 0) = true := by simp [hz0]
          have hd2 : Hid (decide (bsum 0 (l4.take (k + 1)) = 0) = ((x.toNat : Int) == 0)) := hid (by
            rw [hT.out, hz0]
            have hp : 0 < 256 ^ ((0 + k + 1) % 2) := Nat.pow_pos (by decide)
            rw [Bool.eq_iff_iff, decide_eq_true_eq, beq_iff_eq, Nat.zero_add, Nat.mul_eq_zero]
            omega)
          rw [hd]
          clear hz0 hd
          go_wp2
          go_roundw
          case rel => exact ⟨k + 1, by omega, by go_num, by rw [hd2.out], HFr.out, hBr⟩
          case measure => simp [intOf]; omega
        · have hd : decide (bsum 0 (l4.take k) = 0) = false := by simp [hz0]
          have hd2 : Hid (decide (bsum 0 (l4.take (k + 1)) = 0) = false) := hid (by
            rw [hT.out]; simp; omega)
          rw [hd]
          clear hz0 hd
          go_wp2
          go_roundw
          case rel => exact ⟨k + 1, by omega, by go_num, by rw [hd2.out], HFr.out, hBr⟩
          case measure => simp [intOf]; omega
      · obtain rfl : k = 2 * h + 2 := by omega
        rw [List.take_of_length_le (by rw [hL7.out]; omega)]
        have HFr := hid hFr
        clear hFr
        by_cases hz0 : bsum 0 l4 = 0
        · rw [show decide (bsum 0 l4 = 0) = true from by simp [hz0]]
          clear hz0
          go_wp2_with fail
          refine (known_any _).mono ?_
          rintro e w8 ⟨rfl, hB8⟩
          have B8 := seq hBr hB8
          go_wp2
          go_ret
          exact ⟨rfl, B8⟩
        · have hs : Hid (sumN l4 = 65535) := hid (by
            unfold sumN
            rw [hSum.out]
            rw [hSum.out] at hz0
            by_cases h3 : bsum 0 l3 = 0
            · have := HU2.out.1 h3; omega
            · exact HU2.out.2 (by omega))
          rw [show decide (bsum 0 l4 = 0) = false from by simp [hz0]]
          clear hz0
          go_wp2_with fail
          refine (known_any _).mono ?_
          rintro e w8 ⟨rfl, hB8⟩
          have J8 := (HFr.out.below hB8 HFr.out.1).isB (2 * h + 2) c7 hL7.out hc7 (by omega) (by have := HM7.out.2; omega)
          have B8 := seq hBr hB8
          clear hBr hB8
          go_wp2_with fail
          have F1 : Hid ([l4].flatten = l4) := hid (by simp)
          refine (internet_any _ 1 1 [l4] _ (isBB_one J8) (by rw [F1.out, hL7.out]; omega)).mono ?_
          rintro e w' ⟨rfl, rfl⟩
          rw [F1.out, hs.out]
          go_wp2
          go_ret
          exact ⟨rfl, B8.alloc B8.size _⟩
end Go.Proofs.Ytgacmiobfopoeaa
