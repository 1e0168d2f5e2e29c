import Derived.Test.YtakandlbphjflaaAppAll
import Derived.Test.YtakandlbphjflaaLawBits
import Derived.Test.YtakandlbphjflaaMod
import Derived.Test.YtakandlbphjflaaKnown01
import Derived.Test.YtakandlbphjflaaViewBits
import Derived.Deep.DeepCutAuto
namespace Go.Proofs.Ytakandlbphjflaa
open Go.RowKit

/-- what Bits returns -/
def bitsV (l : List UInt8) (n i k : Int) : Nat := if bitsOk l n i k then bitsNum l i.toNat k.toNat else 0

theorem bits_V (a : Option Addr) (len cap : Nat) (l : List UInt8) (n i k : Int) (w : World) (hb : IsB w a len cap l) (hn : I64 n) (hi : I64 i) (hk : I64 k) :
    Calls Try.prog 14 #[.agg #[.slice a len cap, .int .i64 n], .int .i64 i, .int .i64 k] w (RetS (.tuple #[.int .u64 (bitsV l n i k : Nat), .bool (bitsOk l n i k)]) w) :=
  bits_any a len cap l n i k w hb hn hi hk
theorem refbits_V (a : Option Addr) (len cap : Nat) (l : List UInt8) (n i k : Int) (w : World) (hb : IsB w a len cap l) (hn : I64 n) (hi : I64 i) (hk : I64 k) :
    Calls Try.prog 15 #[.agg #[.slice a len cap, .int .i64 n], .int .i64 i, .int .i64 k] w (RetS (.tuple #[.int .u64 (bitsV l n i k : Nat), .bool (bitsOk l n i k)]) w) :=
  refbits_any a len cap l n i k w hb hn hi hk

theorem refvalid_B (a : Option Addr) (len cap : Nat) (l : List UInt8) (n : Int) (w : World) (hb : IsB w a len cap l) (hi : I64 n) :
    Calls Try.prog 18 #[.agg #[.slice a len cap, .int .i64 n]] w (RetS (.bool (validB l n)) w) := by
  have h := refvalid_any a len cap l n w hb hi
  rwa [validR_eq] at h

set_option maxRecDepth 100000 in
set_option maxHeartbeats 4000000 in
theorem octetsbits_walk (a : Option Addr) (len cap : Nat) (l : List UInt8) (m : Int) (ta : Option Addr) (tlen tcap : Nat) (v n at_ : Int) (w : World) (hb : IsB w a len cap l) (hc : cap ≤ 140737488351232)
    (hm : I64 m) (hI : IsI w ta tlen tcap) (hv : U64 v) (hn : I64 n) (hat : I64 at_) :
    Calls Try.prog 3 #[.agg #[.slice a len cap, .int .i64 m], .slice ta tlen tcap, .int .u64 v, .int .i64 n, .int .i64 at_] w (RetS (.bool true) w) := by
  have hle := hb.le
  have hlen := hid hb.length
  have hb1 := hb.below ((Below.refl _ _).alloc (Nat.le_refl _) (.cells #[.slice a len cap, .int .i64 m] 24))
  have hI1 := hI.below ((Below.refl _ _).alloc (Nat.le_refl _) (.cells #[.slice a len cap, .int .i64 m] 24))
  have hX := Box.new w a len cap m
  have hB1 := (Below.refl w.heap.size w).alloc (Nat.le_refl _) (.cells #[.slice a len cap, .int .i64 m] 24)
  go_enter Try.func3, Try.ntmps3
  go_upto_region 1 with fail
  generalize hww : w.alloc (.cells #[.slice a len cap, .int .i64 m] 24) = w0 at *
  have hlt := hX.lt
  have d0 := hX.c0
  have d1 := hX.c1
  have hHB := hid hB1; have hHX := hid hX; have hHI := hid (show IsI w0.drew ta tlen tcap from hI1.below ((Below.refl _ _).drew)); have hHd := hid (show Box w0.drew w.heap.size a len cap m from hX); have hHb := hid hb1
  clear hww hB1 hX hI1 hb1 hb hI
  have hrm : Hid (len ≤ 140737488355300) := hid (by omega)
  go_cut [11] (fun s11 wx => ∃ L a2 c2 l2 m2, s11 = .slice (some ⟨L, 0, none⟩) 2 2 ∧ wx.heap[L]? = some (.cells #[.slice a len cap, .int .i64 m, .slice a2 (List.length l2) c2, .int .i64 m2] 24 (0, 0)) ∧ IsB wx a len cap l ∧ IsB wx a2 l2.length c2 l2 ∧ List.length l2 ≤ 5 ∧ I64 m2 ∧ Below w.heap.size w wx)
  case first =>
    go_region_with (refine (lawbits_any ta tlen tcap _ hHI.out).mono ?_; rintro e w1 ⟨g, l2, m2, rfl, hg, hl, hL1, hL2, hO1, hB2⟩; have hX2 := hid (hHd.out.below hB2 hHd.out.lt); have c0 := hX2.out.c0; have c1 := hX2.out.c1)
    all_goals (go_wp2_with fail)
    all_goals go_meet
    all_goals
      have h0 := (show IsB w0.drew a len cap l from hHb.out.below ((Below.refl _ _).drew)).below hB2
      have hB3 := hHB.out.drew.trans (hB2.mono (B' := w.heap.size) hHB.out.drew.size)
      exact ⟨_, _, _, l2, m2, rfl, heap_alloc_new _ _, h0.below ((Below.refl _ _).alloc (Nat.le_refl _) _), (hO1.alloc _).isB (by omega), hl, ⟨by omega, by omega⟩, hB3.alloc hB3.size _⟩
  case rest =>
    obtain ⟨L, a2, c2, l2, m2, rfl, hL, hb1, hb2, hl2, hm2, hB1⟩ := hcut
    rename World => w2
    have hLlt : L < w2.heap.size := (Array.getElem?_eq_some_iff.1 hL).1
    have HL := hid hL; have Hb1 := hid hb1; have Hb2 := hid hb2; have HB1 := hid hB1
    clear hL hb1 hb2 hB1 hHB hHX hHI hHd hHb d0 d1 hlt
    go_wp2
    go_loopw [3, 4, 12] (fun p3 p4 t wr => ∃ (i : Nat) (n' a' : Int), i ≤ 2 ∧ t = .int .i64 i ∧ p3 = .int .i64 n' ∧ p4 = .int .i64 a' ∧ I64 n' ∧ I64 a' ∧ Below w2.heap.size w2 wr) (fun _ _ t _ => 2 - (intOf t).toNat)
    case atStart => exact ⟨0, n, at_, by omega, rfl, rfl, rfl, hn, hat, Below.refl _ _⟩
    case round =>
      obtain ⟨i, n1, a1, hi, rfl, rfl, rfl, hn1, ha1, hBr⟩ := hrel
      by_cases hlt2 : i < 2
      · go_upto_region 5 with fail
        go_cut [13] (fun s13 wx => ∃ S a2 c2 l2 m2, s13 = .pointer (some ⟨S, 0, none⟩) ∧ Box wx S a2 (List.length l2) c2 m2 ∧ IsB wx a2 l2.length c2 l2 ∧ List.length l2 ≤ 140737488355300 ∧ I64 m2 ∧ Below w2.heap.size w2 wx)
        case first =>
          have hLr : _ := (hBr.block L hLlt).trans HL.out
          have k0 := cell_of_row _ L 0 _ _ (0, 0) hLr
          have k1 := cell_of_row _ L 1 _ _ (0, 0) hLr
          have k2 := cell_of_row _ L 2 _ _ (0, 0) hLr
          have k3 := cell_of_row _ L 3 _ _ (0, 0) hLr
          simp at k0 k1 k2 k3
          rcases (show i = 0 ∨ i = 1 by omega) with rfl | rfl
          · go_wp2
            go_meet
            obtain rfl := hlen.out
            exact ⟨_, a, cap, l, m, rfl, Box.new _ _ _ _ _, (Hb1.out.below hBr).below ((Below.refl _ _).alloc (Nat.le_refl _) _), hrm.out, hm, hBr.alloc hBr.size _⟩
          · go_wp2
            go_meet
            exact ⟨_, a2, c2, l2, m2, rfl, Box.new _ _ _ _ _, (Hb2.out.below hBr).below ((Below.refl _ _).alloc (Nat.le_refl _) _), by omega, hm2, hBr.alloc hBr.size _⟩
        case rest =>
          obtain ⟨S, a3, c3, l3, m3, rfl, hBx, hb3, hl3, hm3, hB3⟩ := hcut
          rename World => w3
          have hS := hBx.lt
          have HBX := hid hBx; have Hb3 := hid hb3; have HB3 := hid hB3
          clear hBx hb3 hB3 hBr
          go_wp2
          go_loopw [3, 4, 14] (fun p3 p4 t wr => ∃ (j : Nat) (n' a' : Int), j ≤ 2 ∧ t = .int .i64 j ∧ p3 = .int .i64 n' ∧ p4 = .int .i64 a' ∧ I64 n' ∧ I64 a' ∧ Below w3.heap.size w3 wr) (fun _ _ t _ => 2 - (intOf t).toNat)
          case atStart => exact ⟨0, n1, a1, by omega, rfl, rfl, rfl, hn1, ha1, Below.refl _ _⟩
          case round =>
            clear hn1 ha1
            obtain ⟨j, n1, a1, hj, rfl, rfl, rfl, hn1, ha1, hBr⟩ := hrel
            by_cases hlt3 : j < 2
            · go_upto_if 40 with fail
              go_cut [3, 4] (fun p3 p4 wx => ∃ (n' a' : Int), p3 = .int .i64 n' ∧ p4 = .int .i64 a' ∧ I64 n' ∧ I64 a' ∧ Below w3.heap.size w3 wx)
              case first =>
                by_cases hj1 : j = 1
                · subst hj1
                  go_wp2_with fail
                  refine (mod_any n1 67 _ (by decide) (by decide) hn1).mono ?_
                  rintro e w' ⟨rfl, rfl⟩
                  go_wp2_with fail
                  refine (mod_any a1 45 _ (by decide) (by decide) ha1).mono ?_
                  rintro e w' ⟨rfl, rfl⟩
                  go_wp2
                  go_meet
                  exact ⟨_, _, rfl, rfl, ⟨by omega, by omega⟩, ⟨by omega, by omega⟩, hBr⟩
                · obtain rfl : j = 0 := by omega
                  go_wp2
                  go_meet
                  exact ⟨_, _, rfl, rfl, hn1, ha1, hBr⟩
              case rest =>
                clear hn1 ha1 hBr
                obtain ⟨n4, a4, rfl, rfl, hn4, ha4, hB4⟩ := hcut
                rename World => w4
                have hX4 := HBX.out.below hB4 hS
                have hI4 := Hb3.out.below hB4
                have c0 := hX4.c0
                have c1 := hX4.c1
                have HX4 := hid hX4; have HI4 := hid hI4; have HB4 := hid hB4
                clear hX4 hI4 hB4
                go_wp2_with fail
                refine (appendBits_all a3 l3.length c3 l3 m3 v n4 _ HI4.out hm3 hl3 hv).mono ?_
                rintro e w5 ⟨xa, xc, rfl, hx5, hB5⟩
                have hX5 := HX4.out.below hB5 HX4.out.lt
                have f0 := hX5.c0
                have f1 := hX5.c1
                have g0 := fun o => (hX5.alloc o).c0
                have g1 := fun o => (hX5.alloc o).c1
                have B6 := HB4.out.trans (hB5.mono (B' := w3.heap.size) HB4.out.size)
                have I5 := HI4.out.below hB5
                clear c0 c1
                go_wp2_with fail
                refine (refappend_all a3 l3.length c3 l3 m3 v n4 _ (I5.below ((Below.refl _ _).alloc (Nat.le_refl _) _)) hm3 hl3 hv).mono ?_
                rintro e w6 ⟨ya, yc, rfl, hy6, hB6⟩
                have BX := (Box.new w5 xa (appL l3 m3 v n4).length xc (appN l3 m3 n4)).below hB6 (by simp)
                have hx6 := (hx5.below ((Below.refl _ _).alloc (Nat.le_refl _) (.cells #[.slice xa (appL l3 m3 v n4).length xc, .int .i64 (appN l3 m3 n4)] 24))).below hB6
                have I6 := (I5.below ((Below.refl _ _).alloc (Nat.le_refl _) (.cells #[.slice xa (appL l3 m3 v n4).length xc, .int .i64 (appN l3 m3 n4)] 24))).below hB6
                have hX6 := (hX5.alloc _).below hB6 (hX5.alloc _).lt
                have B7 := (B6.alloc B6.size _).trans (hB6.mono (B' := w3.heap.size) (B6.alloc B6.size _).size)
                have h56 := hB6.size
                clear f0 f1 g0 g1 hX5 I5 hx5 hB5 hB6 B6
                generalize appL l3 m3 v n4 = Z at *
                generalize appN l3 m3 n4 = N at *
                generalize appOk l3 m3 n4 = ok at *
                have f0 := hX6.c0
                have f1 := hX6.c1
                have g0 := fun o => (hX6.alloc o).c0
                have g1 := fun o => (hX6.alloc o).c1
                go_wp2_with fail
                refine (bits_V a3 l3.length c3 l3 m3 a4 n4 _ (I6.below ((Below.refl _ _).alloc (Nat.le_refl _) _)) hm3 ha4 hn4).mono ?_
                rintro e w7 ⟨rfl, hB7⟩
                have BY := (Box.new w6 ya Z.length yc N).below hB7 (by simp)
                have BX7 := (BX.alloc _).below hB7 (BX.alloc _).lt
                have hx7 := (hx6.below ((Below.refl _ _).alloc (Nat.le_refl _) (.cells #[.slice ya Z.length yc, .int .i64 N] 24))).below hB7
                have hy7 := (hy6.below ((Below.refl _ _).alloc (Nat.le_refl _) (.cells #[.slice ya Z.length yc, .int .i64 N] 24))).below hB7
                have I7 := (I6.below ((Below.refl _ _).alloc (Nat.le_refl _) (.cells #[.slice ya Z.length yc, .int .i64 N] 24))).below hB7
                have hX7 := (hX6.alloc _).below hB7 (hX6.alloc _).lt
                have B8 := (B7.alloc B7.size _).trans (hB7.mono (B' := w3.heap.size) (B7.alloc B7.size _).size)
                clear f0 f1 g0 g1 hX6 I6 hx6 hy6 hB7 B7 BX
                have f0 := hX7.c0
                have f1 := hX7.c1
                go_wp2_with fail
                refine (refbits_V a3 l3.length c3 l3 m3 a4 n4 _ I7 hm3 ha4 hn4).mono ?_
                rintro e w8 ⟨rfl, hB8⟩
                have BY8 := BY.below hB8 BY.lt
                have BX8 := BX7.below hB8 BX7.lt
                have hx8 := hx7.below hB8
                have hy8 := hy7.below hB8
                have B9 := B8.trans (hB8.mono (B' := w3.heap.size) B8.size)
                clear f0 f1 hX7 I7 hx7 hy7 hB8 B8 BX7 BY
                generalize bitsV l3 m3 a4 n4 = q at *
                generalize bitsOk l3 m3 a4 n4 = qk at *
                have f0 := BX8.c0
                have f1 := BX8.c1
                have f2 := BY8.c0
                have f3 := BY8.c1
                go_wp2_with fail
                refine (samebits_any xa Z.length xc Z N ya Z.length yc Z _ hx8 hy8).mono ?_
                rintro e w9 ⟨rfl, hB9⟩
                have B10 := B9.trans (hB9.mono (B' := w3.heap.size) B9.size)
                rw [show (Z == Z) = true from by simp]
                clear f0 f1 f2 f3 BX8 BY8 hx8 hy8 hB9 B9
                go_wp2
                go_roundw
                case rel => exact ⟨j + 1, n4, a4, by omega, by go_num, rfl, rfl, hn4, ha4, B10⟩
                case measure => simp [intOf]; omega
            · obtain rfl : j = 2 := by omega
              have hX4 := HBX.out.below hBr hS
              have hI4 := Hb3.out.below hBr
              have hXd := hX4.below (Below.refl _ _).drew hX4.lt
              have hId := hI4.below (Below.refl _ _).drew
              have c0 := hX4.c0
              have c1 := hX4.c1
              have HXd := hid hXd; have HId := hid hId; have HB := hid hBr.drew
              clear hX4 hI4 hXd hId
              go_wp2_with fail
              go_region_with (first | (go_at_call 17; refine (validBits_any a3 l3.length c3 l3 m3 _ HId.out hm3).mono ?_; rintro e wA ⟨rfl, hBA⟩; have e0 := (HXd.out.below hBA HXd.out.lt).c0; have e1 := (HXd.out.below hBA HXd.out.lt).c1) | (go_at_call 18; refine (refvalid_B a3 l3.length c3 l3 m3 _ (HId.out.below hBA) hm3).mono ?_; rintro e wB ⟨rfl, hBB⟩))
              all_goals (try go_wp2)
              all_goals go_roundw
              all_goals first
                | exact ⟨i + 1, n1, a1, by omega, by go_num, rfl, rfl, hn1, ha1, seq (seq (seq HB3.out HB.out) hBA) hBB⟩
                | (simp [intOf]; omega)
      · obtain rfl : i = 2 := by omega
        go_wp2_with fail
        refine (known_any _).mono ?_
        rintro e w5 ⟨rfl, hB5⟩
        go_wp2
        go_ret
        exact ⟨rfl, seq (seq HB1.out hBr) hB5⟩
end Go.Proofs.Ytakandlbphjflaa
