/-
  What Encode, Decode and Header return shares no memory with the arguments.
-/
import Derived.Test.YtoboflcdiladpaaCanon
import Derived.Test.YtoboflcdiladpaaSame5
import Derived.Test.YtoboflcdiladpaaFInv
namespace Go.Proofs.Ytoboflcdiladpaa
open Go.RowKit
set_option linter.unusedSimpArgs false
set_option linter.unusedVariables false

theorem inc_bv (x : UInt8) : bv (x + 1) = .int .u8 (((x.toNat : Int) + 1) % 256) := by
  unfold bv
  rw [UInt8.toNat_add]
  rfl

set_option maxHeartbeats 8000000 in
set_option maxRecDepth 100000 in
theorem fresh_walk (a : Option Addr) (len cap : Nat) (w : World) (hI : IsI w a len cap) :
    Calls Try.prog 10 #[.slice a len cap] w (RetS (.bool true) w) := by
  go_enter Try.func10, Try.ntmps10
  go_wp2_with fail
  with_reducible refine (new_any a len cap w hI).mono ?_
  rintro e1 w1 ⟨g, rfl, hg, hT1, hB1⟩
  go_wp2_with fail
  with_reducible refine (anyframe_any g w1 hT1).mono ?_
  rintro e2 w2 ⟨h, p, m, P, M, rfl, hok, hv, hGp, hGm, hT2, hO2⟩
  obtain ⟨pa, pc, rfl⟩ := hGp.form
  obtain ⟨ma, mc, rfl⟩ := hGm.form
  obtain ⟨hP127, hM4⟩ := valid_small h _ _ hv
  have hB := hB1.trans (hO2.below hg hB1.size)
  have hgw : w.heap.size ≤ w1.heap.size := hB1.size
  clear hT1 hB1 hT2 hO2 hI
  obtain ⟨p1, p2, hp1, hI1⟩ := hGp.isB (by omega)
  obtain ⟨m1, m2, hm1, hI2⟩ := hGm.isB (by omega)
  cases hp1
  cases hm1
  have hPb : ∀ x, pa = some x → 0 < pc → x.block < w2.heap.size := fun x hx hc => ((hI1.cells x hx).1 hc).2
  have hMb : ∀ x, ma = some x → 0 < mc → x.block < w2.heap.size := fun x hx hc => ((hI2.cells x hx).1 hc).2
  clear hGp hGm
  have hKn : Fk (w2.alloc (.cells #[.int .i64 0, .bool false, .bool false, .bool false, .int .u8 0, .int .u16 0, .int .i64 0, .int .u16 0, .int .u64 0, .int .i64 0, .int .u16 0, .int .u64 0, .int .u32 0, .int .u8 0, .slice none 0 0, .slice none 0 0] 31)) w2.heap.size zH (.slice none 0 0) (.slice none 0 0) := Fk.new w2 zH (.slice none 0 0) (.slice none 0 0)
  have hxn := (Below.refl w2.heap.size w2).alloc (Nat.le_refl _) (.cells #[.int .i64 0, .bool false, .bool false, .bool false, .int .u8 0, .int .u16 0, .int .i64 0, .int .u16 0, .int .u64 0, .int .i64 0, .int .u16 0, .int .u64 0, .int .u32 0, .int .u8 0, .slice none 0 0, .slice none 0 0] 31)
  go_upto_region 2 with ((with_reducible refine wpList_store_frame (op := ⟨none, _, _, _, _, _⟩) ?_ (.tmp 3) (.tmp 18) ?_ ?_ (h := h) (p := .slice pa P.length pc) (m := .slice ma M.length mc) ?_ hKn ?_ ?_ ?_); (· exact rfl); (· exact rfl); (· exact rfl); (· exact rfl); (· exact rfl); (· exact rfl); intro w3 hR3 hO3)
  have hbn := hxn.trans (hO3.below (Nat.le_refl _) (by simp))
  have hI1 := hI1.below hbn
  have hI2 := hI2.below hbn
  have hB := hB.trans (hbn.mono hB.size)
  have hF3 := hR3.out
  clear hKn hxn hbn hR3 hO3
  generalize w2.heap.size = b3 at *
  have hBs := hB.size
  have h34 := hF3.lt
  have hKn : Fk (w3.alloc (.cells #[.int .i64 0, .bool false, .bool false, .bool false, .int .u8 0, .int .u16 0, .int .i64 0, .int .u16 0, .int .u64 0, .int .i64 0, .int .u16 0, .int .u64 0, .int .u32 0, .int .u8 0, .slice none 0 0, .slice none 0 0] 31)) w3.heap.size zH (.slice none 0 0) (.slice none 0 0) := Fk.new w3 zH (.slice none 0 0) (.slice none 0 0)
  have hxn := (Below.refl w3.heap.size w3).alloc (Nat.le_refl _) (.cells #[.int .i64 0, .bool false, .bool false, .bool false, .int .u8 0, .int .u16 0, .int .i64 0, .int .u16 0, .int .u64 0, .int .i64 0, .int .u16 0, .int .u64 0, .int .u32 0, .int .u8 0, .slice none 0 0, .slice none 0 0] 31)
  go_upto_region 3 with (first | ((with_reducible refine wpList_load_frame (op := ⟨some 19, _, _, _, _, _⟩) ?_ (.tmp 3) ?_ ?_ hF3 ?_); (· exact rfl); (· exact rfl); (· exact rfl)) | ((with_reducible refine wpList_store_frameK (op := ⟨none, _, _, _, _, _⟩) ?_ (.tmp 4) (.tmp 19) ?_ ?_ (h := h) (p := .slice pa P.length pc) (m := .slice ma M.length mc) ?_ hKn ?_ ?_ ?_); (· exact rfl); (· exact rfl); (· exact rfl); (· exact rfl); (· exact rfl); (· exact rfl); intro w4 hR4 hO4))
  have hbn := hxn.trans (hO4.below (Nat.le_refl _) (by simp))
  have hF3 := hF3.below hbn hF3.lt
  have hI1 := hI1.below hbn
  have hI2 := hI2.below hbn
  have hB := hB.trans (hbn.mono hB.size)
  have hK4 := hR4.out
  have hw4 : w.heap.size ≤ w3.heap.size := hBs
  have hBs := hB.size
  clear hKn hxn hbn hR4 hO4
  generalize w3.heap.size = b4 at *
  have G0 := gr_new w4 w4.heap.size (Nat.le_refl _)
  have B0 := (Below.refl w4.heap.size w4).alloc (Nat.le_refl _) (.cells #[] 5)
  have hIc := hI1.below B0
  have cc := (hF3.below B0 hF3.lt).cells.2.2.2.2.2.2.2.2.2.2.2.2.2.2.1
  have h4l := hK4.lt
  go_upto_region 4 with (with_reducible refine wpList_append_bytes (o := ⟨some 23, _, _, _, _, _⟩) rfl (.tmp 20) (.tmp 22) rfl (.slice (some ⟨w4.heap.size, 0, none⟩) 0 0) rfl pa P.length pc rfl w4.heap.size [] P G0 hIc (by simp; omega) w4 B0 B0.size ?_; intro vq w5 hGq hBq _; have hGq := hGq.out; rw [List.nil_append] at hGq; obtain ⟨va, vc, hvq⟩ := hGq.form; subst hvq; have hK4 := hK4.below hBq h4l; have c4z := hK4.fr.cells.2.2.2.2.2.2.2.2.2.2.2.2.2.2.1; have f4z := hK4.frozen 14)
  have hOq := Only.set b4 14 w5 (.slice va P.length vc)
  have hK4n := hK4.set (h' := h) (p' := .slice va P.length vc) (m' := .slice ma M.length mc) 14 (.slice va P.length vc) rfl
  have hF3n := (hF3.below hBq hF3.lt).only hOq (Nat.lt_of_lt_of_le hF3.lt hBq.size) (by omega)
  have hI1n := (hI1.below hBq).only hOq (fun x hx hc => by have := hPb x hx hc; omega)
  have hI2n := (hI2.below hBq).only hOq (fun x hx hc => by have := hMb x hx hc; omega)
  have hBn := (hB.trans (hBq.mono hB.size)).trans (hOq.below hw4 (Nat.le_trans hB.size hBq.size))
  have hQ1 : Gr (w5.setCell ⟨b4, 14, none⟩ (.slice va P.length vc)) w4.heap.size (.slice va P.length vc) P := ownsRow_setCell_below (a := ⟨b4, 14, none⟩) hGq h4l _
  have h4n : b4 < w4.heap.size := h4l
  clear hOq hK4 hF3 hB hGq hBq c4z f4z cc hIc G0 B0 hBs hI1 hI2 h4l
  have hK4 := hK4n
  have hF3 := hF3n
  have hI1 := hI1n
  have hI2 := hI2n
  have hB := hBn
  have hBs := hB.size
  clear hK4n hF3n hBn hI1n hI2n
  generalize w5.setCell _ _ = w6 at *
  have hb4q := h4n
  clear h4n
  have G0 := gr_new w6 w6.heap.size (Nat.le_refl _)
  have B0 := (Below.refl w6.heap.size w6).alloc (Nat.le_refl _) (.cells #[] 5)
  have hIc := hI2.below B0
  have cc := (hF3.below B0 hF3.lt).cells.2.2.2.2.2.2.2.2.2.2.2.2.2.2.2
  have h4l := hK4.lt
  go_upto_region 5 with (with_reducible refine wpList_append_bytes (o := ⟨some 28, _, _, _, _, _⟩) rfl (.tmp 25) (.tmp 27) rfl (.slice (some ⟨w6.heap.size, 0, none⟩) 0 0) rfl ma M.length mc rfl w6.heap.size [] M G0 hIc (by simp; omega) w6 B0 B0.size ?_; intro vq w7 hGq hBq _; have hGq := hGq.out; rw [List.nil_append] at hGq; obtain ⟨na, nc, hvq⟩ := hGq.form; subst hvq; have hK4 := hK4.below hBq h4l; have c4z := hK4.fr.cells.2.2.2.2.2.2.2.2.2.2.2.2.2.2.2; have f4z := hK4.frozen 15)
  have hOq := Only.set b4 15 w7 (.slice na M.length nc)
  have hK4n := hK4.set (h' := h) (p' := .slice va P.length vc) (m' := .slice na M.length nc) 15 (.slice na M.length nc) rfl
  have hF3n := (hF3.below hBq hF3.lt).only hOq (Nat.lt_of_lt_of_le hF3.lt hBq.size) (by omega)
  have hI1n := (hI1.below hBq).only hOq (fun x hx hc => by have := hPb x hx hc; omega)
  have hI2n := (hI2.below hBq).only hOq (fun x hx hc => by have := hMb x hx hc; omega)
  have hBn := (hB.trans (hBq.mono hB.size)).trans (hOq.below hw4 (Nat.le_trans hB.size hBq.size))
  have hQ2 : Gr (w7.setCell ⟨b4, 15, none⟩ (.slice na M.length nc)) w6.heap.size (.slice na M.length nc) M := ownsRow_setCell_below (a := ⟨b4, 15, none⟩) hGq h4l _
  have hQ1n := ownsRow_setCell_below (a := ⟨b4, 15, none⟩) (hQ1.below hBq) hb4q (.slice na M.length nc)
  have h4n : b4 < w6.heap.size := h4l
  clear hOq hK4 hF3 hB hGq hBq c4z f4z cc hIc G0 B0 hBs hI1 hI2 h4l
  have hK4 := hK4n
  have hF3 := hF3n
  have hI1 := hI1n
  have hI2 := hI2n
  have hB := hBn
  have hBs := hB.size
  clear hK4n hF3n hBn hI1n hI2n
  clear hQ1
  have hQ1 := hQ1n
  clear hQ1n
  generalize w7.setCell _ _ = w8 at *
  have hH200 : (hdrL h P.length M.length P).length ≤ 200 := by
    have := length_preL_le h
    unfold hdrL
    by_cases hc : validF h P.length (if h.se then 4 else M.length) = true
    · rw [if_pos hc]; unfold headL; rw [List.length_append]; omega
    · rw [if_neg hc]; simp
  have jH := fun w hJ hM => Header_any h pa P.length pc P ma M.length mc M w hok hJ hM
  have jE := fun w hJ hM => encode_yes h pa P.length pc P ma M.length mc M w hok hJ hM hv
  obtain ⟨q5, q127⟩ := length_of_valid h _ _ hv
  rw [← length_encL h P M] at q5 q127
  obtain ⟨de0, de1, de2, de3⟩ := dec_enc h P M hok hv
  have jD := fun a n c w hJ => dec_ok a n c (encL h P M) w hJ de0
  rw [de1, de2, de3] at jD
  generalize hdrL h P.length M.length P = L1 at *
  generalize encL h P M = L2 at *
  clear de0 de1 de2 de3 hv
  go_wp2_with ((with_reducible refine wpList_load_frame (op := ⟨some 30, _, _, _, _, _⟩) ?_ (.tmp 3) ?_ ?_ hF3 ?_); (· exact rfl); (· exact rfl); (· exact rfl))
  with_reducible refine (jH _ hI1 hI2).mono ?_
  rintro e9 w9 ⟨v1, rfl, hG1, hX⟩
  obtain ⟨k1, k1a, k1c, hv1, hc1, hk1, hS1⟩ := hG1.pick
  subst hv1
  have s9 := hX.size
  clear jH hG1
  go_wp2_with ((with_reducible refine wpList_load_frame (op := ⟨some 33, _, _, _, _, _⟩) ?_ (.tmp 3) ?_ ?_ (hF3.below hX hF3.lt) ?_); (· exact rfl); (· exact rfl); (· exact rfl))
  with_reducible refine (jE _ (hI1.below hX) (hI2.below hX)).mono ?_
  rintro e10 w10 ⟨g2, rfl, hg2, hO2, hb10⟩
  clear jE
  have s10 := hb10.size
  have hX := hX.trans (hb10.mono s9)
  have hS1 := hS1.below hb10 (fun h => (hk1 h).2.2)
  have G0 := gr_new w10 w10.heap.size (Nat.le_refl _)
  have B0 := (Below.refl w10.heap.size w10).alloc (Nat.le_refl _) (.cells #[] 5)
  have hg2l := hO2.lt
  have hI3 := (hO2.isB (by omega)).below B0
  go_upto_region 8 with (with_reducible refine wpList_append_bytes (o := ⟨some 39, _, _, _, _, _⟩) rfl (.tmp 37) (.tmp 38) rfl (.slice (some ⟨w10.heap.size, 0, none⟩) 0 0) rfl (some ⟨g2, 0, none⟩) L2.length L2.length rfl w10.heap.size [] L2 G0 hI3 (by simp; omega) w10 B0 B0.size ?_; intro vq w11 hGq hBq _; have hGq := hGq.out; rw [List.nil_append] at hGq; obtain ⟨k3, k3c, hvq, hk3, hF3b, hc3, hc3m⟩ := hGq.fb (by omega); subst hvq)
  have hO2 := hO2.below hBq hg2l
  have s11 := hBq.size
  have hS1 := hS1.below hBq (fun h => Nat.lt_of_lt_of_le (hk1 h).2.2 s10)
  have hX := hX.trans (hBq.mono (Nat.le_trans s9 s10))
  have hk3l := hF3b.1
  have hBq := hid hBq
  clear G0 B0 hI3
  go_wp2_with fail
  with_reducible refine (jD _ _ _ _ (hO2.isB (by omega))).mono ?_
  rintro e12 w12 ⟨p4, m4, rfl, hGp, hGm, hb12⟩
  clear jD
  obtain ⟨kp, p4a, p4c, hvp, hcp, hkp, hSp⟩ := hGp.pick
  subst hvp
  obtain ⟨km, m4a, m4c, hvm, hcm, hkm, hSm⟩ := hGm.pick
  subst hvm
  have s12 := hb12.size
  have hO2 := hO2.below hb12 (Nat.lt_of_lt_of_le hg2l s11)
  have hS1 := hS1.below hb12 (fun h => Nat.lt_of_lt_of_le (hk1 h).2.2 (Nat.le_trans s10 s11))
  have hF3b := hF3b.below hb12 hk3l
  have hX := hX.trans (hb12.mono (Nat.le_trans s9 (Nat.le_trans s10 s11)))
  have hKn : Fk (w12.alloc (.cells #[.int .i64 0, .bool false, .bool false, .bool false, .int .u8 0, .int .u16 0, .int .i64 0, .int .u16 0, .int .u64 0, .int .i64 0, .int .u16 0, .int .u64 0, .int .u32 0, .int .u8 0, .slice none 0 0, .slice none 0 0] 31)) w12.heap.size zH (.slice none 0 0) (.slice none 0 0) := Fk.new w12 zH (.slice none 0 0) (.slice none 0 0)
  have hxn := (Below.refl w12.heap.size w12).alloc (Nat.le_refl _) (.cells #[.int .i64 0, .bool false, .bool false, .bool false, .int .u8 0, .int .u16 0, .int .i64 0, .int .u16 0, .int .u64 0, .int .i64 0, .int .u16 0, .int .u64 0, .int .u32 0, .int .u8 0, .slice none 0 0, .slice none 0 0] 31)
  go_upto_region 9 with (((with_reducible refine wpList_store_frame (op := ⟨none, _, _, _, _, _⟩) ?_ (.tmp 9) (.tmp 43) ?_ ?_ (h := h) (p := .slice p4a P.length p4c) (m := .slice m4a M.length m4c) ?_ hKn ?_ ?_ ?_); (· exact rfl); (· exact rfl); (· exact rfl); (· exact rfl); (· exact rfl); (· exact rfl); intro w13 hR13 hO13))
  have hbn := hxn.trans (hO13.below (Nat.le_refl _) (by simp))
  have hI0 : FInv w8.heap.size g2 k3 w12.heap.size k1 kp km L1.length P.length M.length L2 h (.slice p4a P.length p4c) (.slice m4a M.length m4c) w8 w13 :=
    ⟨hS1.below hbn (fun h => by have := (hk1 h).2.2; omega), hSp.below hbn (fun h => (hkp h).2.2), hSm.below hbn (fun h => (hkm h).2.2), hO2.below hbn (by omega), hF3b.below hbn (by omega), hR13.out, hX.trans (hbn.mono (by omega))⟩
  clear hbn hKn hxn hS1 hSp hSm hO2 hF3b hX hR13 hO13 hGq hGp hGm hb12 hb10 hBq
  generalize w12.heap.size = b9 at *
  go_wp2_with fail
  go_loopw [11] (fun i wr => ∃ n : Nat, i = .int .i64 n ∧ n ≤ L1.length ∧ FInv w8.heap.size g2 k3 b9 k1 kp km L1.length P.length M.length L2 h (.slice p4a P.length p4c) (.slice m4a M.length m4c) w8 wr) (fun i _ => L1.length - (intOf i).toNat)
  case atStart => exact ⟨0, rfl, by omega, hI0⟩
  case round =>
    clear hI0
    obtain ⟨n, rfl, hn, hJ⟩ := hrel
    by_cases hlt : n < L1.length
    · obtain ⟨rfl, hka, hkb⟩ := hk1 (by omega)
      obtain ⟨l, hl, hf⟩ : ∃ l : List UInt8, l.length = L1.length ∧ FB wr k1 l := hJ.1.resolve_left (by omega)
      obtain ⟨hcell, hfr⟩ := hf.2 n (by omega)
      have hlt2 : (n : Int) < (L1.length : Int) := by omega
      generalize l.getD n 0 = xb at hcell
      have hS := hid (hJ.set k1 n (xb + 1) (by omega) (Nat.le_refl _) (by omega) (by omega) (by omega))
      rw [inc_bv] at hS
      clear hf hl hJ
      go_wp2
      go_roundw
      case rel => exact ⟨n + 1, by go_num, by omega, hS.out⟩
      case measure => simp [intOf]; omega
    · have hlt2 : ¬ ((n : Int) < (L1.length : Int)) := by omega
      clear hlt hn
      go_wp2_with fail
      go_loopw [12] (fun i wr => ∃ n : Nat, i = .int .i64 n ∧ n ≤ P.length ∧ FInv w8.heap.size g2 k3 b9 k1 kp km L1.length P.length M.length L2 h (.slice p4a P.length p4c) (.slice m4a M.length m4c) w8 wr) (fun i _ => P.length - (intOf i).toNat)
      case atStart => exact ⟨0, rfl, by omega, hJ⟩
      case round =>
        clear hJ
        obtain ⟨n, rfl, hn, hJ⟩ := hrel
        have c9 := hJ.2.2.2.2.2.1.cells.2.2.2.2.2.2.2.2.2.2.2.2.2.2.1
        by_cases hlt : n < P.length
        · obtain ⟨rfl, hka, hkb⟩ := hkp (by omega)
          obtain ⟨l, hl, hf⟩ : ∃ l : List UInt8, l.length = P.length ∧ FB wr kp l := hJ.2.1.resolve_left (by omega)
          obtain ⟨hcell, hfr⟩ := hf.2 n (by omega)
          have hlt2 : (n : Int) < (P.length : Int) := by omega
          generalize l.getD n 0 = xb at hcell
          have hS := hid (hJ.set kp n (xb + 1) (by omega) (Nat.le_refl _) (by omega) (by omega) (by omega))
          rw [inc_bv] at hS
          clear hf hl hJ
          go_wp2
          go_roundw
          case rel => exact ⟨n + 1, by go_num, by omega, hS.out⟩
          case measure => simp [intOf]; omega
        · have hlt2 : ¬ ((n : Int) < (P.length : Int)) := by omega
          clear hlt hn
          go_wp2_with fail
          go_loopw [13] (fun i wr => ∃ n : Nat, i = .int .i64 n ∧ n ≤ M.length ∧ FInv w8.heap.size g2 k3 b9 k1 kp km L1.length P.length M.length L2 h (.slice p4a P.length p4c) (.slice m4a M.length m4c) w8 wr) (fun i _ => M.length - (intOf i).toNat)
          case atStart => exact ⟨0, rfl, by omega, hJ⟩
          case round =>
            clear hJ
            obtain ⟨n, rfl, hn, hJ⟩ := hrel
            have c9 := hJ.2.2.2.2.2.1.cells.2.2.2.2.2.2.2.2.2.2.2.2.2.2.2
            by_cases hlt : n < M.length
            · obtain ⟨rfl, hka, hkb⟩ := hkm (by omega)
              obtain ⟨l, hl, hf⟩ : ∃ l : List UInt8, l.length = M.length ∧ FB wr km l := hJ.2.2.1.resolve_left (by omega)
              obtain ⟨hcell, hfr⟩ := hf.2 n (by omega)
              have hlt2 : (n : Int) < (M.length : Int) := by omega
              generalize l.getD n 0 = xb at hcell
              have hS := hid (hJ.set km n (xb + 1) (by omega) (Nat.le_refl _) (by omega) (by omega) (by omega))
              rw [inc_bv] at hS
              clear hf hl hJ
              go_wp2
              go_roundw
              case rel => exact ⟨n + 1, by go_num, by omega, hS.out⟩
              case measure => simp [intOf]; omega
            · have hlt2 : ¬ ((n : Int) < (M.length : Int)) := by omega
              clear hlt hn
              have hO := hJ.2.2.2.1
              have hKB := hJ.2.2.2.2.1
              have hBl := hJ.2.2.2.2.2.2
              clear hJ
              have jS := same_any _ _ _ L2 _ _ _ L2 wr (hO.isB (by omega)) (hKB.isB L2.length k3c rfl hc3 (by omega) hc3m)
              rw [show (L2 == L2) = true from by simp] at jS
              go_wp2_with fail
              with_reducible refine jS.mono ?_
              rintro e20 w20 ⟨rfl, hb20⟩
              clear jS hKB
              have hO := hO.below hb20 hO.lt
              have hBl := hBl.trans (hb20.mono hBl.size)
              go_wp2_with fail
              go_loopw [15] (fun i wr => ∃ n : Nat, i = .int .i64 n ∧ n ≤ L2.length ∧ (∃ l : List UInt8, l.length = L2.length ∧ Own wr g2 l) ∧ Below w8.heap.size w8 wr) (fun i _ => L2.length - (intOf i).toNat)
              case atStart => exact ⟨0, rfl, by omega, ⟨L2, rfl, hO⟩, hBl⟩
              case round =>
                clear hO hBl hb20
                obtain ⟨n, rfl, hn, ⟨l, hl, hO⟩, hBl⟩ := hrel
                by_cases hlt : n < L2.length
                · have hcell := hO.cell n (by omega)
                  have hfr := hO.frozen n
                  have hlt2 : (n : Int) < (L2.length : Int) := by omega
                  generalize l.getD n 0 = xb at hcell
                  have hS := hid (hO.set n (bv (xb + 1)) (xb + 1) rfl)
                  rw [inc_bv] at hS
                  have hBl := hBl.setCell (p := ⟨g2, n, none⟩) (show w8.heap.size ≤ g2 by omega) (.int .u8 (((xb.toNat : Int) + 1) % 256))
                  clear hO
                  go_wp2
                  go_roundw
                  case rel => exact ⟨n + 1, by go_num, by omega, ⟨_, by rw [List.length_set]; exact hl, hS.out⟩, hBl⟩
                  case measure => simp [intOf]; omega
                · have hlt2 : ¬ ((n : Int) < (L2.length : Int)) := by omega
                  clear hlt hn hO
                  have hF3 := hF3.below hBl hF3.lt
                  have hF4 := hK4.fr.below hBl hK4.lt
                  obtain ⟨y1, y2, hy1, hJ1⟩ := Gr.isB hQ1 (by omega)
                  cases hy1
                  obtain ⟨y3, y4, hy3, hJ2⟩ := Gr.isB hQ2 (by omega)
                  cases hy3
                  have hI1 := hI1.below hBl
                  have hI2 := hI2.below hBl
                  have hJ1 := hJ1.below hBl
                  have hJ2 := hJ2.below hBl
                  have hB := hB.trans (hBl.mono hBs)
                  clear hBl
                  go_wp2_with fail
                  with_reducible refine (known_any _).mono ?_
                  rintro e22 w22 ⟨rfl, hb22⟩
                  have hF3 := hF3.below hb22 hF3.lt
                  have hF4 := hF4.below hb22 hF4.lt
                  have hI1 := hI1.below hb22
                  have hI2 := hI2.below hb22
                  have hJ1 := hJ1.below hb22
                  have hJ2 := hJ2.below hb22
                  have hB := hB.trans (hb22.mono hB.size)
                  go_wp2_with (first | ((with_reducible refine wpList_load_frame_on (op := ⟨some 105, _, _, _, _, _⟩) ?_ (.tmp 3) ?_ ?_ hF3 ?_); (· exact rfl); (· exact rfl); (· exact rfl)) | ((with_reducible refine wpList_load_frame_on (op := ⟨some 106, _, _, _, _, _⟩) ?_ (.tmp 4) ?_ ?_ hF4 ?_); (· exact rfl); (· exact rfl); (· exact rfl)))
                  with_reducible refine (rsame_eq h pa P.length pc P ma M.length mc M va vc na nc _ hI1 hI2 hJ1 hJ2).mono ?_
                  rintro e23 w23 ⟨rfl, hb23⟩
                  have hB := hB.trans (hb23.mono hB.size)
                  go_wp2_with fail
                  go_ret
                  exact ⟨rfl, hB⟩
end Go.Proofs.Ytoboflcdiladpaa
