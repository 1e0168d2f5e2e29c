/-
  The reference's Header and AckFor: they answer as the program's.
-/
import Derived.Test.YtmbiophckeiehaaRefEnc
import Derived.Test.YtmbiophckeiehaaAck
namespace Go.Proofs.Ytmbiophckeiehaa
open Go.RowKit
set_option linter.unusedSimpArgs false
set_option linter.unusedVariables false

theorem hdr_other (h : Hd) (n k : Nat) (hv : validF h n k = true) : validF h n (if h.se then 4 else k) = true := by
  cases hse : h.se
  · simpa using hv
  · have : k = 4 := by
      unfold validF at hv
      by_cases h2 : h.k = 2
      · rw [if_pos h2] at hv
        have := (of_decide_eq_true hv).2.1
        rw [hse] at this; cases this
      · rw [if_neg h2] at hv
        split at hv
        · have hs := (of_decide_eq_true hv).2.1
          unfold secF at hs
          rw [if_pos hse] at hs
          exact of_decide_eq_true hs
        · cases hv
    rw [← this]; simpa using hv
theorem hdr_none (h : Hd) (n k : Nat) (hv : validF h n k = false) : validF h n (if h.se then 4 else k) = validF h n 4 := by
  cases hse : h.se
  · have : validF h n 4 = false := by
      cases h4 : validF h n 4
      · rfl
      · unfold validF at h4
        by_cases h2 : h.k = 2
        · rw [if_pos h2] at h4
          have hs := (of_decide_eq_true h4).2.2.1
          unfold secF at hs
          rw [if_neg (by rw [hse]; decide)] at hs
          have := (of_decide_eq_true hs).2.2
          omega
        · rw [if_neg h2] at h4
          split at h4
          · have hs := (of_decide_eq_true h4).2.1
            unfold secF at hs
            rw [if_neg (by rw [hse]; decide)] at hs
            have := (of_decide_eq_true hs).2.2
            omega
          · cases h4
    rw [this]; simpa using hv
  · simp

set_option maxHeartbeats 4000000 in
set_option maxRecDepth 100000 in
theorem rHeader_any (h : Hd) (a : Option Addr) (n c : Nat) (P : List UInt8) (b : Option Addr) (k d : Nat) (M : List UInt8) (w : World) (ho : HOk h) (hJ : IsB w a n c P) (hM : IsB w b k d M) (hn : n ≤ 140737488355000) :
    Calls Try.prog 31 #[fv h (.slice a n c) (.slice b k d)] w (RetG (hdrL h n k P) w) := by
  have hMm := hM.max
  have hJ0 := hJ
  have j1 := fun w hJ => rvalid_any5 h a n c P b k d w ho hJ hn hMm
  have HL : Hid (hdrL h n k P = if validF h n (if h.se then 4 else k) = true then headL h P else []) := hid rfl
  generalize hdrL h n k P = L at HL ⊢
  have HO := hid (hdr_other h n k)
  have HN := hid (hdr_none h n k)
  have hF := (Fk.new w h (.slice a n c) (.slice b k d)).fr
  have hK := Fk.new w h (.slice a n c) (.slice b k d)
  have hB := (Below.refl w.heap.size w).alloc (Nat.le_refl _) (.cells (fvl h (.slice a n c) (.slice b k d)).toArray 31)
  have hJ := hJ.below hB
  rw [show fv h (.slice a n c) (.slice b k d) = .agg (fvl h (.slice a n c) (.slice b k d)).toArray from rfl]
  go_enter Try.func31, Try.ntmps31
  go_wp2_with ((with_reducible refine wpList_load_frame (op := ⟨some 3, _, _, _, _, _⟩) ?_ (.tmp 1) ?_ ?_ hF ?_); (· exact rfl); (· exact rfl); (· exact rfl))
  generalize w.alloc _ = w1 at *
  with_reducible refine (j1 _ hJ).mono ?_
  rintro e2 w2 ⟨rfl, hb2⟩
  have hF := hF.below hb2 hF.lt
  have hK := hK.below hb2 hK.lt
  have hJ := hJ.below hb2
  have hB := hB.trans (hb2.mono hB.size)
  clear hb2 j1
  cases hz : validF h n k
  · have hL := HL.out
    rw [HN.out hz] at hL
    replace HL := hid hL
    clear hL HO HN hz
    have hvv := hval_of h n 4 ho
    have hsm := valid_small h n 4
    have hmk := fun u => run_make_bytes 4 4 rfl (by omega) u
    have c15 := hF.cells.2.2.2.2.2.2.2.2.2.2.2.2.2.2.2
    have f15 := hK.frozen 15
    have hxm := (Below.refl w2.heap.size w2).alloc (Nat.le_refl _) (.cells (row (zeros 4)) 5)
    have hK1 := hK.below hxm hK.lt
    have c15' := hK1.fr.cells.2.2.2.2.2.2.2.2.2.2.2.2.2.2.2
    have f15' := hK1.frozen 15
    have hK3 := hK1.setM (.slice (some ⟨w2.heap.size, 0, none⟩) 4 4)
    have hB3 := (hB.trans (hxm.mono hB.size)).setCell (p := ⟨w.heap.size, 15, none⟩) (Nat.le_refl _) (.slice (some ⟨w2.heap.size, 0, none⟩) 4 4)
    have j1 := fun w hJ => rvalid_any5 h a n c P (some ⟨w2.heap.size, 0, none⟩) 4 4 w ho hJ hn (by omega)
    have j2 := fun w hv hJ => rheader_any h a n c P (.slice (some ⟨w2.heap.size, 0, none⟩) 4 4) w hv hJ hn
    generalize validF h n 4 = z at *
    go_upto_region 3 with (fail)
    have hJ := hJ0.below hB3
    have hF := hK3.fr
    have hB := hB3
    clear hK hK1 hK3 hB3 hxm c15 f15 c15' f15' hmk
    generalize World.setCell _ _ _ = w3 at *
    generalize w2.heap.size = b6 at *
    go_wp2_with ((with_reducible refine wpList_load_frame (op := ⟨some 8, _, _, _, _, _⟩) ?_ (.tmp 1) ?_ ?_ hF ?_); (· exact rfl); (· exact rfl); (· exact rfl))
    with_reducible refine (j1 _ hJ).mono ?_
    rintro e4 w4 ⟨rfl, hb4⟩
    have hF := hF.below hb4 hF.lt
    have hJ := hJ.below hb4
    have hB := hB.trans (hb4.mono hB.size)
    clear hb4 j1
    cases z
    · go_wp2_with fail
      go_ret
      exact ⟨_, rfl, by rw [HL.out]; exact Gr.nil _ _, hB⟩
    · obtain ⟨hn8, _⟩ := hsm rfl
      have hV := hvv rfl
      go_wp2_with ((with_reducible refine wpList_load_frame (op := ⟨some 11, _, _, _, _, _⟩) ?_ (.tmp 1) ?_ ?_ hF ?_); (· exact rfl); (· exact rfl); (· exact rfl))
      with_reducible refine (j2 _ hV hJ).mono ?_
      rintro e3 w3 ⟨v, rfl, hG, hb3⟩
      go_wp2_with fail
      go_ret
      exact ⟨v, rfl, by rw [HL.out]; exact hG.mono hB.size, hB.trans (hb3.mono hB.size)⟩
  · have hL := HL.out
    rw [HO.out hz, if_pos rfl] at hL
    replace HL := hid hL
    have hvv := hval_of h n k ho
    have hsm := valid_small h n k
    rw [hz] at hvv hsm
    have j2 := fun w hv hJ => rheader_any h a n c P (.slice b k d) w hv hJ hn
    clear hL HO HN hz
    obtain ⟨hn8, _⟩ := hsm rfl
    have hV := hvv rfl
    go_wp2_with ((with_reducible refine wpList_load_frame (op := ⟨some 11, _, _, _, _, _⟩) ?_ (.tmp 1) ?_ ?_ hF ?_); (· exact rfl); (· exact rfl); (· exact rfl))
    with_reducible refine (j2 _ hV hJ).mono ?_
    rintro e3 w3 ⟨v, rfl, hG, hb3⟩
    go_wp2_with fail
    go_ret
    exact ⟨v, rfl, by rw [HL.out]; exact hG.mono hB.size, hB.trans (hb3.mono hB.size)⟩

set_option maxHeartbeats 4000000 in
set_option maxRecDepth 100000 in
theorem rackfor_any (h : Hd) (a : Option Addr) (n c : Nat) (P : List UInt8) (b : Option Addr) (k d : Nat) (M : List UInt8) (w : World) (ho : HOk h) (hJ : IsB w a n c P) (hM : IsB w b k d M) (hn : n ≤ 140737488355000) :
    Calls Try.prog 23 #[fv h (.slice a n c) (.slice b k d)] w (RetAck h n k w) := by
  have hMm := hM.max
  have j1 := fun w hJ => rvalid_any5 h a n c P b k d w ho hJ hn hMm
  have HA : Hid (ackB h n k = (h.ar && validF h n k)) := hid rfl
  have hF : Fr ((w.alloc (.cells (fvl h (.slice a n c) (.slice b k d)).toArray 31)).alloc (.cells #[.int .i64 0, .bool false, .bool false, .bool false, .int .u8 0, .int .u16 0, .int .i64 0, .int .u16 0, .int .u64 0, .int .i64 0, .int .u16 0, .int .u64 0, .int .u32 0, .int .u8 0, .slice none 0 0, .slice none 0 0] 31)) w.heap.size h (.slice a n c) (.slice b k d) := (Fk.new w h (.slice a n c) (.slice b k d)).fr.below ((Below.refl (w.heap.size + 1) _).alloc (by simp) _) (Nat.lt_succ_self _)
  have hK : Fk ((w.alloc (.cells (fvl h (.slice a n c) (.slice b k d)).toArray 31)).alloc (.cells #[.int .i64 0, .bool false, .bool false, .bool false, .int .u8 0, .int .u16 0, .int .i64 0, .int .u16 0, .int .u64 0, .int .i64 0, .int .u16 0, .int .u64 0, .int .u32 0, .int .u8 0, .slice none 0 0, .slice none 0 0] 31)) (w.heap.size + 1) zH (.slice none 0 0) (.slice none 0 0) := by
    have := Fk.new (w.alloc (.cells (fvl h (.slice a n c) (.slice b k d)).toArray 31)) zH (.slice none 0 0) (.slice none 0 0)
    rw [World.size_alloc] at this
    exact this
  have hB := two_below w (.cells (fvl h (.slice a n c) (.slice b k d)).toArray 31) (.cells #[.int .i64 0, .bool false, .bool false, .bool false, .int .u8 0, .int .u16 0, .int .i64 0, .int .u16 0, .int .u64 0, .int .i64 0, .int .u16 0, .int .u64 0, .int .u32 0, .int .u8 0, .slice none 0 0, .slice none 0 0] 31)
  have hJ := hJ.below hB
  rw [show fv h (.slice a n c) (.slice b k d) = .agg (fvl h (.slice a n c) (.slice b k d)).toArray from rfl]
  go_enter Try.func23, Try.ntmps23
  go_upto_region 1 with (fail)
  have hwl : w.heap.size + 1 < ((w.alloc (.cells (fvl h (.slice a n c) (.slice b k d)).toArray 31)).alloc (.cells #[.int .i64 0, .bool false, .bool false, .bool false, .int .u8 0, .int .u16 0, .int .i64 0, .int .u16 0, .int .u64 0, .int .i64 0, .int .u16 0, .int .u64 0, .int .u32 0, .int .u8 0, .slice none 0 0, .slice none 0 0] 31)).heap.size := by simp
  generalize (w.alloc _).alloc _ = w1 at *
  go_wp2_with ((with_reducible refine wpList_load_frame (op := ⟨some 4, _, _, _, _, _⟩) ?_ (.tmp 1) ?_ ?_ hF ?_); (· exact rfl); (· exact rfl); (· exact rfl))
  generalize hvd : validF h n k = vb at *
  with_reducible refine (j1 _ hJ).mono ?_
  rintro e2 w2 ⟨rfl, hb2⟩
  have hF := hF.below hb2 hF.lt
  have hK := hK.below hb2 hK.lt
  have hB := hB.trans (hb2.mono hB.size)
  clear hb2 j1 hvd
  cases vb
  · have HT : Hid ((h.ar && false) = false) := hid (by simp)
    go_wp2_with ((with_reducible refine wpList_store_frame (op := ⟨none, _, _, _, _, _⟩) ?_ (.tmp 2) (.tmp 12) ?_ ?_ (h := zH) (p := .slice none 0 0) (m := .slice none 0 0) ?_ hK ?_ ?_ ?_); (· exact rfl); (· exact rfl); (· exact rfl); (· exact rfl); (· exact rfl); (· exact rfl); intro wz hRz hOz)
    exact bodyPost_ret (results_dec (v := .bool false) rfl rfl rfl hRz.out) rfl (ack_no (by rw [HA.out, HT.out]) (hB.trans (hOz.below (Nat.le_succ _) hB.size)))
  · have c1 := hF.cells.2.1
    cases har : h.ar
    · have HT : Hid ((h.ar && true) = false) := hid (by rw [har]; rfl)
      rw [har] at c1
      go_wp2_with ((with_reducible refine wpList_store_frame (op := ⟨none, _, _, _, _, _⟩) ?_ (.tmp 2) (.tmp 12) ?_ ?_ (h := zH) (p := .slice none 0 0) (m := .slice none 0 0) ?_ hK ?_ ?_ ?_); (· exact rfl); (· exact rfl); (· exact rfl); (· exact rfl); (· exact rfl); (· exact rfl); intro wz hRz hOz)
      exact bodyPost_ret (results_dec (v := .bool false) rfl rfl rfl hRz.out) rfl (ack_no (by rw [HA.out, HT.out]) (hB.trans (hOz.below (Nat.le_succ _) hB.size)))
    · have HT : Hid ((h.ar && true) = true) := hid (by rw [har]; rfl)
      rw [har] at c1
      have c4 := hF.cells.2.2.2.2.1
      go_wp2_with ((with_reducible refine wpList_store_frame (op := ⟨none, _, _, _, _, _⟩) ?_ (.tmp 2) (.tmp 15) ?_ ?_ (h := ackH h.sq) (p := .slice none 0 0) (m := .slice none 0 0) ?_ hK ?_ ?_ ?_); (· exact rfl); (· exact rfl); (· exact rfl); (· exact rfl); (· exact rfl); (· exact rfl); intro wz hRz hOz)
      exact bodyPost_ret (results_dec (v := .bool true) rfl rfl rfl hRz.out) rfl (ack_yes (by rw [HA.out, HT.out]) (hB.trans (hOz.below (Nat.le_succ _) hB.size)))
end Go.Proofs.Ytmbiophckeiehaa
