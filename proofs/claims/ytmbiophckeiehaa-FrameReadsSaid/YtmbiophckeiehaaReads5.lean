/-
  Decode against the reference, for all bytes: the law's walk.
-/
import Derived.Test.YtmbiophckeiehaaRdSame
import Derived.Test.YtmbiophckeiehaaAppKeep
import Derived.Test.YtmbiophckeiehaaKnown05
import Derived.Test.YtmbiophckeiehaaViewInts
import Derived.Test.YtmbiophckeiehaaMod
namespace Go.Proofs.Ytmbiophckeiehaa
open Go.RowKit
set_option linter.unusedSimpArgs false
set_option linter.unusedVariables false

theorem renc_yes (h : Hd) (a : Option Addr) (n c : Nat) (P : List UInt8) (b : Option Addr) (k d : Nat) (M : List UInt8) (w : World) (ho : HOk h) (hJ : IsB w a n c P) (hM : IsB w b k d M) (hn : n ≤ 140737488355000) (hv : validF h n k = true) :
    Calls Try.prog 11 #[fv h (.slice a n c) (.slice b k d)] w (fun e w' => ∃ v, e = .returned (.tuple #[v, .int .i64 0]) ∧ Gr w' w.heap.size v (encL h P M) ∧ Below w.heap.size w w') := by
  refine (rencode_any h a n c P b k d M w ho hJ hM hn).mono ?_
  intro e w' hh
  rw [hv] at hh
  unfold RetEncR at hh
  rwa [if_pos rfl] at hh
theorem xor_u8b (x y : Int) (hx : 0 ≤ x ∧ x < 256) (hy : 0 ≤ y ∧ y < 256) : ∃ z : UInt8, bits .xor .u8 x y = (z.toNat : Int) := by
  obtain ⟨x, rfl⟩ := Int.eq_ofNat_of_zero_le hx.1
  obtain ⟨y, rfl⟩ := Int.eq_ofNat_of_zero_le hy.1
  refine ⟨UInt8.ofNat ((BitVec.ofInt 8 (x : Int) ^^^ BitVec.ofInt 8 (y : Int)).toNat), ?_⟩
  show IntKind.u8.wrap ((BitVec.ofInt 8 (x : Int) ^^^ BitVec.ofInt 8 (y : Int)).toNat : Int) = _
  have := (BitVec.ofInt 8 (x : Int) ^^^ BitVec.ofInt 8 (y : Int)).isLt
  generalize (BitVec.ofInt 8 (x : Int) ^^^ BitVec.ofInt 8 (y : Int)).toNat = q at *
  rw [UInt8.toNat_ofNat', IntKind.wrap_u8]
  omega
theorem isB_gr {w : World} {B g n cap : Nat} {l : List UInt8} (h : Gr w B (.slice (some ⟨g, 0, none⟩) n cap) l) (hn : l.length = n) (hm : n ≤ 281474976710656) : IsB w (some ⟨g, 0, none⟩) n cap l := by
  subst hn
  obtain ⟨a, c, e, hI⟩ := h.isB hm
  injection e with e1 e2 e3
  subst e1 e3
  exact hI
theorem slice_head_own (g len cap k : Nat) (hk : k ≤ len) (hc : len ≤ cap) (hp : 0 < cap) (W : World) :
    (Instr.slice 29 (.slice (some ⟨g, 0, none⟩) len cap) none (some (.int .i64 (k : Int))) none).run Try.prog W = .ok (.slice (some ⟨g, 0, none⟩) k cap) W := by
  rw [run_slice_h (P := Try.prog) (w := W) 29 (some ⟨g, 0, none⟩) len cap (by kernel_rfl) .i64 (k : Int) (by omega) (by omega), run_size_bytes]
  have : ¬cap = 0 := by omega
  simp [Result.andThen, sliced, this, Addr.add_lit]

set_option maxHeartbeats 8000000 in
set_option maxRecDepth 100000 in
theorem reads_walk (a : Option Addr) (len cap : Nat) (l : List UInt8) (ta : Option Addr) (tlen tcap : Nat) (n y cu : Int) (w : World) (hb : IsB w a len cap l) (hcap : cap ≤ 140737488351232) (hI : IsI w ta tlen tcap) (hn : I64 n) (hy : 0 ≤ y ∧ y < 256) (hcu : I64 cu) :
    Calls Try.prog 4 #[.slice a len cap, .slice ta tlen tcap, .int .i64 n, .int .u8 y, .int .i64 cu] w (RetS (.bool true) w) := by
  have hle := hb.le
  have hb0 := hb
  go_enter Try.func4, Try.ntmps4
  go_wp2_with fail
  with_reducible refine (new_any ta tlen tcap w hI).mono ?_
  rintro e1 w1 ⟨g, rfl, hg, hT1, hB1⟩
  go_wp2_with fail
  with_reducible refine (anyframe_any g w1 hT1).mono ?_
  rintro e2 w2 ⟨h, p, m, P, M, rfl, hok, hv, hGp, hGm, hT2, hO2⟩
  obtain ⟨pa, pc, rfl⟩ := hGp.form
  obtain ⟨ma, mc, rfl⟩ := hGm.form
  obtain ⟨hP127, hM4⟩ := valid_small h _ _ hv
  have hB := hB1.trans (hO2.below hg hB1.size)
  clear hT1 hB1 hT2 hO2 hI
  have hb := hb.below hB
  obtain ⟨p1, p2, hp1, hI1⟩ := hGp.isB (by omega)
  obtain ⟨m1, m2, hm1, hI2⟩ := hGm.isB (by omega)
  cases hp1
  cases hm1
  clear hGp hGm
  have jE := fun w hJ hM => renc_yes h pa P.length pc P ma M.length mc M w hok hJ hM (by omega) hv
  obtain ⟨q5, q127⟩ := length_of_valid h _ _ hv
  rw [← length_encL h P M] at q5 q127
  generalize encL h P M = L at *
  have hx := (Below.refl w2.heap.size w2).alloc (Nat.le_refl _) (.cells #[.int .i64 0, .bool false, .bool false, .bool false, .int .u8 0, .int .u16 0, .int .i64 0, .int .u16 0, .int .u64 0, .int .i64 0, .int .u16 0, .int .u64 0, .int .u32 0, .int .u8 0, .slice none 0 0, .slice none 0 0] 31)
  have hK : Fk (w2.alloc (.cells #[.int .i64 0, .bool false, .bool false, .bool false, .int .u8 0, .int .u16 0, .int .i64 0, .int .u16 0, .int .u64 0, .int .i64 0, .int .u16 0, .int .u64 0, .int .u32 0, .int .u8 0, .slice none 0 0, .slice none 0 0] 31)) w2.heap.size zH (.slice none 0 0) (.slice none 0 0) := Fk.new w2 zH (.slice none 0 0) (.slice none 0 0)
  go_upto_region 2 with (((with_reducible refine wpList_store_frame (op := ⟨none, _, _, _, _, _⟩) ?_ (.tmp 11) (.tmp 18) ?_ ?_ (h := h) (p := (.slice pa P.length pc)) (m := (.slice ma M.length mc)) ?_ hK ?_ ?_ ?_); (· exact rfl); (· exact rfl); (· exact rfl); (· exact rfl); (· exact rfl); (· exact rfl); intro w3 hR3 hO3))
  have hbx := hx.trans (hO3.below (Nat.le_refl _) (by simp))
  have hF := hR3.out
  have hI1 := hI1.below hbx
  have hI2 := hI2.below hbx
  have hb := hb.below hbx
  have hB := hB.trans (hbx.mono hB.size)
  clear hK hx hO3 hR3 hbx
  generalize w2.heap.size = b11 at *
  go_wp2_with ((with_reducible refine wpList_load_frame (op := ⟨some 20, _, _, _, _, _⟩) ?_ (.tmp 11) ?_ ?_ hF ?_); (· exact rfl); (· exact rfl); (· exact rfl))
  with_reducible refine (jE _ hI1 hI2).mono ?_
  rintro e4 w4 ⟨v4, rfl, hG4, hb4⟩
  have hb := hb.below hb4
  have hB := hB.trans (hb4.mono hB.size)
  obtain ⟨ca, cc, rfl, hC⟩ := hG4.isB (by omega)
  clear jE hI1 hI2 hF hb4 hv hok hP127 hM4 hG4
  obtain ⟨K, hK⟩ : ∃ K, L.length = K + 2 := ⟨L.length - 2, by omega⟩
  have hlt2 : ¬ (((K + 2 : Nat) : Int) < 2) := by omega
  have hK3 : 3 ≤ K := by omega
  have hK125 : K ≤ 125 := by omega
  rw [hK] at hC ⊢
  have hs4 := hB.size
  have hb4w := hB
  have hC4 := hC
  obtain ⟨sa, hsl, hIs⟩ := slice_head hC K (by omega)
  obtain ⟨X, hX⟩ : ∃ X, X = L.take K := ⟨_, rfl⟩
  have hXl : X.length = K := by rw [hX, List.length_take]; omega
  rw [← hX] at hIs
  clear hX
  have hna := (Below.refl w4.heap.size w4).alloc (Nat.le_refl _) (.cells #[] 5)
  have hIsn := hIs.below hna
  go_upto_region 6 with ((with_reducible refine wpList_append_bytes (o := ⟨some 38, _, _, _, _, _⟩) rfl (.tmp 32) (.tmp 37) rfl (.slice (some ⟨w4.heap.size, 0, none⟩) 0 0) rfl sa K cc rfl w4.heap.size [] X (gr_new w4 _ (Nat.le_refl _)) hIsn (by simp; omega) w4 hna (by simp) ?_); intro v5 w5 hG5 hb5 hN5; replace hG5 : Hid (Gr w5 w4.heap.size v5 X) := hid hG5.out)
  obtain ⟨g14, cap14, rfl, hg14, hFB, hc14, hcm14⟩ := hG5.out.fb (by omega)
  rw [hXl] at hG5 hc14 ⊢
  have hG := hG5.out
  have hB := hB.trans (hb5.mono hB.size)
  have hBz := hb5
  clear hsl hIs hna hIsn hG5 hb5 hN5
  have hm0 := Int.emod_nonneg n (show (K : Int) ≠ 0 by omega)
  have hm1 := Int.emod_lt_of_pos n (show (0 : Int) < (K : Int) by omega)
  have jM := fun w => mod_any n (K : Int) w (by omega) (by omega) hn
  generalize n % (K : Int) = x at *
  obtain ⟨x, rfl⟩ := Int.eq_ofNat_of_zero_le hm0
  have hxK : x < K := by omega
  have d1 := (hFB.2 x (by omega)).1
  have d2 := (hFB.2 x (by omega)).2
  clear hFB
  obtain ⟨z, hz⟩ := xor_u8b ((X.getD x 0).toNat : Int) y ⟨by omega, by have := (X.getD x 0).toNat_lt; omega⟩ hy
  have hG7 := hG.set hXl x z
  have hbv : bv z = .int .u8 (bits .xor .u8 ((X.getD x 0).toNat : Int) y) := by rw [hz]; rfl
  rw [hbv] at hG7
  have hB7 := hB.setCell (p := ⟨g14, x, none⟩) (Nat.le_trans hs4 hg14) (.int .u8 (bits .xor .u8 ((X.getD x 0).toNat : Int) y))
  have hBz7 := hBz.setCell (p := ⟨g14, x, none⟩) hg14 (.int .u8 (bits .xor .u8 ((X.getD x 0).toNat : Int) y))
  obtain ⟨X2, hX2⟩ : ∃ X2, X2 = X.set x z := ⟨_, rfl⟩
  have hX2l : X2.length = K := by rw [hX2, List.length_set, hXl]
  rw [← hX2] at hG7
  generalize X.getD x 0 = xb at *
  clear hX2 hbv hz hm0 hm1 hG hB hBz hb hC
  go_wp2_with fail
  with_reducible refine (jM _).mono ?_
  rintro e6 w6 ⟨rfl, rfl⟩
  clear jM
  go_upto_region 7 with (fail)
  clear d1 d2
  generalize w5.setCell _ _ = w7 at *
  have hB := hB7
  have hBz := hBz7
  have hG := hG7
  clear hB7 hBz7 hG7
  have hm0 := Int.emod_nonneg cu (show (K : Int) + 1 ≠ 0 by omega)
  have hm1 := Int.emod_lt_of_pos cu (show (0 : Int) < (K : Int) + 1 by omega)
  have jM := fun w => mod_any cu ((K : Int) + 1) w (by omega) (by omega) hcu
  generalize cu % ((K : Int) + 1) = q at *
  obtain ⟨q, rfl⟩ := Int.eq_ofNat_of_zero_le hm0
  have hqK : q ≤ K := by omega
  have hsh := slice_head_own g14 K cap14 q hqK hc14 (by omega)
  clear hm0 hm1
  go_wp2_with fail
  with_reducible refine (jM _).mono ?_
  rintro e6 w6 ⟨rfl, rfl⟩
  clear jM
  go_upto_region 8 with (fail)
  clear hsh
  obtain ⟨pt, rt, kt, htl, hIt0, hrt⟩ := slice_tail_at hC4 K (K : Int) rfl (by omega)
  have hrt2 : rt = 2 := by have := hIt0.length; rw [List.length_drop, hK] at this; omega
  subst hrt2
  obtain ⟨tb, toff, rfl, _, _⟩ := hIt0.some (by decide)
  obtain ⟨TL, hTL⟩ : ∃ T, T = L.drop K := ⟨_, rfl⟩
  rw [← hTL] at hIt0
  have hTl : TL.length = 2 := hIt0.length
  clear hTL
  go_wp2_with fail
  with_reducible refine (known_any _).mono ?_
  rintro e8 w8 ⟨rfl, hbx⟩
  have hG := hG.below hbx
  have hB := hB.trans (hbx.mono hB.size)
  have hBz := hBz.trans (hbx.mono hBz.size)
  clear hbx
  go_wp2_with fail
  with_reducible refine (rsame_read _ _ _ l _ (hb0.below hB)).mono ?_
  rintro e9 w9 ⟨rfl, hbx⟩
  have hG := hG.below hbx
  have hB := hB.trans (hbx.mono hB.size)
  have hBz := hBz.trans (hbx.mono hBz.size)
  clear hbx
  go_wp2_with fail
  with_reducible refine (rsame_read _ _ _ L _ (hC4.below hBz)).mono ?_
  rintro e10 w10 ⟨rfl, hbx⟩
  have hG := hG.below hbx
  have hB := hB.trans (hbx.mono hB.size)
  have hBz := hBz.trans (hbx.mono hBz.size)
  clear hbx
  have hIt := hIt0.below hBz
  go_wp2_with ((with_reducible refine wpList_append_keep_on (o := ⟨some 72, _, _, _, _, _⟩) ?_ (.tmp 66) (.tmp 71) ?_ g14 K cap14 ?_ ⟨tb, toff, none⟩ 2 kt ?_ w4.heap.size X2 TL hG hX2l hIt (by omega) w4 hBz hg14 hBz.size ?_); (· exact rfl); (· exact rfl); (· exact rfl); (· exact rfl); intro pv pq w11 hIa hGa hBa)
  have hB := (hb4w.trans (hBa.mono hs4))
  have hBz := hBa
  have hG := hGa.out
  have hIa := hIa.out
  clear hBa hGa hIt
  obtain ⟨Y11, hY11⟩ : ∃ Y, Y = X2 ++ TL := ⟨_, rfl⟩
  have hY11l : Y11.length = K + 2 := by rw [hY11, List.length_append, hX2l, hTl]
  rw [← hY11, hY11l] at hIa
  clear hY11
  with_reducible refine (rsame_read _ _ _ Y11 _ hIa).mono ?_
  rintro e12 w12 ⟨rfl, hbx⟩
  have hG := hG.below hbx
  have hB := hB.trans (hbx.mono hB.size)
  have hBz := hBz.trans (hbx.mono hBz.size)
  clear hbx
  clear hIa
  have hcm : K ≤ 1000 := by omega
  have hJ : IsB w12 (some ⟨g14, 0, none⟩) K cap14 X2 := isB_gr hG hX2l (by omega)
  go_wp2_with fail
  with_reducible refine (refAppendCrc_any _ _ _ X2 _ hJ (by omega)).mono ?_
  rintro e13 w13 ⟨v13, rfl, hGv, hbx⟩
  have hG := hG.below hbx
  have hB := hB.trans (hbx.mono hB.size)
  have hBz := hBz.trans (hbx.mono hBz.size)
  clear hbx
  obtain ⟨va, vc, rfl, hIv⟩ := hGv.isB (by rw [length_appL]; omega)
  clear hGv
  obtain ⟨Y13, hY13⟩ : ∃ Y, Y = appL X2 := ⟨_, rfl⟩
  rw [← hY13] at hIv ⊢
  clear hY13
  go_wp2_with fail
  with_reducible refine (rsame_read _ _ _ Y13 _ hIv).mono ?_
  rintro e14 w14 ⟨rfl, hbx⟩
  have hG := hG.below hbx
  have hB := hB.trans (hbx.mono hB.size)
  have hBz := hBz.trans (hbx.mono hBz.size)
  clear hbx
  clear hIv hJ
  have hJ : IsB w14 (some ⟨g14, 0, none⟩) q cap14 (X2.take q) := (isB_gr hG hX2l (by omega)).take q hqK
  have hJl := hJ.length
  go_wp2_with fail
  with_reducible refine (refAppendCrc_any _ _ _ (X2.take q) _ hJ (by omega)).mono ?_
  rintro e15 w15 ⟨v15, rfl, hGv, hbx⟩
  have hG := hG.below hbx
  have hB := hB.trans (hbx.mono hB.size)
  have hBz := hBz.trans (hbx.mono hBz.size)
  clear hbx
  obtain ⟨va, vc, rfl, hIv⟩ := hGv.isB (by rw [length_appL]; omega)
  clear hGv
  obtain ⟨Y15, hY15⟩ : ∃ Y, Y = appL (X2.take q) := ⟨_, rfl⟩
  rw [← hY15] at hIv ⊢
  clear hY15
  go_wp2_with fail
  with_reducible refine (rsame_read _ _ _ Y15 _ hIv).mono ?_
  rintro e16 w16 ⟨rfl, hbx⟩
  have hG := hG.below hbx
  have hB := hB.trans (hbx.mono hB.size)
  have hBz := hBz.trans (hbx.mono hBz.size)
  clear hbx
  clear hIv hJ
  have hJ := hb0.below hB
  have hJl := hJ.length
  go_wp2_with fail
  with_reducible refine (refAppendCrc_any _ _ _ l _ hJ (by omega)).mono ?_
  rintro e17 w17 ⟨v17, rfl, hGv, hbx⟩
  have hG := hG.below hbx
  have hB := hB.trans (hbx.mono hB.size)
  have hBz := hBz.trans (hbx.mono hBz.size)
  clear hbx
  obtain ⟨va, vc, rfl, hIv⟩ := hGv.isB (by rw [length_appL]; omega)
  clear hGv
  obtain ⟨Y17, hY17⟩ : ∃ Y, Y = appL l := ⟨_, rfl⟩
  rw [← hY17] at hIv ⊢
  clear hY17
  go_wp2_with fail
  with_reducible refine (rsame_read _ _ _ Y17 _ hIv).mono ?_
  rintro e18 w18 ⟨rfl, hbx⟩
  have hG := hG.below hbx
  have hB := hB.trans (hbx.mono hB.size)
  have hBz := hBz.trans (hbx.mono hBz.size)
  clear hbx
  go_wp2_with fail
  go_ret
  exact ⟨rfl, hB⟩
end Go.Proofs.Ytmbiophckeiehaa
