/-
  What is decoded is encoded to the same bytes.
-/
import Derived.Test.YtoboflcdiladpaaKnown05
import Derived.Test.YtoboflcdiladpaaAf
import Derived.Test.YtoboflcdiladpaaViewInts
import Derived.Test.YtoboflcdiladpaaRefChk
import Derived.Test.YtoboflcdiladpaaMod
import Derived.Test.YtoboflcdiladpaaSame
namespace Go.Proofs.Ytoboflcdiladpaa
open Go.RowKit
set_option linter.unusedSimpArgs false
set_option linter.unusedVariables false

theorem encode_yes (h : Hd) (a : Option Addr) (n c : Nat) (P : List UInt8) (b : Option Addr) (k d : Nat) (M : List UInt8) (w : World) (ho : HOk h) (hJ : IsB w a n c P) (hM : IsB w b k d M) (hv : validF h n k = true) :
    Calls Try.prog 21 #[fv h (.slice a n c) (.slice b k d)] w (fun e w' => ∃ g, e = .returned (.tuple #[.slice (some ⟨g, 0, none⟩) (encL h P M).length (encL h P M).length, .int .i64 0]) ∧ w.heap.size ≤ g ∧ Own w' g (encL h P M) ∧ Below w.heap.size w w') := by
  refine (encode_any h a n c P b k d M w ho hJ hM).mono ?_
  intro e w' hh
  rw [hv] at hh
  unfold RetEnc at hh
  rwa [if_pos rfl] at hh
theorem dec_ok (a : Option Addr) (n c : Nat) (X : List UInt8) (w : World) (hJ : IsB w a n c X) (he : errD X = 0) :
    Calls Try.prog 22 #[.slice a n c] w (fun e w' => ∃ p m, e = .returned (.tuple #[fv (readH (txt X)) p m, .int .i64 0]) ∧ Gr w' w.heap.size p (readP (txt X)) ∧ Gr w' w.heap.size m (readM (txt X)) ∧ Below w.heap.size w w') := by
  refine (decode_any a n c X w hJ).mono ?_
  intro e w' hh
  unfold RetDec at hh
  rw [he] at hh
  exact hh
theorem dec_bad (a : Option Addr) (n c : Nat) (X : List UInt8) (w : World) (hJ : IsB w a n c X) (he : ¬errD X = 0) :
    Calls Try.prog 22 #[.slice a n c] w (fun e w' => ∃ p m, e = .returned (.tuple #[fv zH p m, .int .i64 (errD X)]) ∧ Gr w' w.heap.size p [] ∧ Gr w' w.heap.size m [] ∧ Below w.heap.size w w') := by
  refine (decode_any a n c X w hJ).mono ?_
  intro e w' hh
  unfold RetDec at hh
  simp only [if_neg he] at hh
  exact hh
theorem txt_le (l : List UInt8) : (txt l).length ≤ l.length := by unfold txt; rw [List.length_take]; omega

theorem xor_u8 (x y : Int) (hx : 0 ≤ x ∧ x < 256) (hy : 0 ≤ y ∧ y < 256) : ∃ z : UInt8, bits .xor .u8 x y = (z.toNat : Int) := by
  obtain ⟨x, rfl⟩ := Int.eq_ofNat_of_zero_le hx.1
  obtain ⟨y, rfl⟩ := Int.eq_ofNat_of_zero_le hy.1
  refine ⟨UInt8.ofNat ((BitVec.ofInt 8 (x : Int) ^^^ BitVec.ofInt 8 (y : Int)).toNat), ?_⟩
  show IntKind.u8.wrap ((BitVec.ofInt 8 (x : Int) ^^^ BitVec.ofInt 8 (y : Int)).toNat : Int) = _
  have := (BitVec.ofInt 8 (x : Int) ^^^ BitVec.ofInt 8 (y : Int)).isLt
  generalize (BitVec.ofInt 8 (x : Int) ^^^ BitVec.ofInt 8 (y : Int)).toNat = q at *
  rw [UInt8.toNat_ofNat', IntKind.wrap_u8]
  omega

set_option maxHeartbeats 8000000 in
set_option maxRecDepth 100000 in
theorem canon_walk (a : Option Addr) (len cap : Nat) (l : List UInt8) (ta : Option Addr) (tlen tcap : Nat) (n y : Int) (w : World) (hb : IsB w a len cap l) (hcap : cap ≤ 140737488351232) (hI : IsI w ta tlen tcap) (hn : I64 n) (hy : 0 ≤ y ∧ y < 256) :
    Calls Try.prog 6 #[.slice a len cap, .slice ta tlen tcap, .int .i64 n, .int .u8 y] w (RetS (.bool true) w) := by
  have hbw := hb
  have hle := hb.le
  go_enter Try.func6, Try.ntmps6
  go_wp2_with fail
  with_reducible refine (new_any ta tlen tcap w hI).mono ?_
  rintro e1 w1 ⟨g, rfl, hg, hT1, hB1⟩
  go_wp2_with fail
  with_reducible refine (anyframe_any g w1 hT1).mono ?_
  rintro e2 w2 ⟨h, p, m, P, M, rfl, hok, hv, hGp, hGm, hT2, hO2⟩
  obtain ⟨pa, pc, rfl⟩ := hGp.form
  obtain ⟨ma, mc, rfl⟩ := hGm.form
  obtain ⟨hP127, hM4⟩ := valid_small h _ _ hv
  have hB := hB1.trans (hO2.below hg hB1.size)
  have hgw : w.heap.size ≤ w1.heap.size := hB1.size
  clear hT1 hB1 hT2 hO2 hI
  have hb := hb.below hB
  obtain ⟨p1, p2, hp1, hI1⟩ := hGp.isB (by omega)
  obtain ⟨m1, m2, hm1, hI2⟩ := hGm.isB (by omega)
  cases hp1
  cases hm1
  have jE := fun w hJ hM => encode_yes h pa P.length pc P ma M.length mc M w hok hJ hM hv
  obtain ⟨q5, q127⟩ := length_of_valid h _ _ hv
  rw [← length_encL h P M] at q5 q127
  generalize encL h P M = L at *
  go_wp2_with fail
  with_reducible refine (jE _ hI1 hI2).mono ?_
  rintro e3 w3 ⟨gb, rfl, hgb, hO, hb3⟩
  have hb := hb.below hb3
  have hs2 := hB.size
  have hB := hB.trans (hb3.mono hB.size)
  clear jE hI1 hI2 hGp hGm hb3 hv hok hP127 hM4
  obtain ⟨K, hK⟩ : ∃ K, L.length = K + 2 := ⟨L.length - 2, by omega⟩
  have hlt5 : ¬ (((K + 2 : Nat) : Int) < 5) := by omega
  have hK3 : 3 ≤ K := by omega
  have hK125 : K ≤ 125 := by omega
  rw [hK]
  have hm0 := Int.emod_nonneg n (show (K : Int) ≠ 0 by omega)
  have hm1 := Int.emod_lt_of_pos n (show (0 : Int) < (K : Int) by omega)
  have jM := fun w => mod_any n (K : Int) w (by omega) (by omega) hn
  generalize n % (K : Int) = x at *
  obtain ⟨x, rfl⟩ := Int.eq_ofNat_of_zero_le hm0
  have hxK : x < K := by omega
  have d1 := hO.cell x (by omega)
  have d2 := hO.frozen x
  obtain ⟨z, hz⟩ := xor_u8 ((L.getD x 0).toNat : Int) y ⟨by omega, by have := (L.getD x 0).toNat_lt; omega⟩ hy
  have hO4 := hO.set x (.int .u8 (bits .xor .u8 ((L.getD x 0).toNat : Int) y)) z (by rw [hz]; rfl)
  have hx4 : Below w.heap.size w (w3.setCell ⟨gb, x, none⟩ (.int .u8 (bits .xor .u8 ((L.getD x 0).toNat : Int) y))) := hB.setCell (Nat.le_trans hs2 hgb) _
  have hb4 : IsB (w3.setCell ⟨gb, x, none⟩ (.int .u8 (bits .xor .u8 ((L.getD x 0).toNat : Int) y))) a len cap l := hb.only (Only.set gb x w3 _) (fun q hq hc => by have := ((hbw.cells q hq).1 hc).2; omega)
  obtain ⟨L2, hL2⟩ : ∃ L2, L2 = L.set x z := ⟨_, rfl⟩
  have hL2l : L2.length = K + 2 := by rw [hL2, List.length_set, hK]
  rw [← hL2] at hO4
  generalize L.getD x 0 = xb at *
  clear hL2 hO hb hB hz hm0 hm1 q5 q127 hK
  go_wp2_with fail
  with_reducible refine (jM _).mono ?_
  rintro e4 w4 ⟨rfl, rfl⟩
  clear jM
  go_upto_region 5 with (fail)
  clear d1 d2
  generalize w3.setCell _ _ = w4 at *
  obtain ⟨sa, hsl, hIs⟩ := slice_head (hO4.isB (by omega)) K (by omega)
  rw [hL2l] at hsl
  obtain ⟨X0, hX0⟩ : ∃ X, X = L2.take K := ⟨_, rfl⟩
  have hX0l : X0.length = K := by rw [hX0, List.length_take]; omega
  rw [← hX0, hL2l] at hIs
  clear hX0 hL2l
  go_wp2_with fail
  with_reducible refine (refAppendCrc_any _ _ _ X0 _ hIs (by omega)).mono ?_
  rintro e5 w5 ⟨v5, rfl, hG5, hb5⟩
  have hb5' := hb4.below hb5
  have hG5 := hG5.mono hx4.size
  have hB5 := hx4.trans (hb5.mono hx4.size)
  go_wp2_with fail
  with_reducible refine (refAppendCrc_any _ _ _ l _ hb5' (by omega)).mono ?_
  rintro e6 w6 ⟨v6, rfl, hG6, hb6⟩
  have hb6' := hb5'.below hb6
  have hG5 := hG5.below hb6
  have hG6 := hG6.mono hB5.size
  have hB6 := hB5.trans (hb6.mono hB5.size)
  obtain ⟨X1, hX1⟩ : ∃ X, X = appL X0 := ⟨_, rfl⟩
  obtain ⟨X2, hX2⟩ : ∃ X, X = appL l := ⟨_, rfl⟩
  rw [← hX1] at hG5
  rw [← hX2] at hG6
  obtain ⟨xa, xc, rfl, hI5⟩ := hG5.isB (by rw [hX1, length_appL]; omega)
  obtain ⟨ya, yc, rfl, hI6⟩ := hG6.isB (by rw [hX2, length_appL]; have := hbw.length; omega)
  clear hX1 hX2 hG5 hG6 hb4 hIs hsl hb5 hb6 hB5 hx4 hO4
  have hxl := (Below.refl w6.heap.size w6).alloc (Nat.le_refl _) (.cells #[.slice a len cap, .slice xa X1.length xc, .slice ya X2.length yc] 29)
  have hcl : (w6.alloc (.cells #[.slice a len cap, .slice xa X1.length xc, .slice ya X2.length yc] 29)).heap[w6.heap.size]? = some (.cells #[.slice a len cap, .slice xa X1.length xc, .slice ya X2.length yc] 29 (0, 0)) := heap_alloc_new w6 _
  have hszl : (w6.alloc (.cells #[.slice a len cap, .slice xa X1.length xc, .slice ya X2.length yc] 29)).heap.size = w6.heap.size + 1 := by simp
  have I0 := hb6'.below hxl
  have I1 := hI5.below hxl
  have I2 := hI6.below hxl
  have hBw := hB6.trans (hxl.mono hB6.size)
  go_upto_region 6 with (fail)
  generalize w6.alloc _ = w7 at *
  generalize w6.heap.size = bl at *
  have hcs : ∀ {wr : World}, Below w7.heap.size w7 wr → wr.cell? ⟨bl, 0, none⟩ = some (.slice a len cap) ∧ wr.cell? ⟨bl, 1, none⟩ = some (.slice xa X1.length xc) ∧ wr.cell? ⟨bl, 2, none⟩ = some (.slice ya X2.length yc) := fun {wr} hb => by
    have hr : wr.heap[bl]? = _ := (hb.block bl (by omega)).trans hcl
    exact ⟨by rw [cell_of_row wr bl 0 _ _ _ hr]; rfl, by rw [cell_of_row wr bl 1 _ _ _ hr]; rfl, by rw [cell_of_row wr bl 2 _ _ _ hr]; rfl⟩
  clear hxl hcl hI5 hI6 hb6' hb5' hB6
  go_wp2_with fail
  go_loopw [12] (fun i wr => (i = .int .i64 0 ∨ i = .int .i64 1 ∨ i = .int .i64 2 ∨ i = .int .i64 3) ∧ Below w7.heap.size w7 wr) (fun i _ => 3 - (intOf i).toNat)
  case atStart => exact ⟨Or.inl rfl, Below.refl _ _⟩
  case round =>
    obtain ⟨hi, hB7⟩ := hrel
    rcases hi with rfl | rfl | rfl | rfl
    · have J := I0.below hB7
      obtain ⟨c0, c1, c2⟩ := hcs hB7
      by_cases he : errD l = 0
      · obtain ⟨vd, ed⟩ := enc_dec l he
        go_wp2_with fail
        with_reducible refine (dec_ok _ _ _ l wr J he).mono ?_
        rintro e8 w8 ⟨p8, m8, rfl, hGp, hGm, hb8⟩
        obtain ⟨pa8, pc8, rfl⟩ := hGp.form
        obtain ⟨ma8, mc8, rfl⟩ := hGm.form
        have hB := hB7.trans (hb8.mono hB7.size)
        have hGp := hGp.mono hB7.size
        have hGm := hGm.mono hB7.size
        clear hb8 c0 c1 c2
        have hKn : Fk (w8.alloc (.cells #[.int .i64 0, .bool false, .bool false, .bool false, .int .u8 0, .int .u16 0, .int .i64 0, .int .u16 0, .int .u64 0, .int .i64 0, .int .u16 0, .int .u64 0, .int .u32 0, .int .u8 0, .slice none 0 0, .slice none 0 0] 31)) w8.heap.size zH (.slice none 0 0) (.slice none 0 0) := Fk.new w8 zH (.slice none 0 0) (.slice none 0 0)
        have hxn := (Below.refl w8.heap.size w8).alloc (Nat.le_refl _) (.cells #[.int .i64 0, .bool false, .bool false, .bool false, .int .u8 0, .int .u16 0, .int .i64 0, .int .u16 0, .int .u64 0, .int .i64 0, .int .u16 0, .int .u64 0, .int .u32 0, .int .u8 0, .slice none 0 0, .slice none 0 0] 31)
        go_upto_region 10 with ((with_reducible refine wpList_store_frame (op := ⟨none, _, _, _, _, _⟩) ?_ (.tmp 13) (.tmp 60) ?_ ?_ (h := readH (txt l)) (p := .slice pa8 (readP (txt l)).length pc8) (m := .slice ma8 (readM (txt l)).length mc8) ?_ hKn ?_ ?_ ?_); (· exact rfl); (· exact rfl); (· exact rfl); (· exact rfl); (· exact rfl); (· exact rfl); intro w9 hR9 hO9)
        have hbn := hxn.trans (hO9.below (Nat.le_refl _) (by simp))
        have hGp := hGp.below hbn
        have hGm := hGm.below hbn
        have hB := hB.trans (hbn.mono hB.size)
        have hF9 := hR9.out
        clear hKn hxn hbn hR9 hO9
        generalize w8.heap.size = b13 at *
        have jE := fun w hJ hM => encode_yes (readH (txt l)) pa8 (readP (txt l)).length pc8 (readP (txt l)) ma8 (readM (txt l)).length mc8 (readM (txt l)) w (readH_ok _) hJ hM vd
        rw [ed] at jE
        obtain ⟨p1, p2, hp1, hI1⟩ := hGp.isB (by have := (read_len (txt l)).1; have := txt_le l; have := J.length; have := J.max; omega)
        obtain ⟨m1, m2, hm1, hI2⟩ := hGm.isB (by have := (read_len (txt l)).2; have := txt_le l; have := J.length; have := J.max; omega)
        cases hp1
        cases hm1
        go_wp2_with ((with_reducible refine wpList_load_frame (op := ⟨some 65, _, _, _, _, _⟩) ?_ (.tmp 13) ?_ ?_ hF9 ?_); (· exact rfl); (· exact rfl); (· exact rfl))
        with_reducible refine (jE _ hI1 hI2).mono ?_
        rintro e10 w10 ⟨gd, rfl, hgd, hOd, hb10⟩
        have hB := hB.trans (hb10.mono hB.size)
        clear jE hI1 hI2 hb10
        obtain ⟨c0, c1, c2⟩ := hcs hB
        have J10 := I0.below hB
        have Jd := hOd.isB (by have := J10.length; have := J10.max; omega)
        go_wp2_with fail
        with_reducible refine (same_any _ _ _ l _ _ _ l _ Jd J10).mono ?_
        rintro e11 w11 ⟨rfl, hb11⟩
        have hB := hB.trans (hb11.mono hB.size)
        have hxx : (l == l) = true := by simp
        rw [hxx]
        clear hxx c0 c1 c2 Jd J10 hb11 hOd
        go_wp2_with fail
        go_roundw
        case rel => exact ⟨Or.inr (Or.inl (by go_num)), hB⟩
        case measure => simp [intOf]
      · have hne : (errD l != 0) = true := by simp [he]
        go_wp2_with fail
        with_reducible refine (dec_bad _ _ _ l wr J he).mono ?_
        rintro e8 w8 ⟨p8, m8, rfl, hGp, hGm, hb8⟩
        obtain ⟨pa8, pc8, rfl⟩ := hGp.form
        obtain ⟨ma8, mc8, rfl⟩ := hGm.form
        have hB := hB7.trans (hb8.mono hB7.size)
        clear hb8 c0 c1 c2 hGp hGm
        have hKn : Fk (w8.alloc (.cells #[.int .i64 0, .bool false, .bool false, .bool false, .int .u8 0, .int .u16 0, .int .i64 0, .int .u16 0, .int .u64 0, .int .i64 0, .int .u16 0, .int .u64 0, .int .u32 0, .int .u8 0, .slice none 0 0, .slice none 0 0] 31)) w8.heap.size zH (.slice none 0 0) (.slice none 0 0) := Fk.new w8 zH (.slice none 0 0) (.slice none 0 0)
        have hxn := (Below.refl w8.heap.size w8).alloc (Nat.le_refl _) (.cells #[.int .i64 0, .bool false, .bool false, .bool false, .int .u8 0, .int .u16 0, .int .i64 0, .int .u16 0, .int .u64 0, .int .i64 0, .int .u16 0, .int .u64 0, .int .u32 0, .int .u8 0, .slice none 0 0, .slice none 0 0] 31)
        go_upto_region 10 with ((with_reducible refine wpList_store_frame (op := ⟨none, _, _, _, _, _⟩) ?_ (.tmp 13) (.tmp 60) ?_ ?_ (h := zH) (p := .slice pa8 ([] : List UInt8).length pc8) (m := .slice ma8 ([] : List UInt8).length mc8) ?_ hKn ?_ ?_ ?_); (· exact rfl); (· exact rfl); (· exact rfl); (· exact rfl); (· exact rfl); (· exact rfl); intro w9 hR9 hO9)
        have hbn := hxn.trans (hO9.below (Nat.le_refl _) (by simp))
        have hB := hB.trans (hbn.mono hB.size)
        have hF9 := hR9.out
        clear hKn hxn hbn hR9 hO9
        generalize w8.heap.size = b13 at *
        generalize errD l = ee at *
        go_wp2_with fail
        go_roundw
        case rel => exact ⟨Or.inr (Or.inl (by go_num)), hB⟩
        case measure => simp [intOf]
    · have J := I1.below hB7
      obtain ⟨c0, c1, c2⟩ := hcs hB7
      by_cases he : errD X1 = 0
      · obtain ⟨vd, ed⟩ := enc_dec X1 he
        go_wp2_with fail
        with_reducible refine (dec_ok _ _ _ X1 wr J he).mono ?_
        rintro e8 w8 ⟨p8, m8, rfl, hGp, hGm, hb8⟩
        obtain ⟨pa8, pc8, rfl⟩ := hGp.form
        obtain ⟨ma8, mc8, rfl⟩ := hGm.form
        have hB := hB7.trans (hb8.mono hB7.size)
        have hGp := hGp.mono hB7.size
        have hGm := hGm.mono hB7.size
        clear hb8 c0 c1 c2
        have hKn : Fk (w8.alloc (.cells #[.int .i64 0, .bool false, .bool false, .bool false, .int .u8 0, .int .u16 0, .int .i64 0, .int .u16 0, .int .u64 0, .int .i64 0, .int .u16 0, .int .u64 0, .int .u32 0, .int .u8 0, .slice none 0 0, .slice none 0 0] 31)) w8.heap.size zH (.slice none 0 0) (.slice none 0 0) := Fk.new w8 zH (.slice none 0 0) (.slice none 0 0)
        have hxn := (Below.refl w8.heap.size w8).alloc (Nat.le_refl _) (.cells #[.int .i64 0, .bool false, .bool false, .bool false, .int .u8 0, .int .u16 0, .int .i64 0, .int .u16 0, .int .u64 0, .int .i64 0, .int .u16 0, .int .u64 0, .int .u32 0, .int .u8 0, .slice none 0 0, .slice none 0 0] 31)
        go_upto_region 10 with ((with_reducible refine wpList_store_frame (op := ⟨none, _, _, _, _, _⟩) ?_ (.tmp 13) (.tmp 60) ?_ ?_ (h := readH (txt X1)) (p := .slice pa8 (readP (txt X1)).length pc8) (m := .slice ma8 (readM (txt X1)).length mc8) ?_ hKn ?_ ?_ ?_); (· exact rfl); (· exact rfl); (· exact rfl); (· exact rfl); (· exact rfl); (· exact rfl); intro w9 hR9 hO9)
        have hbn := hxn.trans (hO9.below (Nat.le_refl _) (by simp))
        have hGp := hGp.below hbn
        have hGm := hGm.below hbn
        have hB := hB.trans (hbn.mono hB.size)
        have hF9 := hR9.out
        clear hKn hxn hbn hR9 hO9
        generalize w8.heap.size = b13 at *
        have jE := fun w hJ hM => encode_yes (readH (txt X1)) pa8 (readP (txt X1)).length pc8 (readP (txt X1)) ma8 (readM (txt X1)).length mc8 (readM (txt X1)) w (readH_ok _) hJ hM vd
        rw [ed] at jE
        obtain ⟨p1, p2, hp1, hI1⟩ := hGp.isB (by have := (read_len (txt X1)).1; have := txt_le X1; have := J.length; have := J.max; omega)
        obtain ⟨m1, m2, hm1, hI2⟩ := hGm.isB (by have := (read_len (txt X1)).2; have := txt_le X1; have := J.length; have := J.max; omega)
        cases hp1
        cases hm1
        go_wp2_with ((with_reducible refine wpList_load_frame (op := ⟨some 65, _, _, _, _, _⟩) ?_ (.tmp 13) ?_ ?_ hF9 ?_); (· exact rfl); (· exact rfl); (· exact rfl))
        with_reducible refine (jE _ hI1 hI2).mono ?_
        rintro e10 w10 ⟨gd, rfl, hgd, hOd, hb10⟩
        have hB := hB.trans (hb10.mono hB.size)
        clear jE hI1 hI2 hb10
        obtain ⟨c0, c1, c2⟩ := hcs hB
        have J10 := I1.below hB
        have Jd := hOd.isB (by have := J10.length; have := J10.max; omega)
        go_wp2_with fail
        with_reducible refine (same_any _ _ _ X1 _ _ _ X1 _ Jd J10).mono ?_
        rintro e11 w11 ⟨rfl, hb11⟩
        have hB := hB.trans (hb11.mono hB.size)
        have hxx : (X1 == X1) = true := by simp
        rw [hxx]
        clear hxx c0 c1 c2 Jd J10 hb11 hOd
        go_wp2_with fail
        go_roundw
        case rel => exact ⟨Or.inr (Or.inr (Or.inl (by go_num))), hB⟩
        case measure => simp [intOf]
      · have hne : (errD X1 != 0) = true := by simp [he]
        go_wp2_with fail
        with_reducible refine (dec_bad _ _ _ X1 wr J he).mono ?_
        rintro e8 w8 ⟨p8, m8, rfl, hGp, hGm, hb8⟩
        obtain ⟨pa8, pc8, rfl⟩ := hGp.form
        obtain ⟨ma8, mc8, rfl⟩ := hGm.form
        have hB := hB7.trans (hb8.mono hB7.size)
        clear hb8 c0 c1 c2 hGp hGm
        have hKn : Fk (w8.alloc (.cells #[.int .i64 0, .bool false, .bool false, .bool false, .int .u8 0, .int .u16 0, .int .i64 0, .int .u16 0, .int .u64 0, .int .i64 0, .int .u16 0, .int .u64 0, .int .u32 0, .int .u8 0, .slice none 0 0, .slice none 0 0] 31)) w8.heap.size zH (.slice none 0 0) (.slice none 0 0) := Fk.new w8 zH (.slice none 0 0) (.slice none 0 0)
        have hxn := (Below.refl w8.heap.size w8).alloc (Nat.le_refl _) (.cells #[.int .i64 0, .bool false, .bool false, .bool false, .int .u8 0, .int .u16 0, .int .i64 0, .int .u16 0, .int .u64 0, .int .i64 0, .int .u16 0, .int .u64 0, .int .u32 0, .int .u8 0, .slice none 0 0, .slice none 0 0] 31)
        go_upto_region 10 with ((with_reducible refine wpList_store_frame (op := ⟨none, _, _, _, _, _⟩) ?_ (.tmp 13) (.tmp 60) ?_ ?_ (h := zH) (p := .slice pa8 ([] : List UInt8).length pc8) (m := .slice ma8 ([] : List UInt8).length mc8) ?_ hKn ?_ ?_ ?_); (· exact rfl); (· exact rfl); (· exact rfl); (· exact rfl); (· exact rfl); (· exact rfl); intro w9 hR9 hO9)
        have hbn := hxn.trans (hO9.below (Nat.le_refl _) (by simp))
        have hB := hB.trans (hbn.mono hB.size)
        have hF9 := hR9.out
        clear hKn hxn hbn hR9 hO9
        generalize w8.heap.size = b13 at *
        generalize errD X1 = ee at *
        go_wp2_with fail
        go_roundw
        case rel => exact ⟨Or.inr (Or.inr (Or.inl (by go_num))), hB⟩
        case measure => simp [intOf]
    · have J := I2.below hB7
      obtain ⟨c0, c1, c2⟩ := hcs hB7
      by_cases he : errD X2 = 0
      · obtain ⟨vd, ed⟩ := enc_dec X2 he
        go_wp2_with fail
        with_reducible refine (dec_ok _ _ _ X2 wr J he).mono ?_
        rintro e8 w8 ⟨p8, m8, rfl, hGp, hGm, hb8⟩
        obtain ⟨pa8, pc8, rfl⟩ := hGp.form
        obtain ⟨ma8, mc8, rfl⟩ := hGm.form
        have hB := hB7.trans (hb8.mono hB7.size)
        have hGp := hGp.mono hB7.size
        have hGm := hGm.mono hB7.size
        clear hb8 c0 c1 c2
        have hKn : Fk (w8.alloc (.cells #[.int .i64 0, .bool false, .bool false, .bool false, .int .u8 0, .int .u16 0, .int .i64 0, .int .u16 0, .int .u64 0, .int .i64 0, .int .u16 0, .int .u64 0, .int .u32 0, .int .u8 0, .slice none 0 0, .slice none 0 0] 31)) w8.heap.size zH (.slice none 0 0) (.slice none 0 0) := Fk.new w8 zH (.slice none 0 0) (.slice none 0 0)
        have hxn := (Below.refl w8.heap.size w8).alloc (Nat.le_refl _) (.cells #[.int .i64 0, .bool false, .bool false, .bool false, .int .u8 0, .int .u16 0, .int .i64 0, .int .u16 0, .int .u64 0, .int .i64 0, .int .u16 0, .int .u64 0, .int .u32 0, .int .u8 0, .slice none 0 0, .slice none 0 0] 31)
        go_upto_region 10 with ((with_reducible refine wpList_store_frame (op := ⟨none, _, _, _, _, _⟩) ?_ (.tmp 13) (.tmp 60) ?_ ?_ (h := readH (txt X2)) (p := .slice pa8 (readP (txt X2)).length pc8) (m := .slice ma8 (readM (txt X2)).length mc8) ?_ hKn ?_ ?_ ?_); (· exact rfl); (· exact rfl); (· exact rfl); (· exact rfl); (· exact rfl); (· exact rfl); intro w9 hR9 hO9)
        have hbn := hxn.trans (hO9.below (Nat.le_refl _) (by simp))
        have hGp := hGp.below hbn
        have hGm := hGm.below hbn
        have hB := hB.trans (hbn.mono hB.size)
        have hF9 := hR9.out
        clear hKn hxn hbn hR9 hO9
        generalize w8.heap.size = b13 at *
        have jE := fun w hJ hM => encode_yes (readH (txt X2)) pa8 (readP (txt X2)).length pc8 (readP (txt X2)) ma8 (readM (txt X2)).length mc8 (readM (txt X2)) w (readH_ok _) hJ hM vd
        rw [ed] at jE
        obtain ⟨p1, p2, hp1, hI1⟩ := hGp.isB (by have := (read_len (txt X2)).1; have := txt_le X2; have := J.length; have := J.max; omega)
        obtain ⟨m1, m2, hm1, hI2⟩ := hGm.isB (by have := (read_len (txt X2)).2; have := txt_le X2; have := J.length; have := J.max; omega)
        cases hp1
        cases hm1
        go_wp2_with ((with_reducible refine wpList_load_frame (op := ⟨some 65, _, _, _, _, _⟩) ?_ (.tmp 13) ?_ ?_ hF9 ?_); (· exact rfl); (· exact rfl); (· exact rfl))
        with_reducible refine (jE _ hI1 hI2).mono ?_
        rintro e10 w10 ⟨gd, rfl, hgd, hOd, hb10⟩
        have hB := hB.trans (hb10.mono hB.size)
        clear jE hI1 hI2 hb10
        obtain ⟨c0, c1, c2⟩ := hcs hB
        have J10 := I2.below hB
        have Jd := hOd.isB (by have := J10.length; have := J10.max; omega)
        go_wp2_with fail
        with_reducible refine (same_any _ _ _ X2 _ _ _ X2 _ Jd J10).mono ?_
        rintro e11 w11 ⟨rfl, hb11⟩
        have hB := hB.trans (hb11.mono hB.size)
        have hxx : (X2 == X2) = true := by simp
        rw [hxx]
        clear hxx c0 c1 c2 Jd J10 hb11 hOd
        go_wp2_with fail
        go_roundw
        case rel => exact ⟨Or.inr (Or.inr (Or.inr (by go_num))), hB⟩
        case measure => simp [intOf]
      · have hne : (errD X2 != 0) = true := by simp [he]
        go_wp2_with fail
        with_reducible refine (dec_bad _ _ _ X2 wr J he).mono ?_
        rintro e8 w8 ⟨p8, m8, rfl, hGp, hGm, hb8⟩
        obtain ⟨pa8, pc8, rfl⟩ := hGp.form
        obtain ⟨ma8, mc8, rfl⟩ := hGm.form
        have hB := hB7.trans (hb8.mono hB7.size)
        clear hb8 c0 c1 c2 hGp hGm
        have hKn : Fk (w8.alloc (.cells #[.int .i64 0, .bool false, .bool false, .bool false, .int .u8 0, .int .u16 0, .int .i64 0, .int .u16 0, .int .u64 0, .int .i64 0, .int .u16 0, .int .u64 0, .int .u32 0, .int .u8 0, .slice none 0 0, .slice none 0 0] 31)) w8.heap.size zH (.slice none 0 0) (.slice none 0 0) := Fk.new w8 zH (.slice none 0 0) (.slice none 0 0)
        have hxn := (Below.refl w8.heap.size w8).alloc (Nat.le_refl _) (.cells #[.int .i64 0, .bool false, .bool false, .bool false, .int .u8 0, .int .u16 0, .int .i64 0, .int .u16 0, .int .u64 0, .int .i64 0, .int .u16 0, .int .u64 0, .int .u32 0, .int .u8 0, .slice none 0 0, .slice none 0 0] 31)
        go_upto_region 10 with ((with_reducible refine wpList_store_frame (op := ⟨none, _, _, _, _, _⟩) ?_ (.tmp 13) (.tmp 60) ?_ ?_ (h := zH) (p := .slice pa8 ([] : List UInt8).length pc8) (m := .slice ma8 ([] : List UInt8).length mc8) ?_ hKn ?_ ?_ ?_); (· exact rfl); (· exact rfl); (· exact rfl); (· exact rfl); (· exact rfl); (· exact rfl); intro w9 hR9 hO9)
        have hbn := hxn.trans (hO9.below (Nat.le_refl _) (by simp))
        have hB := hB.trans (hbn.mono hB.size)
        have hF9 := hR9.out
        clear hKn hxn hbn hR9 hO9
        generalize w8.heap.size = b13 at *
        generalize errD X2 = ee at *
        go_wp2_with fail
        go_roundw
        case rel => exact ⟨Or.inr (Or.inr (Or.inr (by go_num))), hB⟩
        case measure => simp [intOf]
    · go_wp2_with fail
      with_reducible refine (known_any _).mono ?_
      rintro e8 w8 ⟨rfl, hb8⟩
      go_wp2_with fail
      go_ret
      exact ⟨rfl, hBw.trans ((hB7.trans (hb8.mono hB7.size)).mono hBw.size)⟩
end Go.Proofs.Ytoboflcdiladpaa
