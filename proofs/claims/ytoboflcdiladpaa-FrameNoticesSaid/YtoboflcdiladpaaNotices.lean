/-
  A frame in which bits within 16 consecutive bits are inverted is not decoded.
-/
import Derived.Test.YtoboflcdiladpaaCanon
import Derived.Test.YtoboflcdiladpaaBurstMath
namespace Go.Proofs.Ytoboflcdiladpaa
open Go.RowKit
set_option linter.unusedSimpArgs false
set_option linter.unusedVariables false

theorem pow_cast (q i : Nat) : ((q / 2 ^ i : Nat) : Int) = (q : Int) / 2 ^ i := by simp

theorem xor8 (x : UInt8) (k : Nat) (hk : k < 8) : Value.int .u8 (bits .xor .u8 (x.toNat : Int) (2 ^ k % 256)) = bv (x ^^^ UInt8.ofNat (2 ^ k)) ∧ (UInt8.ofNat (2 ^ k)).toNat = 2 ^ k := by
  have hp : 2 ^ k ≤ 2 ^ 7 := Nat.pow_le_pow_right (by decide) (by omega)
  have hx := x.toNat_lt
  have e0 : (UInt8.ofNat (2 ^ k)).toNat = 2 ^ k := by rw [UInt8.toNat_ofNat']; exact Nat.mod_eq_of_lt (by omega)
  refine ⟨?_, e0⟩
  have e : ((2 ^ k : Nat) : Int) = (2 : Int) ^ k := by simp
  have e1 : (2 : Int) ^ k % 256 = ((2 ^ k : Nat) : Int) := by rw [← e]; omega
  rw [e1]
  simp only [bv, UInt8.toNat_xor, e0]
  congr 1
  have h1 : (BitVec.ofInt 8 (x.toNat : Int)).toNat = x.toNat := by
    rw [BitVec.ofInt_natCast, BitVec.toNat_ofNat]; exact Nat.mod_eq_of_lt (by omega)
  have h2 : (BitVec.ofInt 8 ((2 ^ k : Nat) : Int)).toNat = 2 ^ k := by
    rw [BitVec.ofInt_natCast, BitVec.toNat_ofNat]; exact Nat.mod_eq_of_lt (by omega)
  have h3 : x.toNat ^^^ 2 ^ k < 2 ^ 8 := Nat.xor_lt_two_pow hx (by omega)
  show IntKind.u8.wrap ((BitVec.ofInt 8 (x.toNat : Int) ^^^ BitVec.ofInt 8 ((2 ^ k : Nat) : Int)).toNat : Int) = _
  rw [BitVec.toNat_xor, h1, h2, IntKind.wrap_u8]
  omega

theorem burst_end (li : List UInt8) (N r : Nat) (hr : r < 65536) (h2 : 2 ≤ li.length) (h : crcL 0 li = steps N r) : checkB li = decide (r = 0) := by
  rw [checkB_iff li h2, h, Bool.eq_iff_iff, beq_iff_eq, decide_eq_true_eq]
  constructor
  · intro h0
    by_cases hr0 : r = 0
    · exact hr0
    · exact absurd h0 (steps_ne hr hr0 N)
  · rintro rfl; exact steps_zero N

/-- Decode's error by whether something was inverted -/
theorem err_burst (L li : List UInt8) (r : Nat) (h0 : errD L = 0) (hl : li.length = L.length) (hc : checkB li = decide (r = 0)) (he : r = 0 → li = L) : errD li = if r = 0 then 0 else 6 := by
  by_cases hr : r = 0
  · rw [if_pos hr, he hr, h0]
  · rw [if_neg hr]
    unfold errD at h0 ⊢
    rw [hl]
    split at h0
    · cases h0
    · rename_i h1
      rw [if_neg h1]
      split at h0
      · cases h0
      · rename_i h2
        rw [if_neg h2, if_pos (by rw [hc]; simp [hr])]

set_option maxHeartbeats 4000000 in
set_option maxRecDepth 100000 in
theorem notices_walk (a : Option Addr) (len cap : Nat) (n m : Int) (w : World) (hI : IsI w a len cap) (hn : I64 n) (hm : 0 ≤ m ∧ m < 65536) :
    Calls Try.prog 7 #[.slice a len cap, .int .i64 n, .int .u16 m] w (RetS (.bool true) w) := by
  obtain ⟨q, rfl⟩ := Int.eq_ofNat_of_zero_le hm.1
  have hq : q < 65536 := by omega
  go_enter Try.func7, Try.ntmps7
  go_wp2_with fail
  with_reducible refine (new_any a len cap w hI).mono ?_
  rintro e1 w1 ⟨g, rfl, hg, hT1, hB1⟩
  go_wp2_with fail
  with_reducible refine (anyframe_any g w1 hT1).mono ?_
  rintro e2 w2 ⟨h, p, m, P, M, rfl, hok, hv, hGp, hGm, hT2, hO2⟩
  obtain ⟨pa, pc, rfl⟩ := hGp.form
  obtain ⟨ma, mc, rfl⟩ := hGm.form
  obtain ⟨hP127, hM4⟩ := valid_small h _ _ hv
  have hB := hB1.trans (hO2.below hg hB1.size)
  have hgw : w.heap.size ≤ w1.heap.size := hB1.size
  clear hT1 hB1 hT2 hO2 hI
  obtain ⟨p1, p2, hp1, hI1⟩ := hGp.isB (by omega)
  obtain ⟨m1, m2, hm1, hI2⟩ := hGm.isB (by omega)
  cases hp1
  cases hm1
  have jE := fun w hJ hM => encode_yes h pa P.length pc P ma M.length mc M w hok hJ hM hv
  have hd0 := (dec_enc h P M hok hv).1
  obtain ⟨q5, q127⟩ := length_of_valid h _ _ hv
  rw [← length_encL h P M] at q5 q127
  generalize encL h P M = L at *
  go_wp2_with fail
  with_reducible refine (jE _ hI1 hI2).mono ?_
  rintro e3 w3 ⟨g3, rfl, hgb, hO, hb3⟩
  have hg3 : w.heap.size ≤ g3 := Nat.le_trans hB.size hgb
  have hB1 := hB.trans (hb3.mono hB.size)
  clear jE hI1 hI2 hGp hGm hb3 hv hok hP127 hM4 hgb hB hg
  have hck : checkB L = true := by
    unfold errD at hd0
    split at hd0
    · cases hd0
    · split at hd0
      · cases hd0
      · split at hd0
        · cases hd0
        · rename_i hc; cases h9 : checkB L <;> simp [h9] at hc ⊢
  have hcrc : crcL 0 L = 0 := crcL_zero hck (by omega)
  obtain ⟨N0, hN0⟩ : ∃ N, L.length = N := ⟨_, rfl⟩
  rw [hN0] at q5 q127 ⊢
  have HL := hid hN0
  have HO := hid hO
  have HC := hid hcrc
  have HD0 := hid hd0
  clear hN0 hO hcrc hck hd0
  have hlt5 : ¬ ((N0 : Int) < 5) := by omega
  go_wp2_with fail
  refine (mod_some n (8 * (N0 : Int)) _ (by omega) (by omega) hn).mono ?_
  rintro e w' ⟨t, rfl, ht, rfl⟩
  go_wp2_with fail
  go_loopw [9, 10] (fun u v wr => ∃ (i : Nat) (li : List UInt8), i ≤ 16 ∧ t + i ≤ 8 * N0 ∧ v = .int .i64 (i : Int) ∧ u = .bool (decide (q % 2 ^ i ≠ 0)) ∧ Hid (li.length = N0) ∧ Hid (crcL 0 li = steps (8 * N0 - t) (q % 2 ^ i)) ∧ Hid (q % 2 ^ i = 0 → li = L) ∧ Own wr g3 li ∧ Below w.heap.size w wr) (fun _ v _ => 16 - (intOf v).toNat)
  case atStart => exact ⟨0, L, by omega, by omega, rfl, by simp [Nat.mod_one], HL, hid (by rw [HC.out, Nat.pow_zero, Nat.mod_one, steps_zero]), hid (fun _ => rfl), HO.out, hB1⟩
  case round =>
    obtain ⟨i, li, hi, hti, rfl, rfl, HLi, HCi, HQi, hOi, hBi⟩ := hrel
    clear HC HO hB1
    have ht16 := pat_lt q i hq
    by_cases hlt : i < 16 ∧ t + i < 8 * N0
    · obtain ⟨hi1, hi2⟩ := hlt
      have hcell := hOi.cell ((t + i) / 8) (by rw [HLi.out]; omega)
      have hfr := hOi.frozen ((t + i) / 8)
      have HOi := hid hOi
      clear hOi
      rcases Nat.mod_two_eq_zero_or_one (q / 2 ^ i) with hp | hp
      · have hA : bits .and .u16 ((q : Int) / 2 ^ i) 1 = 0 := by
          rw [← pow_cast q i, bits_and_u16_one _ (Nat.lt_of_le_of_lt (Nat.div_le_self _ _) hq), hp]; rfl
        have hP := hid (pat_zero q i hp)
        clear hp
        go_wp2
        go_roundw
        case rel => exact ⟨i + 1, li, by omega, by omega, by go_num, by rw [hP.out]; simp, HLi, hid (by rw [hP.out]; exact HCi.out), hid (by rw [hP.out]; exact HQi.out), HOi.out, hBi⟩
        case measure => simp [intOf]; omega
      · have hA : bits .and .u16 ((q : Int) / 2 ^ i) 1 = 1 := by
          rw [← pow_cast q i, bits_and_u16_one _ (Nat.lt_of_le_of_lt (Nat.div_le_self _ _) hq), hp]; rfl
        have HP := hid hp
        clear hp
        have hx8 := hid (xor8 (li.getD ((t + i) / 8) 0) ((t + i) % 8) (Nat.mod_lt _ (by decide)))
        have HS : Hid (crcL 0 (li.set ((t + i) / 8) (li.getD ((t + i) / 8) 0 ^^^ UInt8.ofNat (2 ^ ((t + i) % 8)))) = steps (8 * N0 - t) (q % 2 ^ (i + 1))) := hid (by
          rw [crcL_flip li (t + i) (by rw [HLi.out]; exact hi2) _ hx8.out.2, HCi.out, HLi.out, steps_one q i _ HP.out (by omega), show 8 * N0 - (t + i) = 8 * N0 - t - i from by omega])
        have HD : Hid (decide (q % 2 ^ (i + 1) ≠ 0) = true) := hid (by simpa using pat_one_ne q i HP.out)
        have HE : Hid (Own (wr.setCell ⟨g3, (t + i) / 8, none⟩ (.int .u8 (bits .xor .u8 ((li[(t + i) / 8]?.getD 0).toNat : Int) (2 ^ ((t + i) % 8) % 256)))) g3 (li.set ((t + i) / 8) (li.getD ((t + i) / 8) 0 ^^^ UInt8.ofNat (2 ^ ((t + i) % 8))))) :=
          hid (HOi.out.set _ _ _ (by rw [← List.getD_eq_getElem?_getD]; exact hx8.out.1))
        go_wp2
        go_roundw
        case rel => exact ⟨i + 1, _, by omega, by omega, by go_num, by rw [HD.out], hid (by rw [List.length_set]; exact HLi.out), HS, hid (fun h9 => absurd h9 (pat_one_ne q i HP.out)), HE.out, hBi.setCell hg3 _⟩
        case measure => simp [intOf]; omega
    · have hfin := burst_end li _ _ ht16 (by rw [HLi.out]; omega) HCi.out
      have herr := err_burst L li (q % 2 ^ i) HD0.out (by rw [HLi.out, HL.out]) hfin HQi.out
      have hJ := hOi.isB (by rw [HLi.out]; omega)
      rw [HLi.out] at hJ
      have hno : ¬ ((i : Int) < 16 ∧ (t : Int) + (i : Int) < 8 * (N0 : Int)) := by omega
      clear hfin ht16 HCi HQi hOi
      have hend : ∀ {ww : World} {p m : Value} {hh : Hd} {e0 : Int}, True := fun {_ _ _ _} => trivial
      clear hend
      generalize q % 2 ^ i = r at *
      have hw2 : i = 16 ∨ (i < 16 ∧ ¬ ((t : Int) + (i : Int) < 8 * (N0 : Int))) := by omega
      clear hlt hno
      rcases hw2 with rfl | ⟨h16, hno⟩
      all_goals by_cases hr : r = 0
      · have he : errD li = 0 := by rw [herr, if_pos hr]
        have hdr : decide (r ≠ 0) = false := by simp [hr]
        rw [hdr]
        have hB := hBi
        clear hBi herr hr hdr
        go_wp2_with fail
        with_reducible refine (dec_ok _ _ _ li wr hJ he).mono ?_
        rintro e8 w8 ⟨p8, m8, rfl, hGp, hGm, hb8⟩
        obtain ⟨pa8, pc8, rfl⟩ := hGp.form
        obtain ⟨ma8, mc8, rfl⟩ := hGm.form
        have hB := hB.trans (hb8.mono hB.size)
        clear hb8 hGp hGm
        clear he
        have hKn : Fk (w8.alloc (.cells #[.int .i64 0, .bool false, .bool false, .bool false, .int .u8 0, .int .u16 0, .int .i64 0, .int .u16 0, .int .u64 0, .int .i64 0, .int .u16 0, .int .u64 0, .int .u32 0, .int .u8 0, .slice none 0 0, .slice none 0 0] 31)) w8.heap.size zH (.slice none 0 0) (.slice none 0 0) := Fk.new w8 zH (.slice none 0 0) (.slice none 0 0)
        have hxn := (Below.refl w8.heap.size w8).alloc (Nat.le_refl _) (.cells #[.int .i64 0, .bool false, .bool false, .bool false, .int .u8 0, .int .u16 0, .int .i64 0, .int .u16 0, .int .u64 0, .int .i64 0, .int .u16 0, .int .u64 0, .int .u32 0, .int .u8 0, .slice none 0 0, .slice none 0 0] 31)
        go_upto_region 13 with ((with_reducible refine wpList_store_frame (op := ⟨none, _, _, _, _, _⟩) ?_ (.tmp 11) (.tmp 69) ?_ ?_ (h := readH (txt li)) (p := .slice pa8 (readP (txt li)).length pc8) (m := .slice ma8 (readM (txt li)).length mc8) ?_ hKn ?_ ?_ ?_); (· exact rfl); (· exact rfl); (· exact rfl); (· exact rfl); (· exact rfl); (· exact rfl); intro w9 hR9 hO9)
        have hbn := hxn.trans (hO9.below (Nat.le_refl _) (by simp))
        have hB := hB.trans (hbn.mono hB.size)
        have hF9 := hR9.out
        clear hKn hxn hbn hR9 hO9
        generalize w8.heap.size = b11 at *
        go_wp2_with fail
        with_reducible refine (known_any _).mono ?_
        rintro e10 w10 ⟨rfl, hb10⟩
        go_wp2_with fail
        go_ret
        exact ⟨rfl, hB.trans (hb10.mono hB.size)⟩
      · have he : errD li = 6 := by rw [herr, if_neg hr]
        have hdr : decide (r ≠ 0) = true := by simp [hr]
        rw [hdr]
        have hB := hBi
        clear hBi herr hr hdr
        go_wp2_with fail
        with_reducible refine (dec_bad _ _ _ li wr hJ (by rw [he]; decide)).mono ?_
        rintro e8 w8 ⟨p8, m8, rfl, hGp, hGm, hb8⟩
        obtain ⟨pa8, pc8, rfl⟩ := hGp.form
        obtain ⟨ma8, mc8, rfl⟩ := hGm.form
        have hB := hB.trans (hb8.mono hB.size)
        clear hb8 hGp hGm
        rw [he]
        clear he
        have hKn : Fk (w8.alloc (.cells #[.int .i64 0, .bool false, .bool false, .bool false, .int .u8 0, .int .u16 0, .int .i64 0, .int .u16 0, .int .u64 0, .int .i64 0, .int .u16 0, .int .u64 0, .int .u32 0, .int .u8 0, .slice none 0 0, .slice none 0 0] 31)) w8.heap.size zH (.slice none 0 0) (.slice none 0 0) := Fk.new w8 zH (.slice none 0 0) (.slice none 0 0)
        have hxn := (Below.refl w8.heap.size w8).alloc (Nat.le_refl _) (.cells #[.int .i64 0, .bool false, .bool false, .bool false, .int .u8 0, .int .u16 0, .int .i64 0, .int .u16 0, .int .u64 0, .int .i64 0, .int .u16 0, .int .u64 0, .int .u32 0, .int .u8 0, .slice none 0 0, .slice none 0 0] 31)
        go_upto_region 13 with ((with_reducible refine wpList_store_frame (op := ⟨none, _, _, _, _, _⟩) ?_ (.tmp 11) (.tmp 69) ?_ ?_ (h := zH) (p := .slice pa8 ([] : List UInt8).length pc8) (m := .slice ma8 ([] : List UInt8).length mc8) ?_ hKn ?_ ?_ ?_); (· exact rfl); (· exact rfl); (· exact rfl); (· exact rfl); (· exact rfl); (· exact rfl); intro w9 hR9 hO9)
        have hbn := hxn.trans (hO9.below (Nat.le_refl _) (by simp))
        have hB := hB.trans (hbn.mono hB.size)
        have hF9 := hR9.out
        clear hKn hxn hbn hR9 hO9
        generalize w8.heap.size = b11 at *
        go_wp2_with fail
        with_reducible refine (known_any _).mono ?_
        rintro e10 w10 ⟨rfl, hb10⟩
        go_wp2_with fail
        go_ret
        exact ⟨rfl, hB.trans (hb10.mono hB.size)⟩
      · have he : errD li = 0 := by rw [herr, if_pos hr]
        have hdr : decide (r ≠ 0) = false := by simp [hr]
        rw [hdr]
        have hB := hBi
        clear hBi herr hr hdr
        go_wp2_with fail
        with_reducible refine (dec_ok _ _ _ li wr hJ he).mono ?_
        rintro e8 w8 ⟨p8, m8, rfl, hGp, hGm, hb8⟩
        obtain ⟨pa8, pc8, rfl⟩ := hGp.form
        obtain ⟨ma8, mc8, rfl⟩ := hGm.form
        have hB := hB.trans (hb8.mono hB.size)
        clear hb8 hGp hGm
        clear he
        have hKn : Fk (w8.alloc (.cells #[.int .i64 0, .bool false, .bool false, .bool false, .int .u8 0, .int .u16 0, .int .i64 0, .int .u16 0, .int .u64 0, .int .i64 0, .int .u16 0, .int .u64 0, .int .u32 0, .int .u8 0, .slice none 0 0, .slice none 0 0] 31)) w8.heap.size zH (.slice none 0 0) (.slice none 0 0) := Fk.new w8 zH (.slice none 0 0) (.slice none 0 0)
        have hxn := (Below.refl w8.heap.size w8).alloc (Nat.le_refl _) (.cells #[.int .i64 0, .bool false, .bool false, .bool false, .int .u8 0, .int .u16 0, .int .i64 0, .int .u16 0, .int .u64 0, .int .i64 0, .int .u16 0, .int .u64 0, .int .u32 0, .int .u8 0, .slice none 0 0, .slice none 0 0] 31)
        go_upto_region 13 with ((with_reducible refine wpList_store_frame (op := ⟨none, _, _, _, _, _⟩) ?_ (.tmp 11) (.tmp 69) ?_ ?_ (h := readH (txt li)) (p := .slice pa8 (readP (txt li)).length pc8) (m := .slice ma8 (readM (txt li)).length mc8) ?_ hKn ?_ ?_ ?_); (· exact rfl); (· exact rfl); (· exact rfl); (· exact rfl); (· exact rfl); (· exact rfl); intro w9 hR9 hO9)
        have hbn := hxn.trans (hO9.below (Nat.le_refl _) (by simp))
        have hB := hB.trans (hbn.mono hB.size)
        have hF9 := hR9.out
        clear hKn hxn hbn hR9 hO9
        generalize w8.heap.size = b11 at *
        go_wp2_with fail
        with_reducible refine (known_any _).mono ?_
        rintro e10 w10 ⟨rfl, hb10⟩
        go_wp2_with fail
        go_ret
        exact ⟨rfl, hB.trans (hb10.mono hB.size)⟩
      · have he : errD li = 6 := by rw [herr, if_neg hr]
        have hdr : decide (r ≠ 0) = true := by simp [hr]
        rw [hdr]
        have hB := hBi
        clear hBi herr hr hdr
        go_wp2_with fail
        with_reducible refine (dec_bad _ _ _ li wr hJ (by rw [he]; decide)).mono ?_
        rintro e8 w8 ⟨p8, m8, rfl, hGp, hGm, hb8⟩
        obtain ⟨pa8, pc8, rfl⟩ := hGp.form
        obtain ⟨ma8, mc8, rfl⟩ := hGm.form
        have hB := hB.trans (hb8.mono hB.size)
        clear hb8 hGp hGm
        rw [he]
        clear he
        have hKn : Fk (w8.alloc (.cells #[.int .i64 0, .bool false, .bool false, .bool false, .int .u8 0, .int .u16 0, .int .i64 0, .int .u16 0, .int .u64 0, .int .i64 0, .int .u16 0, .int .u64 0, .int .u32 0, .int .u8 0, .slice none 0 0, .slice none 0 0] 31)) w8.heap.size zH (.slice none 0 0) (.slice none 0 0) := Fk.new w8 zH (.slice none 0 0) (.slice none 0 0)
        have hxn := (Below.refl w8.heap.size w8).alloc (Nat.le_refl _) (.cells #[.int .i64 0, .bool false, .bool false, .bool false, .int .u8 0, .int .u16 0, .int .i64 0, .int .u16 0, .int .u64 0, .int .i64 0, .int .u16 0, .int .u64 0, .int .u32 0, .int .u8 0, .slice none 0 0, .slice none 0 0] 31)
        go_upto_region 13 with ((with_reducible refine wpList_store_frame (op := ⟨none, _, _, _, _, _⟩) ?_ (.tmp 11) (.tmp 69) ?_ ?_ (h := zH) (p := .slice pa8 ([] : List UInt8).length pc8) (m := .slice ma8 ([] : List UInt8).length mc8) ?_ hKn ?_ ?_ ?_); (· exact rfl); (· exact rfl); (· exact rfl); (· exact rfl); (· exact rfl); (· exact rfl); intro w9 hR9 hO9)
        have hbn := hxn.trans (hO9.below (Nat.le_refl _) (by simp))
        have hB := hB.trans (hbn.mono hB.size)
        have hF9 := hR9.out
        clear hKn hxn hbn hR9 hO9
        generalize w8.heap.size = b11 at *
        go_wp2_with fail
        with_reducible refine (known_any _).mono ?_
        rintro e10 w10 ⟨rfl, hb10⟩
        go_wp2_with fail
        go_ret
        exact ⟨rfl, hB.trans (hb10.mono hB.size)⟩
end Go.Proofs.Ytoboflcdiladpaa
