/-
  The reference's Decode: it answers as the program's.
-/
import Derived.Test.YtmbiophckeiehaaRefPar
import Derived.Test.YtmbiophckeiehaaRefEnc
import Derived.Test.YtmbiophckeiehaaAck
import Derived.Test.YtmbiophckeiehaaSame
namespace Go.Proofs.Ytmbiophckeiehaa
open Go.RowKit
set_option linter.unusedSimpArgs false
set_option linter.unusedVariables false

theorem txt_appL (B : List UInt8) : txt (appL B) = B := by
  unfold txt
  rw [length_appL, Nat.add_sub_cancel]
  unfold appL
  rw [List.take_left]

set_option maxHeartbeats 8000000 in
set_option maxRecDepth 100000 in
theorem rdecode_any (a : Option Addr) (len cap : Nat) (l : List UInt8) (w : World) (hb : IsB w a len cap l) :
    Calls Try.prog 37 #[.slice a len cap] w (RetDec l w) := by
  have hlen := hb.length
  have hle := hb.le
  have hmx := hb.max
  have hK : Fk (w.alloc (.cells #[.int .i64 0, .bool false, .bool false, .bool false, .int .u8 0, .int .u16 0, .int .i64 0, .int .u16 0, .int .u64 0, .int .i64 0, .int .u16 0, .int .u64 0, .int .u32 0, .int .u8 0, .slice none 0 0, .slice none 0 0] 31)) w.heap.size zH (.slice none 0 0) (.slice none 0 0) := Fk.new w zH (.slice none 0 0) (.slice none 0 0)
  have hB := (Below.refl w.heap.size w).alloc (Nat.le_refl _) (.cells #[.int .i64 0, .bool false, .bool false, .bool false, .int .u8 0, .int .u16 0, .int .i64 0, .int .u16 0, .int .u64 0, .int .i64 0, .int .u16 0, .int .u64 0, .int .u32 0, .int .u8 0, .slice none 0 0, .slice none 0 0] 31)
  have J := hb.below hB
  by_cases h1 : 127 < len
  · have he : errD l = 3 := by unfold errD; rw [if_pos (by omega)]
    go_enter Try.func37, Try.ntmps37
    go_wp2_with ((with_reducible refine wpList_store_frame (op := ⟨none, _, _, _, _, _⟩) ?_ (.tmp 2) (.tmp 12) ?_ ?_ (h := zH) (p := .slice none 0 0) (m := .slice none 0 0) ?_ hK ?_ ?_ ?_); (· exact rfl); (· exact rfl); (· exact rfl); (· exact rfl); (· exact rfl); (· exact rfl); intro wz hRz hOz)
    exact bodyPost_ret (results_dec (v := .int .i64 3) rfl rfl rfl hRz.out) rfl (bad_dec he (by decide) (hB.trans (hOz.below (Nat.le_refl _) hB.size)))
  · by_cases h5 : len < 5
    · have he : errD l = 4 := by unfold errD; rw [if_neg (by omega), if_pos (by omega)]
      go_enter Try.func37, Try.ntmps37
      go_wp2_with ((with_reducible refine wpList_store_frame (op := ⟨none, _, _, _, _, _⟩) ?_ (.tmp 2) (.tmp 17) ?_ ?_ (h := zH) (p := .slice none 0 0) (m := .slice none 0 0) ?_ hK ?_ ?_ ?_); (· exact rfl); (· exact rfl); (· exact rfl); (· exact rfl); (· exact rfl); (· exact rfl); intro wz hRz hOz)
      exact bodyPost_ret (results_dec (v := .int .i64 4) rfl rfl rfl hRz.out) rfl (bad_dec he (by decide) (hB.trans (hOz.below (Nat.le_refl _) hB.size)))
    · have jc := fun w h => refCheck_any a len cap l w h
      have HE : Hid (checkB l = false → errD l = 6) := hid (fun h => by unfold errD; rw [if_neg (by omega), if_neg (by omega), if_pos h])
      have HE2 : Hid (checkB l = true → errD l = if goodB l then 0 else 5) := hid (fun h => by unfold errD; rw [if_neg (by omega), if_neg (by omega), if_neg (by rw [h]; decide)])
      have hgo : goodB l = (validF (readH (txt l)) (readP (txt l)).length (readM (txt l)).length && (bodyL (readH (txt l)) (readP (txt l)) (readM (txt l)) == txt l)) := rfl
      have htl : (txt l).length = len - 2 := by unfold txt; rw [List.length_take]; omega
      have HP : Hid (pok (txt l) = false → goodB l = false) := hid (fun h => by
        cases hg : goodB l
        · rfl
        · rw [hgo, Bool.and_eq_true, beq_iff_eq] at hg
          have := good_pok (txt l) (by omega) hg.1 hg.2
          rw [h] at this; cases this)
      have HV : Hid (validF (readH (txt l)) (readP (txt l)).length (readM (txt l)).length = false → goodB l = false) := hid (fun h => by rw [hgo, h]; rfl)
      have HQ : Hid (checkB l = true → validF (readH (txt l)) (readP (txt l)).length (readM (txt l)).length = true → goodB l = (l == encL (readH (txt l)) (readP (txt l)) (readM (txt l)))) := hid (fun hc hv => by
        rw [Bool.eq_iff_iff, beq_iff_eq]
        constructor
        · intro hg
          have e0 : errD l = 0 := by rw [HE2.out hc, if_pos hg]
          exact (enc_dec l e0).2.symm
        · intro hx
          have hx' : txt l = bodyL (readH (txt l)) (readP (txt l)) (readM (txt l)) := by
            have := congrArg txt hx
            rwa [encL, txt_appL] at this
          rw [hgo, hv, ← hx']; simp)
      have hok := readH_ok (txt l)
      obtain ⟨hrl1, hrl2⟩ := read_len (txt l)
      have jp := fun w h => parse_any a len cap l w h (by omega) (by omega)
      unfold RetPar at jp
      have je := fun p pc m mc w h1 h2 => rencode_any (readH (txt l)) p (readP (txt l)).length pc (readP (txt l)) m (readM (txt l)).length mc (readM (txt l)) w hok h1 h2 (by omega)
      unfold RetEncR at je
      have hv127 : Hid (validF (readH (txt l)) (readP (txt l)).length (readM (txt l)).length = true → (encL (readH (txt l)) (readP (txt l)) (readM (txt l))).length ≤ 127) := hid (fun hv => by
        rw [length_encL]; exact (length_of_valid _ _ _ hv).2)
      have HG : Hid (∀ {p m : Value} {w' : World}, goodB l = true → checkB l = true → Gr w' w.heap.size p (readP (txt l)) → Gr w' w.heap.size m (readM (txt l)) → Below w.heap.size w w' → RetDec l w (.returned (.tuple #[fv (readH (txt l)) p m, .int .i64 0])) w') := hid (fun hg hc h1 h2 h3 => by
        have e0 : errD l = 0 := by rw [HE2.out hc, if_pos hg]
        exact ⟨_, _, by rw [if_pos e0, e0], by rw [if_pos e0]; exact h1, by rw [if_pos e0]; exact h2, h3⟩)
      clear hgo
      generalize checkB l = cb at *
      generalize goodB l = gb at *
      generalize validF (readH (txt l)) (readP (txt l)).length (readM (txt l)).length = vb at *
      generalize encL (readH (txt l)) (readP (txt l)) (readM (txt l)) = EL at *
      generalize pok (txt l) = po at *
      have hwl : w.heap.size < (w.alloc (.cells #[.int .i64 0, .bool false, .bool false, .bool false, .int .u8 0, .int .u16 0, .int .i64 0, .int .u16 0, .int .u64 0, .int .i64 0, .int .u16 0, .int .u64 0, .int .u32 0, .int .u8 0, .slice none 0 0, .slice none 0 0] 31)).heap.size := by simp
      go_enter Try.func37, Try.ntmps37
      go_wp2_with fail
      change Calls _ _ _ (w.alloc (.cells #[.int .i64 0, .bool false, .bool false, .bool false, .int .u8 0, .int .u16 0, .int .i64 0, .int .u16 0, .int .u64 0, .int .i64 0, .int .u16 0, .int .u64 0, .int .u32 0, .int .u8 0, .slice none 0 0, .slice none 0 0] 31)) _
      generalize w.alloc _ = w1 at *
      with_reducible refine (jc _ J).mono ?_
      rintro e2 w2 ⟨rfl, hb2⟩
      have hK := hK.below hb2 hK.lt
      have hJ := J.below hb2
      have hB := hB.trans (hb2.mono hB.size)
      have hwl := Nat.lt_of_lt_of_le hwl hb2.size
      clear hb2 J jc
      cases cb
      · have he := HE.out rfl
        go_wp2_with ((with_reducible refine wpList_store_frame (op := ⟨none, _, _, _, _, _⟩) ?_ (.tmp 2) (.tmp 22) ?_ ?_ (h := zH) (p := .slice none 0 0) (m := .slice none 0 0) ?_ hK ?_ ?_ ?_); (· exact rfl); (· exact rfl); (· exact rfl); (· exact rfl); (· exact rfl); (· exact rfl); intro wz hRz hOz)
        exact bodyPost_ret (results_dec (v := .int .i64 6) rfl rfl rfl hRz.out) rfl (bad_dec he (by decide) (hB.trans (hOz.below (Nat.le_refl _) hB.size)))
      · go_wp2_with fail
        with_reducible refine (jp _ hJ).mono ?_
        rintro e3 w3 ⟨h, p, m, rfl, o1, o2, hyes, hb3⟩
        have hK := hK.below hb3 hK.lt
        have hJ := hJ.below hb3
        have hB := hB.trans (hb3.mono hB.size)
        have hwl := Nat.lt_of_lt_of_le hwl hb3.size
        clear hb3 jp
        have HeH : Hid (gb = false → errD l = 5) := hid (fun h => by rw [HE2.out trivial, h]; rfl)
        have hx := (Below.refl w3.heap.size w3).alloc (Nat.le_refl _) (.cells #[.int .i64 0, .bool false, .bool false, .bool false, .int .u8 0, .int .u16 0, .int .i64 0, .int .u16 0, .int .u64 0, .int .i64 0, .int .u16 0, .int .u64 0, .int .u32 0, .int .u8 0, .slice none 0 0, .slice none 0 0] 31)
        have hK5 : Fk (w3.alloc (.cells #[.int .i64 0, .bool false, .bool false, .bool false, .int .u8 0, .int .u16 0, .int .i64 0, .int .u16 0, .int .u64 0, .int .i64 0, .int .u16 0, .int .u64 0, .int .u32 0, .int .u8 0, .slice none 0 0, .slice none 0 0] 31)) w3.heap.size zH (.slice none 0 0) (.slice none 0 0) := Fk.new w3 zH (.slice none 0 0) (.slice none 0 0)
        have hs5 : (w3.alloc (.cells #[.int .i64 0, .bool false, .bool false, .bool false, .int .u8 0, .int .u16 0, .int .i64 0, .int .u16 0, .int .u64 0, .int .i64 0, .int .u16 0, .int .u64 0, .int .u32 0, .int .u8 0, .slice none 0 0, .slice none 0 0] 31)).heap.size = w3.heap.size + 1 := by simp
        cases po
        · have he := HeH.out (HP.out rfl)
          clear hyes
          go_upto_region 8 with (((with_reducible refine wpList_store_frame (op := ⟨none, _, _, _, _, _⟩) ?_ (.tmp 4) (.tmp 26) ?_ ?_ (h := h) (p := p) (m := m) ?_ hK5 ?_ ?_ ?_); (· exact rfl); (· exact rfl); (· exact rfl); (· exact rfl); (· exact o1); (· exact o2); intro w4 hR4 hO4))
          have b34 := hx.trans (hO4.below (Nat.le_refl _) (by omega))
          have hK := hK.below b34 hK.lt
          have hB := hB.trans (b34.mono hB.size)
          go_wp2_with ((with_reducible refine wpList_store_frame (op := ⟨none, _, _, _, _, _⟩) ?_ (.tmp 2) (.tmp 30) ?_ ?_ (h := zH) (p := .slice none 0 0) (m := .slice none 0 0) ?_ hK ?_ ?_ ?_); (· exact rfl); (· exact rfl); (· exact rfl); (· exact rfl); (· exact rfl); (· exact rfl); intro wz hRz hOz)
          exact bodyPost_ret (results_dec (v := .int .i64 5) rfl rfl rfl hRz.out) rfl (bad_dec he (by decide) (hB.trans (hOz.below (Nat.le_refl _) hB.size)))
        · obtain ⟨rfl, hGp, hGm⟩ := hyes rfl
          have hGp := hGp.mono (C := w.heap.size + 1) (by omega)
          have hGm := hGm.mono (C := w.heap.size + 1) (by omega)
          obtain ⟨pa, pc, rfl⟩ := hGp.form
          obtain ⟨ma, mc, rfl⟩ := hGm.form
          go_upto_region 8 with (((with_reducible refine wpList_store_frame (op := ⟨none, _, _, _, _, _⟩) ?_ (.tmp 4) (.tmp 26) ?_ ?_ (h := (readH (txt l))) (p := (.slice pa (readP (txt l)).length pc)) (m := (.slice ma (readM (txt l)).length mc)) ?_ hK5 ?_ ?_ ?_); (· exact rfl); (· exact rfl); (· exact rfl); (· exact rfl); (· exact rfl); (· exact rfl); intro w4 hR4 hO4))
          have b34 := hx.trans (hO4.below (Nat.le_refl _) (by omega))
          have hK := hK.below b34 hK.lt
          have hJ := hJ.below b34
          have hGp := hGp.below b34
          have hGm := hGm.below b34
          have hB := hB.trans (b34.mono hB.size)
          have hwl := Nat.lt_of_lt_of_le hwl b34.size
          have hF := hR4.out
          clear hR4 hO4 hx hK5 hs5 b34 hyes
          obtain ⟨p1, p2, hp1, hI1⟩ := hGp.isB (by omega)
          obtain ⟨m1, m2, hm1, hI2⟩ := hGm.isB (by omega)
          cases hp1
          cases hm1
          go_wp2_with ((with_reducible refine wpList_load_frame (op := ⟨some 32, _, _, _, _, _⟩) ?_ (.tmp 4) ?_ ?_ hF ?_); (· exact rfl); (· exact rfl); (· exact rfl))
          cases vb
          · have he := HeH.out (HV.out rfl)
            with_reducible refine (je _ _ _ _ _ hI1 hI2).mono ?_
            intro e5 w5 hpost
            simp only [Bool.false_eq_true, if_false] at hpost
            obtain ⟨rfl, hb5⟩ := hpost
            have hK := hK.below hb5 hK.lt
            have hB := hB.trans (hb5.mono hB.size)
            go_wp2_with ((with_reducible refine wpList_store_frame (op := ⟨none, _, _, _, _, _⟩) ?_ (.tmp 2) (.tmp 44) ?_ ?_ (h := zH) (p := .slice none 0 0) (m := .slice none 0 0) ?_ hK ?_ ?_ ?_); (· exact rfl); (· exact rfl); (· exact rfl); (· exact rfl); (· exact rfl); (· exact rfl); intro wz hRz hOz)
            exact bodyPost_ret (results_dec (v := .int .i64 5) rfl rfl rfl hRz.out) rfl (bad_dec he (by decide) (hB.trans (hOz.below (Nat.le_refl _) hB.size)))
          · with_reducible refine (je _ _ _ _ _ hI1 hI2).mono ?_
            intro e5 w5 hpost
            simp only [if_true] at hpost
            obtain ⟨v5, rfl, hG5, hb5⟩ := hpost
            have hK := hK.below hb5 hK.lt
            have hF := hF.below hb5 hF.lt
            have hJ := hJ.below hb5
            have hGp := hGp.below hb5
            have hGm := hGm.below hb5
            have hB := hB.trans (hb5.mono hB.size)
            have hwl := Nat.lt_of_lt_of_le hwl hb5.size
            have hQ := hid (HQ.out trivial rfl)
            have hv127 := hv127.out rfl
            obtain ⟨x5, c5, rfl, hI5⟩ := hG5.isB (by omega)
            clear hb5 je hI1 hI2
            go_wp2_with fail
            with_reducible refine (same_any _ _ _ l _ _ _ EL _ hJ hI5).mono ?_
            rintro e6 w6 ⟨rfl, hb6⟩
            have hK := hK.below hb6 hK.lt
            have hF := hF.below hb6 hF.lt
            have hGp := hGp.below hb6
            have hGm := hGm.below hb6
            have hB := hB.trans (hb6.mono hB.size)
            have hwl := Nat.lt_of_lt_of_le hwl hb6.size
            clear hb6
            generalize (l == EL) = qb at *
            cases qb
            · have he := HeH.out hQ.out
              go_wp2_with ((with_reducible refine wpList_store_frame (op := ⟨none, _, _, _, _, _⟩) ?_ (.tmp 2) (.tmp 44) ?_ ?_ (h := zH) (p := .slice none 0 0) (m := .slice none 0 0) ?_ hK ?_ ?_ ?_); (· exact rfl); (· exact rfl); (· exact rfl); (· exact rfl); (· exact rfl); (· exact rfl); intro wz hRz hOz)
              exact bodyPost_ret (results_dec (v := .int .i64 5) rfl rfl rfl hRz.out) rfl (bad_dec he (by decide) (hB.trans (hOz.below (Nat.le_refl _) hB.size)))
            · have hg := hQ.out
              go_wp2_with (first | ((with_reducible refine wpList_load_frame (op := ⟨some 45, _, _, _, _, _⟩) ?_ (.tmp 4) ?_ ?_ hF ?_); (· exact rfl); (· exact rfl); (· exact rfl)) | ((with_reducible refine wpList_store_frame (op := ⟨none, _, _, _, _, _⟩) ?_ (.tmp 2) (.tmp 45) ?_ ?_ (h := (readH (txt l))) (p := (.slice pa (readP (txt l)).length pc)) (m := (.slice ma (readM (txt l)).length mc)) ?_ hK ?_ ?_ ?_); (· exact rfl); (· exact rfl); (· exact rfl); (· exact rfl); (· exact rfl); (· exact rfl); intro wz hRz hOz))
              exact bodyPost_ret (results_dec (v := .int .i64 0) rfl rfl rfl hRz.out) rfl (HG.out hg trivial ((Gr.only hGp hOz (Nat.lt_succ_self _)).mono (Nat.le_succ _)) ((Gr.only hGm hOz (Nat.lt_succ_self _)).mono (Nat.le_succ _)) (hB.trans (hOz.below (Nat.le_refl _) hB.size)))
end Go.Proofs.Ytmbiophckeiehaa
