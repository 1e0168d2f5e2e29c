/-
  Decode and AckFor.
-/
import Derived.Test.YtmbiophckeiehaaRead
import Derived.Test.YtmbiophckeiehaaDecMath
import Derived.Test.YtmbiophckeiehaaBeq
namespace Go.Proofs.Ytmbiophckeiehaa
open Go.RowKit
set_option linter.unusedSimpArgs false
set_option linter.unusedVariables false

theorem readH_ok (l : List UInt8) : HOk (readH l) := by
  have g1 : firstN l < 256 := numV_lt l 1
  have g3 : seqN l < 256 := numV_lt (r2 l) 1
  have g5 : numV (r3 l) 2 < 65536 := numV_lt (r3 l) 2
  have g7 : numV (r7 l) 4 < 4294967296 := numV_lt (r7 l) 4
  have g8 : numV (r8 l) 1 < 256 := numV_lt (r8 l) 1
  have ad : ∀ (m v : Nat), m < 4 → (m = 2 → v < 65536) → v < 18446744073709551616 → Ad3 (m : Int) (adS m v) (adX m v) := by
    intro m v hm h2 hv
    unfold Ad3 adS adX I64 U64
    by_cases h : m = 2
    · have := h2 h
      rw [if_pos h, if_pos h]; exact ⟨by omega, by omega, by omega⟩
    · rw [if_neg h, if_neg h]; exact ⟨by omega, by omega, by omega⟩
  have z3 : Ad3 0 0 0 := by unfold Ad3 I64 U64; omega
  have a2 : ∀ (q : List UInt8) (m : Nat), m = 2 → numV q (asz (m : Int)) < 65536 := by
    intro q m h; subst h; exact numV_lt q 2
  refine ⟨?_, ?_, ?_, ?_, ?_, ?_, ?_⟩
  · show I64 (kindN l : Int)
    unfold kindN I64; omega
  · show 0 ≤ (seqN l : Int) ∧ (seqN l : Int) < 256
    omega
  · show 0 ≤ (if kindN l = 2 then 0 else (numV (r3 l) 2 : Int)) ∧ (if kindN l = 2 then 0 else (numV (r3 l) 2 : Int)) < 65536
    split <;> omega
  · show Ad3 (if kindN l = 2 then 0 else (dmOf (modesN l) : Int)) (if kindN l = 2 then 0 else adS (dmOf (modesN l)) (numV (r4 l) (asz (dmOf (modesN l) : Nat)))) (if kindN l = 2 then 0 else adX (dmOf (modesN l)) (numV (r4 l) (asz (dmOf (modesN l) : Nat))))
    by_cases h : kindN l = 2
    · rw [if_pos h, if_pos h, if_pos h]; exact z3
    · rw [if_neg h, if_neg h, if_neg h]; exact ad _ _ (by unfold dmOf; omega) (a2 _ _) (numV_u64 _ _)
  · show Ad3 (if kindN l = 2 then 0 else (smOf (modesN l) : Int)) (if kindN l = 2 then 0 else adS (smOf (modesN l)) (numV (r5 l) (asz (smOf (modesN l) : Nat)))) (if kindN l = 2 then 0 else adX (smOf (modesN l)) (numV (r5 l) (asz (smOf (modesN l) : Nat))))
    by_cases h : kindN l = 2
    · rw [if_pos h, if_pos h, if_pos h]; exact z3
    · rw [if_neg h, if_neg h, if_neg h]; exact ad _ _ (by unfold smOf; omega) (a2 _ _) (numV_u64 _ _)
  · show 0 ≤ (if secB l then (numV (r7 l) 4 : Int) else 0) ∧ (if secB l then (numV (r7 l) 4 : Int) else 0) < 4294967296
    split <;> omega
  · show 0 ≤ (if secB l then (numV (r8 l) 1 : Int) else 0) ∧ (if secB l then (numV (r8 l) 1 : Int) else 0) < 256
    split <;> omega

theorem read_len (l : List UInt8) : (readP l).length ≤ l.length ∧ (readM l).length ≤ l.length := by
  have d1 : (r1 l).length ≤ l.length := numR_le _ _
  have d2 : (r2 l).length ≤ (r1 l).length := numR_le _ _
  have d3 : (r3 l).length ≤ (r2 l).length := numR_le _ _
  have d4 : (r4 l).length ≤ (r3 l).length := numR_le _ _
  have d5 : (r5 l).length ≤ (r4 l).length := numR_le _ _
  have d6 : (r6 l).length ≤ (r5 l).length := numR_le _ _
  have d8 : (r8 l).length ≤ (r7 l).length := numR_le _ _
  have d9 : (r9 l).length ≤ (r8 l).length := numR_le _ _
  have h7 : (r7 l).length ≤ l.length := by unfold r7; split <;> omega
  constructor
  · unfold readP; split
    · unfold lastR; rw [List.length_take]; omega
    · exact h7
  · unfold readM; split
    · unfold lastV; rw [List.length_drop]; omega
    · simp

/-- the frame's bytes without the CRC -/
def txt (l : List UInt8) : List UInt8 := l.take (l.length - 2)
/-- these bytes are the encoding of a valid frame -/
def goodB (l : List UInt8) : Bool := validF (readH (txt l)) (readP (txt l)).length (readM (txt l)).length && (bodyL (readH (txt l)) (readP (txt l)) (readM (txt l)) == txt l)
/-- Decode's error -/
def errD (l : List UInt8) : Int := if 127 < l.length then 3 else if l.length < 5 then 4 else if checkB l = false then 6 else if goodB l then 0 else 5
/-- what Decode answers -/
def RetDec (l : List UInt8) (w : World) (e : Ending) (w' : World) : Prop :=
  ∃ p m, e = .returned (.tuple #[fv (if errD l = 0 then readH (txt l) else zH) p m, .int .i64 (errD l)]) ∧ Gr w' w.heap.size p (if errD l = 0 then readP (txt l) else []) ∧ Gr w' w.heap.size m (if errD l = 0 then readM (txt l) else []) ∧ Below w.heap.size w w'

theorem results_dec {fn : Func} {t u : Tmp} (hr : fn.results = #[.cell t 31, .tmp u]) {tmps : Array Value} {w : World} {g : Nat} {h : Hd} {p m : Value} {v : Value} (hp : tmps.getD t undef = .pointer (some ⟨g, 0, none⟩)) (hq : tmps.getD u undef = v) (hR : Fr w g h p m) :
    (results fn tmps).run Try.prog w = .ok (.tuple #[fv h p m, v]) w := by
  have hload := run_loadVar_mid (P := Try.prog) w g 0 31 (fvl h p m) _ hR Try.underlying31 rfl frame_info
  unfold results
  rw [hr]
  have hp' : tmps[t]?.getD undef = .pointer (some ⟨g, 0, none⟩) := by simpa using hp
  have hq' : tmps[u]?.getD undef = v := by simpa using hq
  simp [hp', hq', asAddr, hload]
  rfl

theorem bad_dec {l : List UInt8} {w w' : World} {z : Int} (h : errD l = z) (hz : z ≠ 0) (hB : Below w.heap.size w w') :
    RetDec l w (.returned (.tuple #[fv zH (.slice none 0 0) (.slice none 0 0), .int .i64 z])) w' := by
  subst h
  exact ⟨_, _, by rw [if_neg hz], by rw [if_neg hz]; exact Gr.nil _ _, by rw [if_neg hz]; exact Gr.nil _ _, hB⟩

set_option maxHeartbeats 8000000 in
set_option maxRecDepth 100000 in
theorem decode_any (a : Option Addr) (len cap : Nat) (l : List UInt8) (w : World) (hb : IsB w a len cap l) :
    Calls Try.prog 21 #[.slice a len cap] w (RetDec l w) := by
  have hlen := hb.length
  have hle := hb.le
  have hmx := hb.max
  have hK : Fk (w.alloc (.cells #[.int .i64 0, .bool false, .bool false, .bool false, .int .u8 0, .int .u16 0, .int .i64 0, .int .u16 0, .int .u64 0, .int .i64 0, .int .u16 0, .int .u64 0, .int .u32 0, .int .u8 0, .slice none 0 0, .slice none 0 0] 31)) w.heap.size zH (.slice none 0 0) (.slice none 0 0) := Fk.new w zH (.slice none 0 0) (.slice none 0 0)
  have hB := (Below.refl w.heap.size w).alloc (Nat.le_refl _) (.cells #[.int .i64 0, .bool false, .bool false, .bool false, .int .u8 0, .int .u16 0, .int .i64 0, .int .u16 0, .int .u64 0, .int .i64 0, .int .u16 0, .int .u64 0, .int .u32 0, .int .u8 0, .slice none 0 0, .slice none 0 0] 31)
  have J := hb.below hB
  by_cases h1 : 127 < len
  · have he : errD l = 3 := by unfold errD; rw [if_pos (by omega)]
    go_enter Try.func21, Try.ntmps21
    go_wp2_with (refine wpList_store_frame (op := ⟨none, _, _, _, _, _⟩) rfl (.tmp 2) (.tmp 10) rfl rfl (h := zH) (p := .slice none 0 0) (m := .slice none 0 0) rfl hK rfl rfl ?_; intro wz hRz hOz)
    exact bodyPost_ret (results_dec (v := .int .i64 3) rfl rfl rfl hRz.out) rfl (bad_dec he (by decide) (hB.trans (hOz.below (Nat.le_refl _) hB.size)))
  · by_cases h5 : len < 5
    · have he : errD l = 4 := by unfold errD; rw [if_neg (by omega), if_pos (by omega)]
      go_enter Try.func21, Try.ntmps21
      go_wp2_with (refine wpList_store_frame (op := ⟨none, _, _, _, _, _⟩) rfl (.tmp 2) (.tmp 15) rfl rfl (h := zH) (p := .slice none 0 0) (m := .slice none 0 0) rfl hK rfl rfl ?_; intro wz hRz hOz)
      exact bodyPost_ret (results_dec (v := .int .i64 4) rfl rfl rfl hRz.out) rfl (bad_dec he (by decide) (hB.trans (hOz.below (Nat.le_refl _) hB.size)))
    · have jc := fun w h => check_any a len cap l w h
      have HE : Hid (checkB l = false → errD l = 6) := hid (fun h => by unfold errD; rw [if_neg (by omega), if_neg (by omega), if_pos h])
      have HE2 : Hid (checkB l = true → errD l = if goodB l then 0 else 5) := hid (fun h => by unfold errD; rw [if_neg (by omega), if_neg (by omega), if_neg (by rw [h]; decide)])
      obtain ⟨k, hk⟩ : ∃ k, len = k + 2 := ⟨len - 2, by omega⟩
      subst hk
      have hT := J.take k (by omega)
      have htx : l.take k = txt l := by unfold txt; rw [hlen]; rfl
      rw [htx] at hT
      have hgo : goodB l = (validF (readH (txt l)) (readP (txt l)).length (readM (txt l)).length && (bodyL (readH (txt l)) (readP (txt l)) (readM (txt l)) == txt l)) := rfl
      have hok := readH_ok (txt l)
      obtain ⟨hrl1, hrl2⟩ := read_len (txt l)
      have htl : (txt l).length = k := hT.length
      
      obtain ⟨q, hq, hqI, _⟩ := slice_head2 J k (by omega)
      rw [htx] at hqI
      have jr' := fun w h => read_any q k cap (txt l) w h (by omega)
      generalize checkB l = cb at *
      have jv := fun (p : Option Addr) (pc : Nat) (m : Option Addr) (mc : Nat) w => vframe_any (readH (txt l)) p (readP (txt l)).length pc m (readM (txt l)).length mc w (by omega) (by omega)
      have hval := hval_of (readH (txt l)) (readP (txt l)).length (readM (txt l)).length hok
      have jb := fun (p : Option Addr) (pc : Nat) (m : Option Addr) (mc : Nat) w hv h1 h2 => body_any (readH (txt l)) p (readP (txt l)).length pc (readP (txt l)) m (readM (txt l)).length mc (readM (txt l)) w hv h1 h2 (by omega) (by omega)
      have hbl : (bodyL (readH (txt l)) (readP (txt l)) (readM (txt l))).length ≤ 281474976710656 := by
        have := length_preL_le (readH (txt l))
        unfold bodyL headL
        rw [List.length_append, List.length_append]; omega
      have je := fun v b c w h1 h2 => bytes_equal v b c (bodyL (readH (txt l)) (readP (txt l)) (readM (txt l))) q k cap (txt l) w h1 h2
      have HG : Hid (∀ {p m : Value} {w' : World}, goodB l = true → cb = true → Gr w' w.heap.size p (readP (txt l)) → Gr w' w.heap.size m (readM (txt l)) → Below w.heap.size w w' → RetDec l w (.returned (.tuple #[fv (readH (txt l)) p m, .int .i64 0])) w') := hid (fun hg hc h1 h2 h3 => by
        have e0 : errD l = 0 := by rw [HE2.out hc, if_pos hg]
        exact ⟨_, _, by rw [if_pos e0, e0], by rw [if_pos e0]; exact h1, by rw [if_pos e0]; exact h2, h3⟩)
      generalize goodB l = gb at *
      generalize validF (readH (txt l)) (readP (txt l)).length (readM (txt l)).length = vb at *
      generalize (bodyL (readH (txt l)) (readP (txt l)) (readM (txt l)) == txt l) = eb at *
      generalize bodyL (readH (txt l)) (readP (txt l)) (readM (txt l)) = BL at *
      have hwl : w.heap.size < (w.alloc (.cells #[.int .i64 0, .bool false, .bool false, .bool false, .int .u8 0, .int .u16 0, .int .i64 0, .int .u16 0, .int .u64 0, .int .i64 0, .int .u16 0, .int .u64 0, .int .u32 0, .int .u8 0, .slice none 0 0, .slice none 0 0] 31)).heap.size := by simp
      have HGO := hid hgo
      clear hgo hb htx
      go_enter Try.func21, Try.ntmps21
      go_wp2_with fail
      change Calls _ _ _ (w.alloc (.cells #[.int .i64 0, .bool false, .bool false, .bool false, .int .u8 0, .int .u16 0, .int .i64 0, .int .u16 0, .int .u64 0, .int .i64 0, .int .u16 0, .int .u64 0, .int .u32 0, .int .u8 0, .slice none 0 0, .slice none 0 0] 31)) _
      generalize w.alloc _ = w1 at *
      with_reducible refine (jc _ J).mono ?_
      rintro e2 w2 ⟨rfl, hb2⟩
      have hK := hK.below hb2 hK.lt
      have hqI := hqI.below hb2
      have hB := hB.trans (hb2.mono hB.size)
      have hwl := Nat.lt_of_lt_of_le hwl hb2.size
      clear hb2 J hT jc
      cases cb
      · have he := HE.out rfl
        go_wp2_with (refine wpList_store_frame (op := ⟨none, _, _, _, _, _⟩) rfl (.tmp 2) (.tmp 20) rfl rfl (h := zH) (p := .slice none 0 0) (m := .slice none 0 0) rfl hK rfl rfl ?_; intro wz hRz hOz)
        exact bodyPost_ret (results_dec (v := .int .i64 6) rfl rfl rfl hRz.out) rfl (bad_dec he (by decide) (hB.trans (hOz.below (Nat.le_refl _) hB.size)))
      · go_wp2_with fail
        with_reducible refine (jr' _ hqI).mono ?_
        rintro e3 w3 ⟨p, m, rfl, hGp, hGm, hb3⟩
        have hK := hK.below hb3 hK.lt
        have hqI := hqI.below hb3
        have hB := hB.trans (hb3.mono hB.size)
        have hwl := Nat.lt_of_lt_of_le hwl hb3.size
        have hGp := hGp.mono (C := w.heap.size + 1) (by omega)
        have hGm := hGm.mono (C := w.heap.size + 1) (by omega)
        obtain ⟨pa, pc, rfl⟩ := hGp.form
        obtain ⟨ma, mc, rfl⟩ := hGm.form
        clear hb3 jr'
        have hx := (Below.refl w3.heap.size w3).alloc (Nat.le_refl _) (.cells #[.int .i64 0, .bool false, .bool false, .bool false, .int .u8 0, .int .u16 0, .int .i64 0, .int .u16 0, .int .u64 0, .int .i64 0, .int .u16 0, .int .u64 0, .int .u32 0, .int .u8 0, .slice none 0 0, .slice none 0 0] 31)
        have hK5 : Fk (w3.alloc (.cells #[.int .i64 0, .bool false, .bool false, .bool false, .int .u8 0, .int .u16 0, .int .i64 0, .int .u16 0, .int .u64 0, .int .i64 0, .int .u16 0, .int .u64 0, .int .u32 0, .int .u8 0, .slice none 0 0, .slice none 0 0] 31)) w3.heap.size zH (.slice none 0 0) (.slice none 0 0) := Fk.new w3 zH (.slice none 0 0) (.slice none 0 0)
        have hs5 : (w3.alloc (.cells #[.int .i64 0, .bool false, .bool false, .bool false, .int .u8 0, .int .u16 0, .int .i64 0, .int .u16 0, .int .u64 0, .int .i64 0, .int .u16 0, .int .u64 0, .int .u32 0, .int .u8 0, .slice none 0 0, .slice none 0 0] 31)).heap.size = w3.heap.size + 1 := by simp
        go_wp2_with (first | (refine wpList_store_frame (op := ⟨none, _, _, _, _, _⟩) rfl (.tmp 5) (.tmp 27) rfl rfl rfl hK5 rfl rfl ?_; intro w4 hF4 hO4) | (refine wpList_load_frame (op := ⟨some 28, _, _, _, _, _⟩) rfl (.tmp 5) rfl rfl hF4.out ?_))
        have b34 := hx.trans (hO4.below (Nat.le_refl _) (by omega))
        have hK := hK.below b34 hK.lt
        have hqI := hqI.below b34
        have hGp := hGp.below b34
        have hGm := hGm.below b34
        have hB := hB.trans (b34.mono hB.size)
        have hF := hF4.out
        have hwl := Nat.lt_of_lt_of_le hwl b34.size
        clear hF4 hO4 hx hK5 hs5 b34
        have he : gb = false → errD l = 5 := fun h => by rw [HE2.out trivial, h]; rfl
        have HeH := hid he
        clear he
        with_reducible refine (jv pa pc ma mc _).mono ?_
        rintro e5 w5 ⟨rfl, hb5⟩
        have hK := hK.below hb5 hK.lt
        have hF := hF.below hb5 hF.lt
        have hqI := hqI.below hb5
        have hGp := hGp.below hb5
        have hGm := hGm.below hb5
        have hB := hB.trans (hb5.mono hB.size)
        have hwl := Nat.lt_of_lt_of_le hwl hb5.size
        clear hb5
        cases vb
        · have he := HeH.out
          go_wp2_with ((with_reducible refine wpList_store_frame (op := ⟨none, _, _, _, _, _⟩) ?_ (.tmp 2) (.tmp 38) ?_ ?_ (h := zH) (p := .slice none 0 0) (m := .slice none 0 0) ?_ hK ?_ ?_ ?_); (· exact rfl); (· exact rfl); (· exact rfl); (· exact rfl); (· exact rfl); (· exact rfl); intro wz hRz hOz)
          exact bodyPost_ret (results_dec (v := .int .i64 5) rfl rfl rfl hRz.out) rfl (bad_dec (he (by rw [HGO.out]; rfl)) (by decide) (hB.trans (hOz.below (Nat.le_refl _) hB.size)))
        · have hV := hval rfl
          obtain ⟨p1, p2, hp1, hI1⟩ := hGp.isB (by omega)
          obtain ⟨m1, m2, hm1, hI2⟩ := hGm.isB (by omega)
          cases hp1
          cases hm1
          go_wp2_with ((with_reducible refine wpList_load_frame_on (op := ⟨some 32, _, _, _, _, _⟩) ?_ (.tmp 5) ?_ ?_ hF ?_); (· exact rfl); (· exact rfl); (· exact rfl))
          with_reducible refine (jb pa pc ma mc _ hV hI1 hI2).mono ?_
          rintro e6 w6 ⟨v, rfl, hGv, hb6⟩
          obtain ⟨va, vc, rfl, hIv⟩ := hGv.isB hbl
          have hK := hK.below hb6 hK.lt
          have hF := hF.below hb6 hF.lt
          have hqI := hqI.below hb6
          have hGp := hGp.below hb6
          have hGm := hGm.below hb6
          have hB := hB.trans (hb6.mono hB.size)
          have hwl := Nat.lt_of_lt_of_le hwl hb6.size
          clear hb6 hGv hI1 hI2
          go_wp2_with fail
          with_reducible refine (je va BL.length vc _ hIv hqI).mono ?_
          rintro e7 w7 ⟨rfl, rfl⟩
          cases eb
          · have he := HeH.out
            go_wp2_with ((with_reducible refine wpList_store_frame (op := ⟨none, _, _, _, _, _⟩) ?_ (.tmp 2) (.tmp 38) ?_ ?_ (h := zH) (p := .slice none 0 0) (m := .slice none 0 0) ?_ hK ?_ ?_ ?_); (· exact rfl); (· exact rfl); (· exact rfl); (· exact rfl); (· exact rfl); (· exact rfl); intro wz hRz hOz)
            exact bodyPost_ret (results_dec (v := .int .i64 5) rfl rfl rfl hRz.out) rfl (bad_dec (he (by rw [HGO.out]; rfl)) (by decide) (hB.trans (hOz.below (Nat.le_refl _) hB.size)))
          · go_wp2_with (first | ((with_reducible refine wpList_load_frame (op := ⟨some 39, _, _, _, _, _⟩) ?_ (.tmp 5) ?_ ?_ hF ?_); (· exact rfl); (· exact rfl); (· exact rfl)) | ((with_reducible refine wpList_store_frame (op := ⟨none, _, _, _, _, _⟩) ?_ (.tmp 2) (.tmp 39) ?_ ?_ (h := readH (txt l)) (p := .slice pa (readP (txt l)).length pc) (m := .slice ma (readM (txt l)).length mc) ?_ hK ?_ ?_ ?_); (· exact rfl); (· exact rfl); (· exact rfl); (· exact rfl); (· exact rfl); (· exact rfl); intro wz hRz hOz))
            exact bodyPost_ret (results_dec (v := .int .i64 0) rfl rfl rfl hRz.out) rfl (HG.out (by rw [HGO.out]; rfl) trivial ((Gr.only hGp hOz (Nat.lt_succ_self _)).mono (Nat.le_succ _)) ((Gr.only hGm hOz (Nat.lt_succ_self _)).mono (Nat.le_succ _)) (hB.trans (hOz.below (Nat.le_refl _) hB.size)))
end Go.Proofs.Ytmbiophckeiehaa
