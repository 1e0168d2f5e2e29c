/-
  The program and the reference decode bytes equally.
-/
import Derived.Test.YtmbiophckeiehaaRefDec
import Derived.Test.YtmbiophckeiehaaSame5
namespace Go.Proofs.Ytmbiophckeiehaa
open Go.RowKit
set_option linter.unusedSimpArgs false
set_option linter.unusedVariables false

set_option maxHeartbeats 8000000 in
set_option maxRecDepth 100000 in
theorem rsame_read (a : Option Addr) (len cap : Nat) (l : List UInt8) (w : World) (hb : IsB w a len cap l) :
    Calls Try.prog 12 #[.slice a len cap] w (RetS (.bool true) w) := by
  have j1 := fun w hb => decode_any a len cap l w hb
  have j2 := fun w hb => rdecode_any a len cap l w hb
  unfold RetDec at j1 j2
  have hmx := hb.max
  have hlen := hb.length
  have hLP : (if errD l = 0 then readP (txt l) else []).length ≤ 281474976710656 := by
    split
    · have := (read_len (txt l)).1; have : (txt l).length ≤ l.length := by unfold txt; rw [List.length_take]; omega
      omega
    · simp
  have hLM : (if errD l = 0 then readM (txt l) else []).length ≤ 281474976710656 := by
    split
    · have := (read_len (txt l)).2; have : (txt l).length ≤ l.length := by unfold txt; rw [List.length_take]; omega
      omega
    · simp
  generalize (if errD l = 0 then readP (txt l) else []) = LP at *
  generalize (if errD l = 0 then readM (txt l) else []) = LM at *
  generalize (if errD l = 0 then readH (txt l) else zH) = H at *
  generalize errD l = z at *
  go_enter Try.func12, Try.ntmps12
  go_wp2_with fail
  with_reducible refine (j1 _ hb).mono ?_
  rintro e1 w1 ⟨p, m, rfl, hGp, hGm, hb1⟩
  obtain ⟨pa, pc, rfl⟩ := hGp.form
  obtain ⟨ma, mc, rfl⟩ := hGm.form
  have hx := (Below.refl w1.heap.size w1).alloc (Nat.le_refl _) (.cells #[.int .i64 0, .bool false, .bool false, .bool false, .int .u8 0, .int .u16 0, .int .i64 0, .int .u16 0, .int .u64 0, .int .i64 0, .int .u16 0, .int .u64 0, .int .u32 0, .int .u8 0, .slice none 0 0, .slice none 0 0] 31)
  have hK : Fk (w1.alloc (.cells #[.int .i64 0, .bool false, .bool false, .bool false, .int .u8 0, .int .u16 0, .int .i64 0, .int .u16 0, .int .u64 0, .int .i64 0, .int .u16 0, .int .u64 0, .int .u32 0, .int .u8 0, .slice none 0 0, .slice none 0 0] 31)) w1.heap.size zH (.slice none 0 0) (.slice none 0 0) := Fk.new w1 zH (.slice none 0 0) (.slice none 0 0)
  go_upto_region 2 with (((with_reducible refine wpList_store_frame (op := ⟨none, _, _, _, _, _⟩) ?_ (.tmp 3) (.tmp 10) ?_ ?_ (h := H) (p := (.slice pa LP.length pc)) (m := (.slice ma LM.length mc)) ?_ hK ?_ ?_ ?_); (· exact rfl); (· exact rfl); (· exact rfl); (· exact rfl); (· exact rfl); (· exact rfl); intro w2 hR2 hO2))
  have hb2 := hx.trans (hO2.below (Nat.le_refl _) (by simp))
  have hGp := hGp.below hb2
  have hGm := hGm.below hb2
  have hB := hb1.trans (hb2.mono hb1.size)
  have hF := hR2.out
  have hb' := hb.below hB
  clear hK hx hO2 hR2 hb2 hb1 j1
  generalize w1.heap.size = b3 at *
  go_wp2_with fail
  with_reducible refine (j2 _ hb').mono ?_
  rintro e3 w3 ⟨q, n, rfl, hGq, hGn, hb3⟩
  obtain ⟨qa, qc, rfl⟩ := hGq.form
  obtain ⟨na, nc, rfl⟩ := hGn.form
  have hGp := hGp.below hb3
  have hGm := hGm.below hb3
  have hF := hF.below hb3 hF.lt
  have hB := hB.trans (hb3.mono hB.size)
  have hx := (Below.refl w3.heap.size w3).alloc (Nat.le_refl _) (.cells #[.int .i64 0, .bool false, .bool false, .bool false, .int .u8 0, .int .u16 0, .int .i64 0, .int .u16 0, .int .u64 0, .int .i64 0, .int .u16 0, .int .u64 0, .int .u32 0, .int .u8 0, .slice none 0 0, .slice none 0 0] 31)
  have hK : Fk (w3.alloc (.cells #[.int .i64 0, .bool false, .bool false, .bool false, .int .u8 0, .int .u16 0, .int .i64 0, .int .u16 0, .int .u64 0, .int .i64 0, .int .u16 0, .int .u64 0, .int .u32 0, .int .u8 0, .slice none 0 0, .slice none 0 0] 31)) w3.heap.size zH (.slice none 0 0) (.slice none 0 0) := Fk.new w3 zH (.slice none 0 0) (.slice none 0 0)
  go_upto_region 3 with (((with_reducible refine wpList_store_frame (op := ⟨none, _, _, _, _, _⟩) ?_ (.tmp 5) (.tmp 15) ?_ ?_ (h := H) (p := (.slice qa LP.length qc)) (m := (.slice na LM.length nc)) ?_ hK ?_ ?_ ?_); (· exact rfl); (· exact rfl); (· exact rfl); (· exact rfl); (· exact rfl); (· exact rfl); intro w4 hR4 hO4))
  have hb4 := hx.trans (hO4.below (Nat.le_refl _) (by simp))
  have hGp := hGp.below hb4
  have hGm := hGm.below hb4
  have hGq := hGq.below hb4
  have hGn := hGn.below hb4
  have hF := hF.below hb4 hF.lt
  have hB := hB.trans (hb4.mono hB.size)
  have hF2 := hR4.out
  clear hK hx hO4 hR4 hb4 hb3 j2
  generalize w3.heap.size = b5 at *
  obtain ⟨_, _, h1, i1⟩ := hGp.isB hLP
  obtain ⟨_, _, h2, i2⟩ := hGm.isB hLM
  obtain ⟨_, _, h3, i3⟩ := hGq.isB hLP
  obtain ⟨_, _, h4, i4⟩ := hGn.isB hLM
  cases h1
  cases h2
  cases h3
  cases h4
  have hzz : (z == z) = true := by simp
  go_wp2_with (first | ((with_reducible refine wpList_load_frame_on (op := ⟨some 21, _, _, _, _, _⟩) ?_ (.tmp 3) ?_ ?_ hF ?_); (· exact rfl); (· exact rfl); (· exact rfl)) | ((with_reducible refine wpList_load_frame_on (op := ⟨some 22, _, _, _, _, _⟩) ?_ (.tmp 5) ?_ ?_ hF2 ?_); (· exact rfl); (· exact rfl); (· exact rfl)))
  with_reducible refine (rsame_eq _ _ _ _ LP _ _ _ LM _ _ _ _ _ i1 i2 i3 i4).mono ?_
  rintro e5 w5 ⟨rfl, hb5⟩
  go_wp2_with fail
  go_ret
  exact ⟨rfl, hB.trans (hb5.mono hB.size)⟩
end Go.Proofs.Ytmbiophckeiehaa
