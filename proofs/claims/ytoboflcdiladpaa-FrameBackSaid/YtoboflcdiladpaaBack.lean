/-
  Decode undoes Encode.
-/
import Derived.Test.YtoboflcdiladpaaCanon
import Derived.Test.YtoboflcdiladpaaSame5
namespace Go.Proofs.Ytoboflcdiladpaa
open Go.RowKit
set_option linter.unusedSimpArgs false
set_option linter.unusedVariables false

set_option maxHeartbeats 8000000 in
set_option maxRecDepth 100000 in
theorem back_walk (a : Option Addr) (len cap : Nat) (w : World) (hI : IsI w a len cap) :
    Calls Try.prog 5 #[.slice a len cap] w (RetS (.bool true) w) := by
  go_enter Try.func5, Try.ntmps5
  go_wp2_with fail
  with_reducible refine (new_any a len cap w hI).mono ?_
  rintro e1 w1 ⟨g, rfl, hg, hT1, hB1⟩
  go_wp2_with fail
  with_reducible refine (anyframe_any g w1 hT1).mono ?_
  rintro e2 w2 ⟨h, p, m, P, M, rfl, hok, hv, hGp, hGm, hT2, hO2⟩
  obtain ⟨pa, pc, rfl⟩ := hGp.form
  obtain ⟨ma, mc, rfl⟩ := hGm.form
  obtain ⟨hP127, hM4⟩ := valid_small h _ _ hv
  have hB := hB1.trans (hO2.below hg hB1.size)
  have hgw : w.heap.size ≤ w1.heap.size := hB1.size
  clear hT1 hB1 hT2 hO2 hI
  have hKn : Fk (w2.alloc (.cells #[.int .i64 0, .bool false, .bool false, .bool false, .int .u8 0, .int .u16 0, .int .i64 0, .int .u16 0, .int .u64 0, .int .i64 0, .int .u16 0, .int .u64 0, .int .u32 0, .int .u8 0, .slice none 0 0, .slice none 0 0] 31)) w2.heap.size zH (.slice none 0 0) (.slice none 0 0) := Fk.new w2 zH (.slice none 0 0) (.slice none 0 0)
  have hxn := (Below.refl w2.heap.size w2).alloc (Nat.le_refl _) (.cells #[.int .i64 0, .bool false, .bool false, .bool false, .int .u8 0, .int .u16 0, .int .i64 0, .int .u16 0, .int .u64 0, .int .i64 0, .int .u16 0, .int .u64 0, .int .u32 0, .int .u8 0, .slice none 0 0, .slice none 0 0] 31)
  go_upto_region 2 with ((with_reducible refine wpList_store_frame (op := ⟨none, _, _, _, _, _⟩) ?_ (.tmp 3) (.tmp 10) ?_ ?_ (h := h) (p := .slice pa P.length pc) (m := .slice ma M.length mc) ?_ hKn ?_ ?_ ?_); (· exact rfl); (· exact rfl); (· exact rfl); (· exact rfl); (· exact rfl); (· exact rfl); intro w3 hR3 hO3)
  have hbn := hxn.trans (hO3.below (Nat.le_refl _) (by simp))
  have hGp := hGp.below hbn
  have hGm := hGm.below hbn
  have hB := hB.trans (hbn.mono hB.size)
  have hF3 := hR3.out
  clear hKn hxn hbn hR3 hO3
  generalize w2.heap.size = b3 at *
  obtain ⟨p1, p2, hp1, hI1⟩ := hGp.isB (by omega)
  obtain ⟨m1, m2, hm1, hI2⟩ := hGm.isB (by omega)
  cases hp1
  cases hm1
  have jE := fun w hJ hM => encode_yes h pa P.length pc P ma M.length mc M w hok hJ hM hv
  have jV := fun w => vframe_any h pa P.length pc ma M.length mc w (by omega) (by omega)
  have jS := fun w => siz_any h pa P.length pc ma M.length mc w (by omega) (by omega)
  have hZ : sizF h P.length M.length = (encL h P M).length := by unfold sizF; rw [if_pos hv, length_encL]
  obtain ⟨d0, d1, d2, d3⟩ := dec_enc h P M hok hv
  obtain ⟨q5, q127⟩ := length_of_valid h _ _ hv
  rw [← length_encL h P M] at q5 q127
  have jD := fun (g : Nat) w hJ => dec_ok (some ⟨g, 0, none⟩) (encL h P M).length (encL h P M).length (encL h P M) w hJ d0
  rw [d1, d2, d3] at jD
  rw [hZ] at jS
  rw [hv] at jV
  generalize encL h P M = L at *
  clear d0 d1 d2 d3 hZ
  have h127 : (L.length : Int) ≤ 127 := by omega
  go_wp2_with ((with_reducible refine wpList_load_frame (op := ⟨some 12, _, _, _, _, _⟩) ?_ (.tmp 3) ?_ ?_ hF3 ?_); (· exact rfl); (· exact rfl); (· exact rfl))
  with_reducible refine (jE _ hI1 hI2).mono ?_
  rintro e4 w4 ⟨gb, rfl, hgb, hO, hb4⟩
  have hF3 := hF3.below hb4 hF3.lt
  have hGp := hGp.below hb4
  have hGm := hGm.below hb4
  have hB := hB.trans (hb4.mono hB.size)
  clear hb4 jE hI1 hI2
  have hJb := hO.isB (by omega)
  go_wp2_with fail
  with_reducible refine (jD gb _ hJb).mono ?_
  rintro e5 w5 ⟨p5, m5, rfl, hGp5, hGm5, hb5⟩
  obtain ⟨pa5, pc5, rfl⟩ := hGp5.form
  obtain ⟨ma5, mc5, rfl⟩ := hGm5.form
  have hF3 := hF3.below hb5 hF3.lt
  have hGp := hGp.below hb5
  have hGm := hGm.below hb5
  have hB := hB.trans (hb5.mono hB.size)
  clear hb5 jD hJb hO
  have hKn : Fk (w5.alloc (.cells #[.int .i64 0, .bool false, .bool false, .bool false, .int .u8 0, .int .u16 0, .int .i64 0, .int .u16 0, .int .u64 0, .int .i64 0, .int .u16 0, .int .u64 0, .int .u32 0, .int .u8 0, .slice none 0 0, .slice none 0 0] 31)) w5.heap.size zH (.slice none 0 0) (.slice none 0 0) := Fk.new w5 zH (.slice none 0 0) (.slice none 0 0)
  have hxn := (Below.refl w5.heap.size w5).alloc (Nat.le_refl _) (.cells #[.int .i64 0, .bool false, .bool false, .bool false, .int .u8 0, .int .u16 0, .int .i64 0, .int .u16 0, .int .u64 0, .int .i64 0, .int .u16 0, .int .u64 0, .int .u32 0, .int .u8 0, .slice none 0 0, .slice none 0 0] 31)
  go_upto_region 4 with ((with_reducible refine wpList_store_frame (op := ⟨none, _, _, _, _, _⟩) ?_ (.tmp 6) (.tmp 19) ?_ ?_ (h := h) (p := .slice pa5 P.length pc5) (m := .slice ma5 M.length mc5) ?_ hKn ?_ ?_ ?_); (· exact rfl); (· exact rfl); (· exact rfl); (· exact rfl); (· exact rfl); (· exact rfl); intro w6 hR6 hO6)
  have hbn := hxn.trans (hO6.below (Nat.le_refl _) (by simp))
  have hF3 := hF3.below hbn hF3.lt
  have hGp := hGp.below hbn
  have hGm := hGm.below hbn
  have hGp5 := hGp5.below hbn
  have hGm5 := hGm5.below hbn
  have hB := hB.trans (hbn.mono hB.size)
  have hF6 := hR6.out
  clear hKn hxn hbn hR6 hO6
  generalize w5.heap.size = b6 at *
  go_wp2_with fail
  with_reducible refine (known_any _).mono ?_
  rintro e7 w7 ⟨rfl, hb7⟩
  have hF3 := hF3.below hb7 hF3.lt
  have hF6 := hF6.below hb7 hF6.lt
  have hGp := hGp.below hb7
  have hGm := hGm.below hb7
  have hGp5 := hGp5.below hb7
  have hGm5 := hGm5.below hb7
  have hB := hB.trans (hb7.mono hB.size)
  clear hb7
  obtain ⟨p1, p2, hp1, hI1⟩ := hGp.isB (by omega)
  obtain ⟨m1, m2, hm1, hI2⟩ := hGm.isB (by omega)
  obtain ⟨p3, p4, hp3, hI3⟩ := hGp5.isB (by omega)
  obtain ⟨m3, m4, hm3, hI4⟩ := hGm5.isB (by omega)
  cases hp1
  cases hm1
  cases hp3
  cases hm3
  go_wp2_with (first | ((with_reducible refine wpList_load_frame_on (op := ⟨some 31, _, _, _, _, _⟩) ?_ (.tmp 3) ?_ ?_ hF3 ?_); (· exact rfl); (· exact rfl); (· exact rfl)) | ((with_reducible refine wpList_load_frame_on (op := ⟨some 32, _, _, _, _, _⟩) ?_ (.tmp 6) ?_ ?_ hF6 ?_); (· exact rfl); (· exact rfl); (· exact rfl)))
  with_reducible refine (rsame_eq h pa P.length pc P ma M.length mc M pa5 pc5 ma5 mc5 _ hI1 hI2 hI3 hI4).mono ?_
  rintro e8 w8 ⟨rfl, hb8⟩
  have hF3 := hF3.below hb8 hF3.lt
  have hB := hB.trans (hb8.mono hB.size)
  clear hb8 hI1 hI2 hI3 hI4
  go_wp2_with ((with_reducible refine wpList_load_frame_on (op := ⟨some 36, _, _, _, _, _⟩) ?_ (.tmp 3) ?_ ?_ hF3 ?_); (· exact rfl); (· exact rfl); (· exact rfl))
  with_reducible refine (jV _).mono ?_
  rintro e9 w9 ⟨rfl, hb9⟩
  have hF3 := hF3.below hb9 hF3.lt
  have hB := hB.trans (hb9.mono hB.size)
  clear hb9
  go_wp2_with ((with_reducible refine wpList_load_frame_on (op := ⟨some 42, _, _, _, _, _⟩) ?_ (.tmp 3) ?_ ?_ hF3 ?_); (· exact rfl); (· exact rfl); (· exact rfl))
  with_reducible refine (jS _).mono ?_
  rintro e10 w10 ⟨rfl, hb10⟩
  have hB := hB.trans (hb10.mono hB.size)
  go_wp2_with fail
  go_ret
  exact ⟨ret_bool (by simp; try omega), hB⟩
end Go.Proofs.Ytoboflcdiladpaa
