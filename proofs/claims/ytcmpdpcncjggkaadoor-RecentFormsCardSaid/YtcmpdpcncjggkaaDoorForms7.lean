/-
  All functions against the reference, for all lists: the law's walk.
-/
import Derived.Test.YtcmpdpcncjggkaaDoorAlike
import Derived.Test.YtcmpdpcncjggkaaDoorNow7
import Derived.Test.YtcmpdpcncjggkaaDoorPrun7
namespace Go.Proofs.YtcmpdpcncjggkaaDoor
open Go.RowKit
set_option linter.unusedSimpArgs false
set_option linter.unusedVariables false

set_option maxHeartbeats 16000000 in
set_option maxRecDepth 100000 in
theorem forms_walk (a0 : Option Addr) (len0 cap0 : Nat) (l0 : List Ent) (m s e : Int) (q now : Int) (a4 : Option Addr) (len4 cap4 : Nat) (w : World) (hI : IsE w a0 len0 cap0 l0) (hAd : Ad3 m s e) (hq : 0 ≤ q ∧ q < 256) (hn : I64 now) (hT : IsI w a4 len4 cap4) (G : GL w) :
    Calls Tryd.prog 3 #[.slice a0 len0 cap0, av m s e, .int .u8 q, .int .i64 now, .slice a4 len4 cap4] w (RetS (.bool true) w) := by
  have hB0 := (Below.refl w.heap.size w).alloc (Nat.le_refl _) (.cells #[.int .i64 m, .int .u16 s, .int .u64 e] 28)
  have hA1 : Ar (w.alloc (.cells #[.int .i64 m, .int .u16 s, .int .u64 e] 28)) w.heap.size m s e := Ar.of_heap (heap_alloc_new w _)
  have hsz : (w.alloc (.cells #[.int .i64 m, .int .u16 s, .int .u64 e] 28)).heap.size = w.heap.size + 1 := by simp
  have hI1 := hI.below hB0
  have hT1 := hT.below hB0
  have G1 := G.on hB0
  clear hI hT G hAd hq hn
  rw [av]
  go_enter Tryd.func3, Tryd.ntmps3
  go_wp2_with fail
  generalize w.alloc (.cells #[.int .i64 m, .int .u16 s, .int .u64 e] 28) = w1 at *
  with_reducible refine (new_any a4 len4 cap4 w1 hT1).mono ?_
  rintro e2 w2 ⟨g, rfl, hg, hT2, hb2⟩
  go_wp2_with fail
  with_reducible refine (seen_any g w2 hT2).mono ?_
  rintro e3 w3 ⟨v, L, rfl, hV, hG3, hT3, hO3⟩
  have hgB : g < w2.heap.size := hT2.lt
  have hg3 : g < w3.heap.size := hT3.lt
  have hB3 := hb2.trans (hO3.below hg hb2.size)
  have hLl := hV.len
  obtain ⟨p, cp, rfl, hI3⟩ := hG3.isE (by omega)
  have hb4 := (Below.refl w3.heap.size w3).alloc (Nat.le_refl _) (.cells #[] 36)
  have hE4 := grE_new w3 w3.heap.size (Nat.le_refl _)
  have hI4 := hI3.below hb4
  clear hT1 hT2 hb2 hO3 hI3
  go_wp2_with (with_reducible refine wpList_append_ents (o := ⟨some 20, _, _, _, _, _⟩) rfl (.tmp 18) (.tmp 19) rfl (.slice (some ⟨w3.heap.size, 0, none⟩) 0 0) rfl p L.length cp rfl w3.heap.size [] L hE4 hI4 (by simp; omega) w3 hb4 (by simp) ?_; intro v5 w5 hE5 hb5 _)
  have hO5 := Only.ofBelow g hb5
  have hT5 := hT3.below hb5
  have hE5 : GrE w5 w3.heap.size v5 L := by simpa using hE5.out
  clear hE4 hI4 hb4 hb5 hT3
  go_wp2_with fail
  with_reducible refine (taddr_any g w5 hT5).mono ?_
  rintro e6 w6 ⟨m1, s1, x1, rfl, had1, hT6, hQ6⟩
  have hO6 := hO5.trans hQ6
  have hE6 := hE5.only hQ6 hg3
  clear hE5
  clear hT5 hQ6 hO5
  simp only [av]
  go_wp2_with fail
  with_reducible refine (next_any g 4 w6 hT6 (by omega) (by omega)).mono ?_
  rintro e7 w7 ⟨q1, rfl, hq1, hT7, hQ7⟩
  have hO7 := hO6.trans hQ7
  have hE7 := hE6.only hQ7 hg3
  clear hE6
  have hw7 : IntKind.u8.wrap (q1 : Int) = (q1 : Int) := by simp [IntKind.wrap, IntKind.bits, IntKind.signed]; omega
  clear hT6 hQ7 hO6
  go_wp2_with fail
  with_reducible refine (next_any g 50 w7 hT7 (by omega) (by omega)).mono ?_
  rintro e8 w8 ⟨u1, rfl, hu1, hT8, hQ8⟩
  have hO8 := hO7.trans hQ8
  have hE8 := hE7.only hQ8 hg3
  clear hE7
  clear hT7 hQ8 hO7
  obtain ⟨p5, cp5, rfl⟩ := hE8.form
  have hone : IsE (w8.alloc (.cells #[.int .i64 m1, .int .u16 s1, .int .u64 x1, .int .u8 (q1 : Int), .int .i64 ((u1 : Int) - 2)] 36)) (some ⟨w8.heap.size, 0, none⟩) 1 1 [⟨m1, s1, x1, q1, (u1 : Int) - 2⟩] := isE_one w8 ⟨m1, s1, x1, q1, (u1 : Int) - 2⟩
  have hbn := (Below.refl w8.heap.size w8).alloc (Nat.le_refl _) (.cells #[.int .i64 m1, .int .u16 s1, .int .u64 x1, .int .u8 (q1 : Int), .int .i64 ((u1 : Int) - 2)] 36)
  have hEn := hE8.below hbn
  have hs3 : w3.heap.size ≤ w8.heap.size := hO8.size
  go_wp2_with (with_reducible refine wpList_append_ents (o := ⟨some 31, _, _, _, _, _⟩) rfl (.tmp 20) (.tmp 30) rfl (.slice p5 L.length cp5) rfl (some ⟨w8.heap.size, 0, none⟩) 1 1 rfl w3.heap.size L [⟨m1, s1, x1, q1, (u1 : Int) - 2⟩] hEn hone (by omega) w8 (hbn.mono hs3) (by simp; omega) ?_; intro v9 w9 hE9 hb9 _)
  have hO9 := only_grow hO8 hb9
  have hT9 := tape_under hT8 hb9 hg3
  generalize hSp : L ++ [(⟨m1, s1, x1, q1, (u1 : Int) - 2⟩ : Ent)] = Sp at hE9
  have hSl : Sp.length ≤ 33 := by rw [← hSp]; simp; omega
  have hE9 := hE9.out
  clear hEn hone hbn hE8 hT8 hO8 hSp
  have hBk := hB3.trans (hO9.below hg hB3.size)
  
  go_wp2_with fail
  with_reducible refine (known_any w9 (G1.on hBk)).mono ?_
  rintro e10 w10 ⟨rfl, hb10⟩
  have hO10 := hO9.trans (Only.ofBelow g hb10)
  have hT10 := hT9.below hb10
  have hE10 := hE9.below hb10
  clear hO9 hT9 hE9 hb10 hBk
  have hBk := hB3.trans (hO10.below hg hB3.size)
  obtain ⟨c0, c1, c2⟩ := (hA1.below hBk (by omega)).cells
  have hal := alike_any a0 len0 cap0 l0 m s e q now w10 (hI1.below hBk)
  simp only [av] at hal
  go_wp2_with fail
  with_reducible refine (hal).mono ?_
  rintro e11 w11 ⟨rfl, hb11⟩
  have hO11 := hO10.trans (Only.ofBelow g hb11)
  have hT11 := hT10.below hb11
  have hE11 := hE10.below hb11
  clear hO10 hT10 hE10 hb11 hBk
  clear hal c0 c1 c2
  go_wp2_with fail
  with_reducible refine (taddr_any g w11 hT11).mono ?_
  rintro e12 w12 ⟨m2, s2, x2, rfl, had2, hT12, hQ12⟩
  have hO12 := hO11.trans hQ12
  have hE12 := hE11.only hQ12 hg3
  clear hE11
  clear hT11 hQ12 hO11
  simp only [av]
  go_wp2_with fail
  with_reducible refine (next_any g 4 w12 hT12 (by omega) (by omega)).mono ?_
  rintro e13 w13 ⟨q2, rfl, hq2, hT13, hQ13⟩
  have hO13 := hO12.trans hQ13
  have hE13 := hE12.only hQ13 hg3
  clear hE12
  have hw13 : IntKind.u8.wrap (q2 : Int) = (q2 : Int) := by simp [IntKind.wrap, IntKind.bits, IntKind.signed]; omega
  clear hT12 hQ13 hO12
  go_wp2_with fail
  with_reducible refine (now_any g w13 hT13).mono ?_
  rintro e14 w14 ⟨z2, rfl, hT14, hQ14⟩
  have hO14 := hO13.trans hQ14
  have hE14 := hE13.only hQ14 hg3
  clear hE13
  clear hT13 hQ14 hO13
  have hBk := hB3.trans (hO14.below hg hB3.size)
  obtain ⟨p', cp', hv, hIL⟩ := (hG3.only hO14 hgB).isE (by omega)
  injection hv with e1 e2 e3
  subst e1 e3
  have hal := alike_any p L.length cp L m2 s2 x2 q2 z2 w14 hIL
  simp only [av] at hal
  go_wp2_with fail
  with_reducible refine (hal).mono ?_
  rintro e15 w15 ⟨rfl, hb15⟩
  have hO15 := hO14.trans (Only.ofBelow g hb15)
  have hT15 := hT14.below hb15
  have hE15 := hE14.below hb15
  clear hO14 hT14 hE14 hb15 hBk
  clear hal hIL e2
  have hBk := hB3.trans (hO15.below hg hB3.size)
  obtain ⟨p', cp', hv, hIL⟩ := (hG3.only hO15 hgB).isE (by omega)
  injection hv with e1 e2 e3
  subst e1 e3
  obtain ⟨c0, c1, c2⟩ := (hA1.below hBk (by omega)).cells
  have hal := alike_any p L.length cp L m s e q now w15 hIL
  simp only [av] at hal
  go_wp2_with fail
  with_reducible refine (hal).mono ?_
  rintro e16 w16 ⟨rfl, hb16⟩
  have hO16 := hO15.trans (Only.ofBelow g hb16)
  have hT16 := hT15.below hb16
  have hE16 := hE15.below hb16
  clear hO15 hT15 hE15 hb16 hBk
  clear hal hIL e2 c0 c1 c2
  go_wp2_with fail
  with_reducible refine (device_good g w16 hT16).mono ?_
  rintro e17 w17 ⟨m3, s3, x3, rfl, had3, hdg3, hT17, hQ17⟩
  have hO17 := hO16.trans hQ17
  have hE17 := hE16.only hQ17 hg3
  clear hE16
  clear hT16 hQ17 hO16
  simp only [av]
  go_wp2_with fail
  with_reducible refine (next_any g 4 w17 hT17 (by omega) (by omega)).mono ?_
  rintro e18 w18 ⟨q3, rfl, hq3, hT18, hQ18⟩
  have hO18 := hO17.trans hQ18
  have hE18 := hE17.only hQ18 hg3
  clear hE17
  have hw18 : IntKind.u8.wrap (q3 : Int) = (q3 : Int) := by simp [IntKind.wrap, IntKind.bits, IntKind.signed]; omega
  clear hT17 hQ18 hO17
  go_wp2_with fail
  with_reducible refine (now_any g w18 hT18).mono ?_
  rintro e19 w19 ⟨z3, rfl, hT19, hQ19⟩
  have hO19 := hO18.trans hQ19
  have hE19 := hE18.only hQ19 hg3
  clear hE18
  clear hT18 hQ19 hO18
  have hBk := hB3.trans (hO19.below hg hB3.size)
  obtain ⟨p6, cp6, hv6, hIS⟩ := hE19.isE (by omega)
  have hal := alike_any p6 Sp.length cp6 Sp m3 s3 x3 q3 z3 w19 hIS
  simp only [av] at hal
  subst hv6
  go_wp2_with fail
  with_reducible refine (hal).mono ?_
  rintro e20 w20 ⟨rfl, hb20⟩
  have hO20 := hO19.trans (Only.ofBelow g hb20)
  have hT20 := hT19.below hb20
  have hE20 := hE19.below hb20
  clear hO19 hT19 hE19 hb20 hBk
  have hBz := hB3.trans (hO20.below hg hB3.size)
  go_wp2_with fail
  go_ret
  exact ⟨ret_bool rfl, hB0.trans (hBz.mono hB0.size)⟩
end Go.Proofs.YtcmpdpcncjggkaaDoor
