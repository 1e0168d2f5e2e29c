/-
  Valid, Size, Room, Header, Encode and AckFor against the reference, for all frames: the law's walk.
-/
import Derived.Test.YtmbiophckeiehaaSpoil
import Derived.Test.YtmbiophckeiehaaViewInts
namespace Go.Proofs.Ytmbiophckeiehaa
open Go.RowKit
set_option linter.unusedSimpArgs false
set_option linter.unusedVariables false

theorem gr_apart {w : World} {B g : Nat} {p : Option Addr} {n c : Nat} {l : List UInt8} (h : Gr w B (.slice p n c) l) (hg : g < B) : ∀ x, p = some x → 0 < c → x.block ≠ g := by
  intro x hx _
  subst hx
  have := (h.own x.block rfl).1
  omega

set_option maxHeartbeats 8000000 in
set_option maxRecDepth 100000 in
theorem fforms_walk (h0 : Hd) (a : Option Addr) (n c : Nat) (P0 : List UInt8) (b : Option Addr) (k d : Nat) (M0 : List UInt8) (ta : Option Addr) (tlen tcap : Nat) (w : World) (ho0 : HOk h0) (hJ0 : IsB w a n c P0) (hM0 : IsB w b k d M0) (hc : c ≤ 140737488351232) (hd : d ≤ 140737488351232) (hI : IsI w ta tlen tcap) :
    Calls Try.prog 3 #[fv h0 (.slice a n c) (.slice b k d), .slice ta tlen tcap] w (RetS (.bool true) w) := by
  have hn0 := hJ0.le
  have hF := (Fk.new w h0 (.slice a n c) (.slice b k d)).fr
  have hB := (Below.refl w.heap.size w).alloc (Nat.le_refl _) (.cells (fvl h0 (.slice a n c) (.slice b k d)).toArray 31)
  have hI := hI.below hB
  have jf := fun w' h1 h2 => forms_any h0 a n c P0 b k d M0 w' ho0 h1 h2 (by omega)
  rw [show fv h0 (.slice a n c) (.slice b k d) = .agg (fvl h0 (.slice a n c) (.slice b k d)).toArray from rfl]
  go_enter Try.func3, Try.ntmps3
  go_wp2_with fail
  generalize w.alloc _ = w0 at *
  with_reducible refine (new_any ta tlen tcap _ hI).mono ?_
  rintro e1 w1 ⟨g, rfl, hg, hT, hb⟩
  have hg0 : w.heap.size ≤ g := Nat.le_trans hB.size hg
  have hlt0 := hF.lt
  have hF := hF.below hb hF.lt
  have hB := hB.trans (hb.mono hB.size)
  have hFg : w.heap.size ≠ g := by omega
  clear hb hI
  go_wp2_with fail
  with_reducible refine (anyframe_any g _ hT).mono ?_
  have hgl := hT.lt
  rintro e2 w2 ⟨h, p, m, P, M, rfl, hok, hv, hGp, hGm, hT, hO⟩
  obtain ⟨pa, pc, rfl⟩ := hGp.form
  obtain ⟨ma, mc, rfl⟩ := hGm.form
  obtain ⟨hP127, hM4⟩ := valid_small h _ _ hv
  have hF := hF.only hO hF.lt hFg
  have hB := hB.trans (hO.below hg0 hB.size)
  have hap := gr_apart hGp (Nat.lt_succ_of_lt hgl)
  have haq := gr_apart hGm (Nat.lt_succ_of_lt hgl)
  obtain ⟨p1, p2, hp1, hI1⟩ := hGp.isB (by omega)
  obtain ⟨m1, m2, hm1, hI2⟩ := hGm.isB (by omega)
  cases hp1
  cases hm1
  clear hGp hGm hO hv hgl
  have hx := (Below.refl w2.heap.size w2).alloc (Nat.le_refl _) (.cells #[.int .i64 0, .bool false, .bool false, .bool false, .int .u8 0, .int .u16 0, .int .i64 0, .int .u16 0, .int .u64 0, .int .i64 0, .int .u16 0, .int .u64 0, .int .u32 0, .int .u8 0, .slice none 0 0, .slice none 0 0] 31)
  have hK : Fk (w2.alloc (.cells #[.int .i64 0, .bool false, .bool false, .bool false, .int .u8 0, .int .u16 0, .int .i64 0, .int .u16 0, .int .u64 0, .int .i64 0, .int .u16 0, .int .u64 0, .int .u32 0, .int .u8 0, .slice none 0 0, .slice none 0 0] 31)) w2.heap.size zH (.slice none 0 0) (.slice none 0 0) := Fk.new w2 zH (.slice none 0 0) (.slice none 0 0)
  go_upto_region 3 with (((with_reducible refine wpList_store_frame (op := ⟨none, _, _, _, _, _⟩) ?_ (.tmp 6) (.tmp 10) ?_ ?_ (h := h) (p := (.slice pa P.length pc)) (m := (.slice ma M.length mc)) ?_ hK ?_ ?_ ?_); (· exact rfl); (· exact rfl); (· exact rfl); (· exact rfl); (· exact rfl); (· exact rfl); intro w3 hR3 hO3))
  have hb := hx.trans (hO3.below (Nat.le_refl _) (by simp))
  have hF := hF.below hb hF.lt
  have hF6 := hR3.out
  have hI1 := hI1.below hb
  have hI2 := hI2.below hb
  have hT := hT.below hb
  have hB := hB.trans (hb.mono hB.size)
  clear hx hK hO3 hR3 hb
  generalize w2.heap.size = b6 at *
  go_wp2_with fail
  with_reducible refine (known_any _).mono ?_
  rintro e4 w4 ⟨rfl, hb⟩
  have hF := hF.below hb hF.lt
  have hF6 := hF6.below hb hF6.lt
  have hI1 := hI1.below hb
  have hI2 := hI2.below hb
  have hT := hT.below hb
  have hB := hB.trans (hb.mono hB.size)
  clear hb
  go_wp2_with ((with_reducible refine wpList_load_frame_on (op := ⟨some 13, _, _, _, _, _⟩) ?_ (.tmp 2) ?_ ?_ hF ?_); (· exact rfl); (· exact rfl); (· exact rfl))
  with_reducible refine (jf _ (hJ0.below hB) (hM0.below hB)).mono ?_
  rintro e5 w5 ⟨rfl, hb⟩
  have hF6 := hF6.below hb hF6.lt
  have hI1 := hI1.below hb
  have hI2 := hI2.below hb
  have hT := hT.below hb
  have hB := hB.trans (hb.mono hB.size)
  clear hb jf hF
  go_wp2_with ((with_reducible refine wpList_load_frame_on (op := ⟨some 17, _, _, _, _, _⟩) ?_ (.tmp 6) ?_ ?_ hF6 ?_); (· exact rfl); (· exact rfl); (· exact rfl))
  with_reducible refine (forms_any h pa P.length pc P ma M.length mc M _ hok hI1 hI2 (by omega)).mono ?_
  rintro e6 w6 ⟨rfl, hb⟩
  have hF6 := hF6.below hb hF6.lt
  have hI1 := hI1.below hb
  have hI2 := hI2.below hb
  have hT := hT.below hb
  have hB := hB.trans (hb.mono hB.size)
  clear hb
  go_wp2_with ((with_reducible refine wpList_load_frame_on (op := ⟨some 22, _, _, _, _, _⟩) ?_ (.tmp 6) ?_ ?_ hF6 ?_); (· exact rfl); (· exact rfl); (· exact rfl))
  with_reducible refine (spoiled_any g h pa P.length pc P ma M.length mc M _ hT hok hI1 hI2 (by omega) hap haq).mono ?_
  rintro e7 w7 ⟨h7, a7, n7, c7, P7, b7, k7, d7, M7, rfl, hok7, hJ7, hM7, hn7, hT, hO⟩
  have hB := hB.trans (hO.below hg0 hB.size)
  clear hO hI1 hI2 hF6 hap haq
  go_wp2_with fail
  with_reducible refine (forms_any h7 a7 n7 c7 P7 b7 k7 d7 M7 _ hok7 hJ7 hM7 (by omega)).mono ?_
  rintro e8 w8 ⟨rfl, hb⟩
  have hT := hT.below hb
  have hB := hB.trans (hb.mono hB.size)
  clear hb hJ7 hM7 hok7
  have jt : ∀ w', TapeAt w' g → Calls Try.prog 10 #[.pointer (some ⟨g, 0, none⟩), .int .i64 4] w' (RetFrame g w') := fun w' hT => tframe_any g 4 w' hT (by omega)
  go_wp2_with fail
  with_reducible refine (jt _ hT).mono ?_
  have hgl := hT.lt
  rintro e9 w9 ⟨h9, k9, P9, rfl, hk9, hl9, hok9, _, _, _, _, _, hOw, hT, hO⟩
  have hB := hB.trans (hO.below hg0 hB.size)
  have hJ9 := hOw.isB (by omega)
  clear hO jt
  go_wp2_with fail
  with_reducible refine (spoiled_any g h9 (some ⟨k9, 0, none⟩) P9.length P9.length P9 none 0 0 [] _ hT hok9 hJ9 (isB_nil _) (by omega) (fun x hx _ => by injection hx with hx; subst hx; show k9 ≠ g; omega) (fun x hx _ => by cases hx)).mono ?_
  rintro e10 w10 ⟨h10, a10, n10, c10, P10, b10, k10, d10, M10, rfl, hok10, hJ10, hM10, hn10, hT, hO⟩
  have hB := hB.trans (hO.below hg0 hB.size)
  clear hO
  go_wp2_with fail
  with_reducible refine (forms_any h10 a10 n10 c10 P10 b10 k10 d10 M10 _ hok10 hJ10 hM10 (by omega)).mono ?_
  rintro e11 w11 ⟨rfl, hb⟩
  go_wp2_with fail
  go_ret
  exact ⟨rfl, hB.trans (hb.mono hB.size)⟩
end Go.Proofs.Ytmbiophckeiehaa
