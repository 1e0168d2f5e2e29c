/-
  The tape's Spoiled: a frame with one property changed.
-/
import Derived.Test.YtmbiophckeiehaaForms
namespace Go.Proofs.Ytmbiophckeiehaa
open Go.RowKit
set_option linter.unusedSimpArgs false
set_option linter.unusedVariables false

/-- where Spoiled stands: the tape, the frame's box, the result's block -/
structure SP (w wi : World) (g : Nat) (h : Hd) (p m : Value) : Prop where
  tape : TapeAt wi g
  only : Only g w wi
  fr : Fk wi w.heap.size h p m
  res : Fk wi (w.heap.size + 1) zH (.slice none 0 0) (.slice none 0 0)
  glt : g < w.heap.size
theorem SP.call {w wi wj : World} {g : Nat} {h : Hd} {p m : Value} (s : SP w wi g h p m) (hT : TapeAt wj g) (hO : Only g wi wj) : SP w wj g h p m := by
  have h2 := s.glt
  exact ⟨hT, s.only.trans hO, s.fr.only hO s.fr.lt (by omega), s.res.only hO s.res.lt (by omega), h2⟩
theorem SP.to {w wi wj : World} {g : Nat} {h h' : Hd} {p m p' m' : Value} (s : SP w wi g h p m) (hO : Only w.heap.size wi wj) (hK : Fk wj w.heap.size h' p' m') : SP w wj g h' p' m' := by
  have h2 := s.glt
  exact ⟨s.tape.only hO (by omega), only_two s.only hO (Nat.le_refl _), hK, s.res.only hO s.res.lt (by omega), h2⟩
theorem SP.below {w wi wj : World} {g : Nat} {h : Hd} {p m : Value} (s : SP w wi g h p m) (hB : Below wi.heap.size wi wj) : SP w wj g h p m :=
  ⟨s.tape.below hB, s.only.trans (Only.ofBelow g hB), s.fr.below hB s.fr.lt, s.res.below hB s.res.lt, s.glt⟩
theorem SP.set {w wi : World} {g : Nat} {h : Hd} {p m : Value} (s : SP w wi g h p m) (j : Nat) (v : Value) (h' : Hd) (p' m' : Value) (hs : (fvl h p m).toArray.setIfInBounds j v = (fvl h' p' m').toArray) : SP w (wi.setCell ⟨w.heap.size, j, none⟩ v) g h' p' m' :=
  s.to (Only.set w.heap.size j wi v) (s.fr.set j v hs)

/-- what Spoiled answers: some frame -/
def RetSp (g : Nat) (w : World) (e : Ending) (w' : World) : Prop :=
  ∃ h a n c P b k d M, e = .returned (fv h (.slice a n c) (.slice b k d)) ∧ HOk h ∧ IsB w' a n c P ∧ IsB w' b k d M ∧ n ≤ 1000000 ∧ TapeAt w' g ∧ Only g w w'

set_option maxHeartbeats 8000000 in
set_option maxRecDepth 100000 in
theorem spoiled_any (g : Nat) (h : Hd) (a : Option Addr) (n c : Nat) (P : List UInt8) (b : Option Addr) (k d : Nat) (M : List UInt8) (w : World) (hT : TapeAt w g) (ho : HOk h) (hJ : IsB w a n c P) (hM : IsB w b k d M) (hn8 : n ≤ 1000)
    (hP : ∀ x, a = some x → 0 < c → x.block ≠ g) (hQ : ∀ x, b = some x → 0 < d → x.block ≠ g) :
    Calls Try.prog 9 #[.pointer (some ⟨g, 0, none⟩), fv h (.slice a n c) (.slice b k d)] w (RetSp g w) := by
  have hg := hT.lt
  have hn : n ≤ 1000000 := by omega
  have hs : SP w ((w.alloc (.cells (fvl h (.slice a n c) (.slice b k d)).toArray 31)).alloc (.cells #[.int .i64 0, .bool false, .bool false, .bool false, .int .u8 0, .int .u16 0, .int .i64 0, .int .u16 0, .int .u64 0, .int .i64 0, .int .u16 0, .int .u64 0, .int .u32 0, .int .u8 0, .slice none 0 0, .slice none 0 0] 31)) g h (.slice a n c) (.slice b k d) := by
    have hx := (Below.refl (w.heap.size + 1) (w.alloc (.cells (fvl h (.slice a n c) (.slice b k d)).toArray 31))).alloc (by simp) (.cells #[.int .i64 0, .bool false, .bool false, .bool false, .int .u8 0, .int .u16 0, .int .i64 0, .int .u16 0, .int .u64 0, .int .i64 0, .int .u16 0, .int .u64 0, .int .u32 0, .int .u8 0, .slice none 0 0, .slice none 0 0] 31)
    have hK := Fk.new (w.alloc (.cells (fvl h (.slice a n c) (.slice b k d)).toArray 31)) zH (.slice none 0 0) (.slice none 0 0)
    rw [World.size_alloc] at hK
    have hB := two_below w (.cells (fvl h (.slice a n c) (.slice b k d)).toArray 31) (.cells #[.int .i64 0, .bool false, .bool false, .bool false, .int .u8 0, .int .u16 0, .int .i64 0, .int .u16 0, .int .u64 0, .int .i64 0, .int .u16 0, .int .u64 0, .int .u32 0, .int .u8 0, .slice none 0 0, .slice none 0 0] 31)
    exact ⟨hT.below hB, Only.ofBelow g hB, (Fk.new w h (.slice a n c) (.slice b k d)).below hx (Nat.lt_succ_self _), hK, hg⟩
  have hs2 : w.heap.size + 1 < ((w.alloc (.cells (fvl h (.slice a n c) (.slice b k d)).toArray 31)).alloc (.cells #[.int .i64 0, .bool false, .bool false, .bool false, .int .u8 0, .int .u16 0, .int .i64 0, .int .u16 0, .int .u64 0, .int .i64 0, .int .u16 0, .int .u64 0, .int .u32 0, .int .u8 0, .slice none 0 0, .slice none 0 0] 31)).heap.size := by simp
  rw [show fv h (.slice a n c) (.slice b k d) = .agg (fvl h (.slice a n c) (.slice b k d)).toArray from rfl]
  go_enter Try.func9, Try.ntmps9
  go_wp2_with fail
  generalize (w.alloc _).alloc _ = w2 at *
  with_reducible refine (next_any g 8 _ hs.tape (by omega) (by omega)).mono ?_
  rintro e3 w3 ⟨z, rfl, hz, hT3, hO3⟩
  replace hs := hs.call hT3 hO3
  have hs3 := Nat.lt_of_lt_of_le hs2 hO3.size
  clear hT hT3 hO3 hs2
  rcases (by omega : z = 0 ∨ z = 1 ∨ z = 2 ∨ z = 3 ∨ z = 4 ∨ z = 5 ∨ z = 6 ∨ z = 7) with rfl | rfl | rfl | rfl | rfl | rfl | rfl | rfl
  · go_wp2_with fail
    with_reducible refine (next_any g 6 _ hs.tape (by omega) (by omega)).mono ?_
    rintro e4 w4 ⟨v, rfl, hv, hT, hO⟩
    replace hs := hs.call hT hO
    clear hT hO
    have hw : IntKind.i64.wrap ((v : Int) - 1) = (v : Int) - 1 := by simp [IntKind.wrap, IntKind.bits, IntKind.signed]; omega
    have c0 := hs.fr.fr.cells.1
    have f0 := hs.fr.frozen 0
    go_upto_region 17 with (fail)
    replace hs := hs.set 0 (.int .i64 ((v : Int) - 1)) { h with k := (v : Int) - 1 } (.slice a n c) (.slice b k d) rfl
    clear c0 f0
    generalize World.setCell _ _ _ = w6 at hs ⊢
    have hF := hs.fr.fr
    have hR0 := hs.res
    go_wp2_with (first | ((with_reducible refine wpList_load_frame (op := ⟨some 63, _, _, _, _, _⟩) ?_ (.tmp 3) ?_ ?_ hF ?_); (· exact rfl); (· exact rfl); (· exact rfl)) | ((with_reducible refine wpList_store_frame (op := ⟨none, _, _, _, _, _⟩) ?_ (.tmp 4) (.tmp 63) ?_ ?_ (h := { h with k := (v : Int) - 1 }) (p := .slice a n c) (m := .slice b k d) ?_ hR0 ?_ ?_ ?_); (· exact rfl); (· exact rfl); (· exact rfl); (· exact rfl); (· exact rfl); (· exact rfl); intro wz hRz hOz))
    have hOf := only_two hs.only hOz (Nat.le_succ _)
    refine bodyPost_ret (results_frame rfl rfl hRz.out) rfl ?_
    exact ⟨{ h with k := (v : Int) - 1 }, _, _, _, _, _, _, _, _, rfl, ⟨by show I64 ((v : Int) - 1); unfold I64; omega, ho.sq, ho.pn, ho.d, ho.s, ho.ct, ho.ky⟩, hJ.only hOf hP, hM.only hOf hQ, hn, hs.tape.only hOz (by omega), hOf⟩
  · go_wp2_with fail
    with_reducible refine (next_any g 5 _ hs.tape (by omega) (by omega)).mono ?_
    rintro e4 w4 ⟨v, rfl, hv, hT, hO⟩
    replace hs := hs.call hT hO
    clear hT hO
    go_wp2_with fail
    with_reducible refine (next_any g 2 _ hs.tape (by omega) (by omega)).mono ?_
    rintro e5 w5 ⟨u, rfl, hu, hT, hO⟩
    replace hs := hs.call hT hO
    clear hT hO
    have hw1 : IntKind.u16.wrap (u : Int) = (u : Int) := by simp [IntKind.wrap, IntKind.bits, IntKind.signed]; omega
    go_wp2_with fail
    with_reducible refine (next_any g 2 _ hs.tape (by omega) (by omega)).mono ?_
    rintro e6 w7 ⟨x, rfl, hx, hT, hO⟩
    replace hs := hs.call hT hO
    clear hT hO
    have hw2 : IntKind.u64.wrap (x : Int) = (x : Int) := by rw [IntKind.wrap_u64]; omega
    have th := hs.fr.there3 (o := 6) (by omega)
    have hK := hs.fr.setD (v : Int) (u : Int) (x : Int)
    have hO := only_cells (g := w.heap.size) [.int .i64 (v : Int), .int .u16 (u : Int), .int .u64 (x : Int)] 6 w7 w7 (Only.refl _ w7)
    have hsn : SP w _ g { h with dm := (v : Int), ds := (u : Int), dx := (x : Int) } (.slice a n c) (.slice b k d) := hs.to hO hK
    clear hK hO
    go_upto_region 17 with ((refine wpList_store_mid (op := ⟨none, _, _, _, _, _⟩) rfl 27 (.tmp 28) (.tmp 27) rfl w.heap.size 6 #[.int .i64 (v : Int), .int .u16 (u : Int), .int .u64 (x : Int)] rfl rfl th addr_info (by simp [Value.oneCell']) ?_))
    clear th
    replace hs := hsn
    clear hsn
    generalize World.setCells _ _ _ _ = w6 at hs ⊢
    have hF := hs.fr.fr
    have hR0 := hs.res
    go_wp2_with (first | ((with_reducible refine wpList_load_frame (op := ⟨some 63, _, _, _, _, _⟩) ?_ (.tmp 3) ?_ ?_ hF ?_); (· exact rfl); (· exact rfl); (· exact rfl)) | ((with_reducible refine wpList_store_frame (op := ⟨none, _, _, _, _, _⟩) ?_ (.tmp 4) (.tmp 63) ?_ ?_ (h := { h with dm := (v : Int), ds := (u : Int), dx := (x : Int) }) (p := .slice a n c) (m := .slice b k d) ?_ hR0 ?_ ?_ ?_); (· exact rfl); (· exact rfl); (· exact rfl); (· exact rfl); (· exact rfl); (· exact rfl); intro wz hRz hOz))
    have hOf := only_two hs.only hOz (Nat.le_succ _)
    refine bodyPost_ret (results_frame rfl rfl hRz.out) rfl ?_
    exact ⟨{ h with dm := (v : Int), ds := (u : Int), dx := (x : Int) }, _, _, _, _, _, _, _, _, rfl, ⟨ho.k, ho.sq, ho.pn, by show Ad3 (v : Int) (u : Int) (x : Int); unfold Ad3 I64 U64; omega, ho.s, ho.ct, ho.ky⟩, hJ.only hOf hP, hM.only hOf hQ, hn, hs.tape.only hOz (by omega), hOf⟩
  · go_wp2_with fail
    with_reducible refine (taddr_any g _ hs.tape).mono ?_
    rintro e4 w4 ⟨v, u, x, rfl, hA3, hT, hO⟩
    replace hs := hs.call hT hO
    clear hT hO
    simp only [av]
    have th := hs.fr.there3 (o := 9) (by omega)
    have hK := hs.fr.setS v u x
    have hO := only_cells (g := w.heap.size) [.int .i64 v, .int .u16 u, .int .u64 x] 9 w4 w4 (Only.refl _ w4)
    have hsn : SP w _ g { h with sm := v, ss := u, sx := x } (.slice a n c) (.slice b k d) := hs.to hO hK
    clear hK hO
    go_upto_region 17 with ((refine wpList_store_mid (op := ⟨none, _, _, _, _, _⟩) rfl 27 (.tmp 33) (.tmp 32) rfl w.heap.size 9 #[.int .i64 v, .int .u16 u, .int .u64 x] rfl rfl th addr_info (by simp [Value.oneCell']) ?_))
    clear th
    replace hs := hsn
    clear hsn
    generalize World.setCells _ _ _ _ = w6 at hs ⊢
    have hF := hs.fr.fr
    have hR0 := hs.res
    go_wp2_with (first | ((with_reducible refine wpList_load_frame (op := ⟨some 63, _, _, _, _, _⟩) ?_ (.tmp 3) ?_ ?_ hF ?_); (· exact rfl); (· exact rfl); (· exact rfl)) | ((with_reducible refine wpList_store_frame (op := ⟨none, _, _, _, _, _⟩) ?_ (.tmp 4) (.tmp 63) ?_ ?_ (h := { h with sm := v, ss := u, sx := x }) (p := .slice a n c) (m := .slice b k d) ?_ hR0 ?_ ?_ ?_); (· exact rfl); (· exact rfl); (· exact rfl); (· exact rfl); (· exact rfl); (· exact rfl); intro wz hRz hOz))
    have hOf := only_two hs.only hOz (Nat.le_succ _)
    refine bodyPost_ret (results_frame rfl rfl hRz.out) rfl ?_
    exact ⟨{ h with sm := v, ss := u, sx := x }, _, _, _, _, _, _, _, _, rfl, ⟨ho.k, ho.sq, ho.pn, ho.d, hA3, ho.ct, ho.ky⟩, hJ.only hOf hP, hM.only hOf hQ, hn, hs.tape.only hOz (by omega), hOf⟩
  · have c3 := hs.fr.fr.cells.2.2.2.1
    have f3 := hs.fr.frozen 3
    go_upto_region 17 with (fail)
    replace hs := hs.set 3 (.bool (!h.se)) { h with se := !h.se } (.slice a n c) (.slice b k d) rfl
    clear c3 f3
    generalize World.setCell _ _ _ = w6 at hs ⊢
    have hF := hs.fr.fr
    have hR0 := hs.res
    go_wp2_with (first | ((with_reducible refine wpList_load_frame (op := ⟨some 63, _, _, _, _, _⟩) ?_ (.tmp 3) ?_ ?_ hF ?_); (· exact rfl); (· exact rfl); (· exact rfl)) | ((with_reducible refine wpList_store_frame (op := ⟨none, _, _, _, _, _⟩) ?_ (.tmp 4) (.tmp 63) ?_ ?_ (h := { h with se := !h.se }) (p := .slice a n c) (m := .slice b k d) ?_ hR0 ?_ ?_ ?_); (· exact rfl); (· exact rfl); (· exact rfl); (· exact rfl); (· exact rfl); (· exact rfl); intro wz hRz hOz))
    have hOf := only_two hs.only hOz (Nat.le_succ _)
    refine bodyPost_ret (results_frame rfl rfl hRz.out) rfl ?_
    exact ⟨{ h with se := !h.se }, _, _, _, _, _, _, _, _, rfl, ⟨ho.k, ho.sq, ho.pn, ho.d, ho.s, ho.ct, ho.ky⟩, hJ.only hOf hP, hM.only hOf hQ, hn, hs.tape.only hOz (by omega), hOf⟩
  · have jB := fun w' h => tbytes_any g 6 w' h (by omega)
    have jB : ∀ w', TapeAt w' g → Calls Try.prog 34 #[.pointer (some ⟨g, 0, none⟩), .int .i64 6] w' (RetOwn g w'.heap.size (fun l => l.length ≤ 6) w') := fun w' h => jB w' h
    go_wp2_with fail
    with_reducible refine (jB _ hs.tape).mono ?_
    rintro e4 w4 ⟨q, l, rfl, hq, hl6, hOw, hT, hO⟩
    replace hs := hs.call hT hO
    have hql := hOw.lt
    have hq2 : w.heap.size + 1 < q := Nat.lt_of_lt_of_le hs3 hq
    clear hT hO jB
    have c15 := hs.fr.fr.cells.2.2.2.2.2.2.2.2.2.2.2.2.2.2.2
    have f15 := hs.fr.frozen 15
    have hOw := hOw.only (Only.set w.heap.size 15 w4 (.slice (some ⟨q, 0, none⟩) l.length l.length)) (by omega)
    go_upto_region 17 with (fail)
    replace hs := hs.set 15 (.slice (some ⟨q, 0, none⟩) l.length l.length) h (.slice a n c) (.slice (some ⟨q, 0, none⟩) l.length l.length) rfl
    clear c15 f15
    generalize World.setCell _ _ _ = w6 at hs hOw ⊢
    have hF := hs.fr.fr
    have hR0 := hs.res
    go_wp2_with (first | ((with_reducible refine wpList_load_frame (op := ⟨some 63, _, _, _, _, _⟩) ?_ (.tmp 3) ?_ ?_ hF ?_); (· exact rfl); (· exact rfl); (· exact rfl)) | ((with_reducible refine wpList_store_frame (op := ⟨none, _, _, _, _, _⟩) ?_ (.tmp 4) (.tmp 63) ?_ ?_ (h := h) (p := .slice a n c) (m := .slice (some ⟨q, 0, none⟩) l.length l.length) ?_ hR0 ?_ ?_ ?_); (· exact rfl); (· exact rfl); (· exact rfl); (· exact rfl); (· exact rfl); (· exact rfl); intro wz hRz hOz))
    have hOf := only_two hs.only hOz (Nat.le_succ _)
    refine bodyPost_ret (results_frame rfl rfl hRz.out) rfl ?_
    exact ⟨h, _, _, _, _, _, _, _, _, rfl, ho, hJ.only hOf hP, (hOw.only hOz (by omega)).isB (by omega), hn, hs.tape.only hOz (by omega), hOf⟩
  · have jR := fun w' hJ => rroom_any h a n c P b k d w' ho hJ (by omega) hM.max
    have hrm : roomF h n k ≤ 127 := by unfold roomF; split <;> omega
    generalize roomF h n k = rm at *
    have hwa : IntKind.i64.wrap ((rm : Int) + (n : Int)) = (rm : Int) + (n : Int) := by simp [IntKind.wrap, IntKind.bits, IntKind.signed]; omega
    have hwb : IntKind.i64.wrap ((rm : Int) + (n : Int) + 1) = (rm : Int) + (n : Int) + 1 := by simp [IntKind.wrap, IntKind.bits, IntKind.signed]; omega
    go_wp2_with fail
    refine wp_region_held_drew (S := fun _ => True) (by kernel_rfl) trivial (fun hHeld => ?_)
    replace hs := hs.below (below_drewN (Below.refl _ _) 1)
    have hs3 : w.heap.size + 1 < (w3.drewN 1).heap.size := hs3
    change wpAnyH _ _ _ _ _ _ _ _ (w3.drewN 1)
    generalize w3.drewN 1 = w4 at *
    refine wpAnyH_take (i := 0) (oi := ⟨some 47, _, _, _, _, _⟩) (v := ?_) rfl (by kernel_rfl) (by kernel_rfl) (by kernel_rfl) (fun _ _ _ h => h) (Or.inl ⟨by rfl, ?_⟩) trivial ?_
    rotate_left
    · intro w hSw; go_simp; try with_reducible rfl
    try simp only [Act.put, List.setIfInBounds_toArray, List.set_cons_zero, List.set_cons_succ]
    refine wpAnyH_take (i := 3) (oi := ⟨some 50, _, _, _, _, _⟩) (v := ?_) rfl (by kernel_rfl) (by kernel_rfl) (by kernel_rfl) (fun _ _ _ h => h) (Or.inl ⟨by rfl, ?_⟩) trivial ?_
    rotate_left
    · intro w hSw; go_simp; try with_reducible rfl
    try simp only [Act.put, List.setIfInBounds_toArray, List.set_cons_zero, List.set_cons_succ]
    refine wpAnyH_ready (rs := [1, 4]) (by kernel_rfl) (by simp) ?_
    refine (AllReadyH.cons (o := ⟨some 48, _, _, _, _, _⟩) rfl ?_ (AllReadyH.cons (o := ⟨some 51, _, _, _, _, _⟩) rfl ?_ AllReadyH.nil))
    · intro K hK
      refine step_load_frame rfl (.tmp 3) rfl rfl hs.fr.fr ?_
      refine hK.out _ _ trivial (fun _ => ?_)
      clear hK K
      try simp only [Act.put, List.setIfInBounds_toArray, List.set_cons_zero, List.set_cons_succ]
      refine wpAnyH_ready (rs := [2, 4]) (by kernel_rfl) (by simp) ?_
      refine (AllReadyH.cons (o := ⟨some 49, _, _, _, _, _⟩) rfl ?_ (AllReadyH.cons (o := ⟨some 51, _, _, _, _, _⟩) rfl ?_ AllReadyH.nil))
      · intro K hK
        go_simp
        with_reducible refine (jR _ (hJ.only hs.only hP)).mono ?_
        rintro e5 w5 ⟨rfl, hb5⟩
        have hs := hs.below hb5
        have hs3 := Nat.lt_of_lt_of_le hs3 hb5.size
        clear hb5
        go_wp2_with fail
        refine hK.out _ _ trivial (fun _ => ?_)
        clear hK K
        try simp only [Act.put, List.setIfInBounds_toArray, List.set_cons_zero, List.set_cons_succ]
        refine wpAnyH_ready (rs := [4]) (by kernel_rfl) (by simp) ?_
        refine (AllReadyH.cons (o := ⟨some 51, _, _, _, _, _⟩) rfl ?_ AllReadyH.nil)
        · intro K hK
          have c14 := hs.fr.fr.cells.2.2.2.2.2.2.2.2.2.2.2.2.2.2.1
          go_simp
          refine hK.out _ _ trivial (fun _ => ?_)
          clear hK K c14
          try simp only [Act.put, List.setIfInBounds_toArray, List.set_cons_zero, List.set_cons_succ]
          refine wpAnyH_take (i := 5) (oi := ⟨some 52, _, _, _, _, _⟩) (v := ?_) rfl (by kernel_rfl) (by kernel_rfl) (by kernel_rfl) (fun _ _ _ h => h) (Or.inl ⟨by rfl, ?_⟩) trivial ?_
          rotate_left
          · intro w hSw; go_simp; try with_reducible rfl
          try simp only [Act.put, List.setIfInBounds_toArray, List.set_cons_zero, List.set_cons_succ]
          refine wpAnyH_take (i := 6) (oi := ⟨some 53, _, _, _, _, _⟩) (v := ?_) rfl (by kernel_rfl) (by kernel_rfl) (by kernel_rfl) (fun _ _ _ h => h) (Or.inl ⟨by rfl, ?_⟩) trivial ?_
          rotate_left
          · intro w hSw; go_simp; try with_reducible rfl
          try simp only [Act.put, List.setIfInBounds_toArray, List.set_cons_zero, List.set_cons_succ]
          refine wpAnyH_take (i := 7) (oi := ⟨some 54, _, _, _, _, _⟩) (v := ?_) rfl (by kernel_rfl) (by kernel_rfl) (by kernel_rfl) (fun _ _ _ h => h) (Or.inl ⟨by rfl, ?_⟩) trivial ?_
          rotate_left
          · intro w hSw; go_simp; try with_reducible rfl
          try simp only [Act.put, List.setIfInBounds_toArray, List.set_cons_zero, List.set_cons_succ]
          refine wpAnyH_ready (rs := [8]) (by kernel_rfl) (by simp) ?_
          refine (AllReadyH.cons (o := ⟨some 55, _, _, _, _, _⟩) rfl ?_ AllReadyH.nil)
          intro K hK
          go_simp
          with_reducible refine (fill_any g ((rm : Int) + (n : Int) + 1) _ hs.tape (by omega) (by omega)).mono ?_
          rintro e7 w7 ⟨q, l, rfl, hq, hlq, hOw, hT, hO⟩
          have hl9 : l.length ≤ 100000 := by omega
          clear hlq
          have hs := hs.call hT hO
          have hql := hOw.lt
          have hq2 : w.heap.size + 1 < q := Nat.lt_of_lt_of_le hs3 hq
          clear hT hO
          go_wp2_with fail
          refine hK.out _ _ trivial (fun _ => ?_)
          clear hK K
          try simp only [Act.put, List.setIfInBounds_toArray, List.set_cons_zero, List.set_cons_succ]
          refine wpAnyH_take (i := 9) (oi := ⟨some 56, _, _, _, _, _⟩) (v := ?_) rfl (by kernel_rfl) (by kernel_rfl) (by kernel_rfl) (fun _ _ _ h => h) (Or.inl ⟨by rfl, ?_⟩) trivial ?_
          rotate_left
          · intro w hSw; go_simp; try with_reducible rfl
          try simp only [Act.put, List.setIfInBounds_toArray, List.set_cons_zero, List.set_cons_succ]
          refine wpAnyH_ready (rs := [10]) (by kernel_rfl) (by simp) ?_
          refine (AllReadyH.cons (o := ⟨none, _, _, _, _, _⟩) rfl ?_ AllReadyH.nil)
          intro K hK
          have c14 := hs.fr.fr.cells.2.2.2.2.2.2.2.2.2.2.2.2.2.2.1
          have f14 := hs.fr.frozen 14
          go_simp
          have hs := hs.set 14 (.slice (some ⟨q, 0, none⟩) l.length l.length) h (.slice (some ⟨q, 0, none⟩) l.length l.length) (.slice b k d) rfl
          have hOw := hOw.only (Only.set w.heap.size 14 w7 (.slice (some ⟨q, 0, none⟩) l.length l.length)) (by omega)
          refine hK.out _ _ trivial (fun _ => ?_)
          clear hK K c14 f14
          try simp only [Act.put, List.setIfInBounds_toArray, List.set_cons_zero, List.set_cons_succ]
          refine wpAnyH_done (by kernel_rfl) ?_ _
          generalize World.setCell _ _ _ = w8 at hs hOw ⊢
          have hF := hs.fr.fr
          have hR0 := hs.res
          go_wp2_with (first | ((with_reducible refine wpList_load_frame (op := ⟨some 63, _, _, _, _, _⟩) ?_ (.tmp 3) ?_ ?_ hF ?_); (· exact rfl); (· exact rfl); (· exact rfl)) | ((with_reducible refine wpList_store_frame (op := ⟨none, _, _, _, _, _⟩) ?_ (.tmp 4) (.tmp 63) ?_ ?_ (h := h) (p := .slice (some ⟨q, 0, none⟩) l.length l.length) (m := .slice b k d) ?_ hR0 ?_ ?_ ?_); (· exact rfl); (· exact rfl); (· exact rfl); (· exact rfl); (· exact rfl); (· exact rfl); intro wz hRz hOz))
          have hOf := only_two hs.only hOz (Nat.le_succ _)
          refine bodyPost_ret (results_frame rfl rfl hRz.out) rfl ?_
          exact ⟨h, _, _, _, _, _, _, _, _, rfl, ho, (hOw.only hOz (by omega)).isB (by omega), hM.only hOf hQ, by omega, hs.tape.only hOz (by omega), hOf⟩
      · intro K hK
        have c14 := hs.fr.fr.cells.2.2.2.2.2.2.2.2.2.2.2.2.2.2.1
        go_simp
        refine hK.out _ _ trivial (fun _ => ?_)
        clear hK K c14
        try simp only [Act.put, List.setIfInBounds_toArray, List.set_cons_zero, List.set_cons_succ]
        refine wpAnyH_take (i := 5) (oi := ⟨some 52, _, _, _, _, _⟩) (v := ?_) rfl (by kernel_rfl) (by kernel_rfl) (by kernel_rfl) (fun _ _ _ h => h) (Or.inl ⟨by rfl, ?_⟩) trivial ?_
        rotate_left
        · intro w hSw; go_simp; try with_reducible rfl
        try simp only [Act.put, List.setIfInBounds_toArray, List.set_cons_zero, List.set_cons_succ]
        refine wpAnyH_ready (rs := [2]) (by kernel_rfl) (by simp) ?_
        refine (AllReadyH.cons (o := ⟨some 49, _, _, _, _, _⟩) rfl ?_ AllReadyH.nil)
        · intro K hK
          go_simp
          with_reducible refine (jR _ (hJ.only hs.only hP)).mono ?_
          rintro e5 w5 ⟨rfl, hb5⟩
          have hs := hs.below hb5
          have hs3 := Nat.lt_of_lt_of_le hs3 hb5.size
          clear hb5
          go_wp2_with fail
          refine hK.out _ _ trivial (fun _ => ?_)
          clear hK K
          try simp only [Act.put, List.setIfInBounds_toArray, List.set_cons_zero, List.set_cons_succ]
          refine wpAnyH_take (i := 6) (oi := ⟨some 53, _, _, _, _, _⟩) (v := ?_) rfl (by kernel_rfl) (by kernel_rfl) (by kernel_rfl) (fun _ _ _ h => h) (Or.inl ⟨by rfl, ?_⟩) trivial ?_
          rotate_left
          · intro w hSw; go_simp; try with_reducible rfl
          try simp only [Act.put, List.setIfInBounds_toArray, List.set_cons_zero, List.set_cons_succ]
          refine wpAnyH_take (i := 7) (oi := ⟨some 54, _, _, _, _, _⟩) (v := ?_) rfl (by kernel_rfl) (by kernel_rfl) (by kernel_rfl) (fun _ _ _ h => h) (Or.inl ⟨by rfl, ?_⟩) trivial ?_
          rotate_left
          · intro w hSw; go_simp; try with_reducible rfl
          try simp only [Act.put, List.setIfInBounds_toArray, List.set_cons_zero, List.set_cons_succ]
          refine wpAnyH_ready (rs := [8]) (by kernel_rfl) (by simp) ?_
          refine (AllReadyH.cons (o := ⟨some 55, _, _, _, _, _⟩) rfl ?_ AllReadyH.nil)
          intro K hK
          go_simp
          with_reducible refine (fill_any g ((rm : Int) + (n : Int) + 1) _ hs.tape (by omega) (by omega)).mono ?_
          rintro e7 w7 ⟨q, l, rfl, hq, hlq, hOw, hT, hO⟩
          have hl9 : l.length ≤ 100000 := by omega
          clear hlq
          have hs := hs.call hT hO
          have hql := hOw.lt
          have hq2 : w.heap.size + 1 < q := Nat.lt_of_lt_of_le hs3 hq
          clear hT hO
          go_wp2_with fail
          refine hK.out _ _ trivial (fun _ => ?_)
          clear hK K
          try simp only [Act.put, List.setIfInBounds_toArray, List.set_cons_zero, List.set_cons_succ]
          refine wpAnyH_take (i := 9) (oi := ⟨some 56, _, _, _, _, _⟩) (v := ?_) rfl (by kernel_rfl) (by kernel_rfl) (by kernel_rfl) (fun _ _ _ h => h) (Or.inl ⟨by rfl, ?_⟩) trivial ?_
          rotate_left
          · intro w hSw; go_simp; try with_reducible rfl
          try simp only [Act.put, List.setIfInBounds_toArray, List.set_cons_zero, List.set_cons_succ]
          refine wpAnyH_ready (rs := [10]) (by kernel_rfl) (by simp) ?_
          refine (AllReadyH.cons (o := ⟨none, _, _, _, _, _⟩) rfl ?_ AllReadyH.nil)
          intro K hK
          have c14 := hs.fr.fr.cells.2.2.2.2.2.2.2.2.2.2.2.2.2.2.1
          have f14 := hs.fr.frozen 14
          go_simp
          have hs := hs.set 14 (.slice (some ⟨q, 0, none⟩) l.length l.length) h (.slice (some ⟨q, 0, none⟩) l.length l.length) (.slice b k d) rfl
          have hOw := hOw.only (Only.set w.heap.size 14 w7 (.slice (some ⟨q, 0, none⟩) l.length l.length)) (by omega)
          refine hK.out _ _ trivial (fun _ => ?_)
          clear hK K c14 f14
          try simp only [Act.put, List.setIfInBounds_toArray, List.set_cons_zero, List.set_cons_succ]
          refine wpAnyH_done (by kernel_rfl) ?_ _
          generalize World.setCell _ _ _ = w8 at hs hOw ⊢
          have hF := hs.fr.fr
          have hR0 := hs.res
          go_wp2_with (first | ((with_reducible refine wpList_load_frame (op := ⟨some 63, _, _, _, _, _⟩) ?_ (.tmp 3) ?_ ?_ hF ?_); (· exact rfl); (· exact rfl); (· exact rfl)) | ((with_reducible refine wpList_store_frame (op := ⟨none, _, _, _, _, _⟩) ?_ (.tmp 4) (.tmp 63) ?_ ?_ (h := h) (p := .slice (some ⟨q, 0, none⟩) l.length l.length) (m := .slice b k d) ?_ hR0 ?_ ?_ ?_); (· exact rfl); (· exact rfl); (· exact rfl); (· exact rfl); (· exact rfl); (· exact rfl); intro wz hRz hOz))
          have hOf := only_two hs.only hOz (Nat.le_succ _)
          refine bodyPost_ret (results_frame rfl rfl hRz.out) rfl ?_
          exact ⟨h, _, _, _, _, _, _, _, _, rfl, ho, (hOw.only hOz (by omega)).isB (by omega), hM.only hOf hQ, by omega, hs.tape.only hOz (by omega), hOf⟩
    · intro K hK
      have c14 := hs.fr.fr.cells.2.2.2.2.2.2.2.2.2.2.2.2.2.2.1
      go_simp
      refine hK.out _ _ trivial (fun _ => ?_)
      clear hK K c14
      try simp only [Act.put, List.setIfInBounds_toArray, List.set_cons_zero, List.set_cons_succ]
      refine wpAnyH_take (i := 5) (oi := ⟨some 52, _, _, _, _, _⟩) (v := ?_) rfl (by kernel_rfl) (by kernel_rfl) (by kernel_rfl) (fun _ _ _ h => h) (Or.inl ⟨by rfl, ?_⟩) trivial ?_
      rotate_left
      · intro w hSw; go_simp; try with_reducible rfl
      try simp only [Act.put, List.setIfInBounds_toArray, List.set_cons_zero, List.set_cons_succ]
      refine wpAnyH_ready (rs := [1]) (by kernel_rfl) (by simp) ?_
      refine (AllReadyH.cons (o := ⟨some 48, _, _, _, _, _⟩) rfl ?_ AllReadyH.nil)
      · intro K hK
        refine step_load_frame rfl (.tmp 3) rfl rfl hs.fr.fr ?_
        refine hK.out _ _ trivial (fun _ => ?_)
        clear hK K
        try simp only [Act.put, List.setIfInBounds_toArray, List.set_cons_zero, List.set_cons_succ]
        refine wpAnyH_ready (rs := [2]) (by kernel_rfl) (by simp) ?_
        refine (AllReadyH.cons (o := ⟨some 49, _, _, _, _, _⟩) rfl ?_ AllReadyH.nil)
        · intro K hK
          go_simp
          with_reducible refine (jR _ (hJ.only hs.only hP)).mono ?_
          rintro e5 w5 ⟨rfl, hb5⟩
          have hs := hs.below hb5
          have hs3 := Nat.lt_of_lt_of_le hs3 hb5.size
          clear hb5
          go_wp2_with fail
          refine hK.out _ _ trivial (fun _ => ?_)
          clear hK K
          try simp only [Act.put, List.setIfInBounds_toArray, List.set_cons_zero, List.set_cons_succ]
          refine wpAnyH_take (i := 6) (oi := ⟨some 53, _, _, _, _, _⟩) (v := ?_) rfl (by kernel_rfl) (by kernel_rfl) (by kernel_rfl) (fun _ _ _ h => h) (Or.inl ⟨by rfl, ?_⟩) trivial ?_
          rotate_left
          · intro w hSw; go_simp; try with_reducible rfl
          try simp only [Act.put, List.setIfInBounds_toArray, List.set_cons_zero, List.set_cons_succ]
          refine wpAnyH_take (i := 7) (oi := ⟨some 54, _, _, _, _, _⟩) (v := ?_) rfl (by kernel_rfl) (by kernel_rfl) (by kernel_rfl) (fun _ _ _ h => h) (Or.inl ⟨by rfl, ?_⟩) trivial ?_
          rotate_left
          · intro w hSw; go_simp; try with_reducible rfl
          try simp only [Act.put, List.setIfInBounds_toArray, List.set_cons_zero, List.set_cons_succ]
          refine wpAnyH_ready (rs := [8]) (by kernel_rfl) (by simp) ?_
          refine (AllReadyH.cons (o := ⟨some 55, _, _, _, _, _⟩) rfl ?_ AllReadyH.nil)
          intro K hK
          go_simp
          with_reducible refine (fill_any g ((rm : Int) + (n : Int) + 1) _ hs.tape (by omega) (by omega)).mono ?_
          rintro e7 w7 ⟨q, l, rfl, hq, hlq, hOw, hT, hO⟩
          have hl9 : l.length ≤ 100000 := by omega
          clear hlq
          have hs := hs.call hT hO
          have hql := hOw.lt
          have hq2 : w.heap.size + 1 < q := Nat.lt_of_lt_of_le hs3 hq
          clear hT hO
          go_wp2_with fail
          refine hK.out _ _ trivial (fun _ => ?_)
          clear hK K
          try simp only [Act.put, List.setIfInBounds_toArray, List.set_cons_zero, List.set_cons_succ]
          refine wpAnyH_take (i := 9) (oi := ⟨some 56, _, _, _, _, _⟩) (v := ?_) rfl (by kernel_rfl) (by kernel_rfl) (by kernel_rfl) (fun _ _ _ h => h) (Or.inl ⟨by rfl, ?_⟩) trivial ?_
          rotate_left
          · intro w hSw; go_simp; try with_reducible rfl
          try simp only [Act.put, List.setIfInBounds_toArray, List.set_cons_zero, List.set_cons_succ]
          refine wpAnyH_ready (rs := [10]) (by kernel_rfl) (by simp) ?_
          refine (AllReadyH.cons (o := ⟨none, _, _, _, _, _⟩) rfl ?_ AllReadyH.nil)
          intro K hK
          have c14 := hs.fr.fr.cells.2.2.2.2.2.2.2.2.2.2.2.2.2.2.1
          have f14 := hs.fr.frozen 14
          go_simp
          have hs := hs.set 14 (.slice (some ⟨q, 0, none⟩) l.length l.length) h (.slice (some ⟨q, 0, none⟩) l.length l.length) (.slice b k d) rfl
          have hOw := hOw.only (Only.set w.heap.size 14 w7 (.slice (some ⟨q, 0, none⟩) l.length l.length)) (by omega)
          refine hK.out _ _ trivial (fun _ => ?_)
          clear hK K c14 f14
          try simp only [Act.put, List.setIfInBounds_toArray, List.set_cons_zero, List.set_cons_succ]
          refine wpAnyH_done (by kernel_rfl) ?_ _
          generalize World.setCell _ _ _ = w8 at hs hOw ⊢
          have hF := hs.fr.fr
          have hR0 := hs.res
          go_wp2_with (first | ((with_reducible refine wpList_load_frame (op := ⟨some 63, _, _, _, _, _⟩) ?_ (.tmp 3) ?_ ?_ hF ?_); (· exact rfl); (· exact rfl); (· exact rfl)) | ((with_reducible refine wpList_store_frame (op := ⟨none, _, _, _, _, _⟩) ?_ (.tmp 4) (.tmp 63) ?_ ?_ (h := h) (p := .slice (some ⟨q, 0, none⟩) l.length l.length) (m := .slice b k d) ?_ hR0 ?_ ?_ ?_); (· exact rfl); (· exact rfl); (· exact rfl); (· exact rfl); (· exact rfl); (· exact rfl); intro wz hRz hOz))
          have hOf := only_two hs.only hOz (Nat.le_succ _)
          refine bodyPost_ret (results_frame rfl rfl hRz.out) rfl ?_
          exact ⟨h, _, _, _, _, _, _, _, _, rfl, ho, (hOw.only hOz (by omega)).isB (by omega), hM.only hOf hQ, by omega, hs.tape.only hOz (by omega), hOf⟩
  · have c12 := hs.fr.fr.cells.2.2.2.2.2.2.2.2.2.2.2.2.1
    have f12 := hs.fr.frozen 12
    go_upto_region 17 with (fail)
    replace hs := hs.set 12 (.int .u32 (((h.ct + 1) % 4294967296))) { h with ct := ((h.ct + 1) % 4294967296) } (.slice a n c) (.slice b k d) rfl
    clear c12 f12
    generalize World.setCell _ _ _ = w6 at hs ⊢
    have hF := hs.fr.fr
    have hR0 := hs.res
    go_wp2_with (first | ((with_reducible refine wpList_load_frame (op := ⟨some 63, _, _, _, _, _⟩) ?_ (.tmp 3) ?_ ?_ hF ?_); (· exact rfl); (· exact rfl); (· exact rfl)) | ((with_reducible refine wpList_store_frame (op := ⟨none, _, _, _, _, _⟩) ?_ (.tmp 4) (.tmp 63) ?_ ?_ (h := { h with ct := ((h.ct + 1) % 4294967296) }) (p := .slice a n c) (m := .slice b k d) ?_ hR0 ?_ ?_ ?_); (· exact rfl); (· exact rfl); (· exact rfl); (· exact rfl); (· exact rfl); (· exact rfl); intro wz hRz hOz))
    have hOf := only_two hs.only hOz (Nat.le_succ _)
    refine bodyPost_ret (results_frame rfl rfl hRz.out) rfl ?_
    exact ⟨{ h with ct := ((h.ct + 1) % 4294967296) }, _, _, _, _, _, _, _, _, rfl, ⟨ho.k, ho.sq, ho.pn, ho.d, ho.s, by show 0 ≤ ((h.ct + 1) % 4294967296) ∧ ((h.ct + 1) % 4294967296) < 4294967296; omega, ho.ky⟩, hJ.only hOf hP, hM.only hOf hQ, hn, hs.tape.only hOz (by omega), hOf⟩
  · have c1 := hs.fr.fr.cells.2.1
    have f1 := hs.fr.frozen 1
    go_upto_region 17 with (fail)
    replace hs := hs.set 1 (.bool (!h.ar)) { h with ar := !h.ar } (.slice a n c) (.slice b k d) rfl
    clear c1 f1
    generalize World.setCell _ _ _ = w6 at hs ⊢
    have hF := hs.fr.fr
    have hR0 := hs.res
    go_wp2_with (first | ((with_reducible refine wpList_load_frame (op := ⟨some 63, _, _, _, _, _⟩) ?_ (.tmp 3) ?_ ?_ hF ?_); (· exact rfl); (· exact rfl); (· exact rfl)) | ((with_reducible refine wpList_store_frame (op := ⟨none, _, _, _, _, _⟩) ?_ (.tmp 4) (.tmp 63) ?_ ?_ (h := { h with ar := !h.ar }) (p := .slice a n c) (m := .slice b k d) ?_ hR0 ?_ ?_ ?_); (· exact rfl); (· exact rfl); (· exact rfl); (· exact rfl); (· exact rfl); (· exact rfl); intro wz hRz hOz))
    have hOf := only_two hs.only hOz (Nat.le_succ _)
    refine bodyPost_ret (results_frame rfl rfl hRz.out) rfl ?_
    exact ⟨{ h with ar := !h.ar }, _, _, _, _, _, _, _, _, rfl, ⟨ho.k, ho.sq, ho.pn, ho.d, ho.s, ho.ct, ho.ky⟩, hJ.only hOf hP, hM.only hOf hQ, hn, hs.tape.only hOz (by omega), hOf⟩
end Go.Proofs.Ytmbiophckeiehaa
