/-
  Derive of both.
-/
import Derived.Test.YtjlogmbgapnceaaKnown
import Derived.Test.YtjlogmbgapnceaaLow
import Derived.Test.YtjlogmbgapnceaaRefApp
import Derived.Test.YtjlogmbgapnceaaReg
import Derived.Test.YtjlogmbgapnceaaKeyStore
import Derived.Deep.DeepCutAuto
namespace Go.Proofs.Ytjlogmbgapnceaa
open Go.RowKit

/-- what is summed up, but for its last byte -/
def txt (s : List UInt8) (n : Nat) : List UInt8 := s ++ beBytes 0 1 ++ beBytes n 8
theorem length_txt (s : List UInt8) (n : Nat) : (txt s n).length = s.length + 9 := by simp [txt, length_beBytes]
/-- a half of the key -/
def half (k s : List UInt8) (n i : Nat) : List UInt8 := leB (sip k (txt s n ++ beBytes i 1)) 8
theorem length_half (k s : List UInt8) (n i : Nat) : (half k s n i).length = 8 := length_leB _ _
/-- the key -/
def derL (k s : List UInt8) (n : Nat) : List UInt8 := half k s n 0 ++ half k s n 1
theorem length_derL (k s : List UInt8) (n : Nat) : (derL k s n).length = 16 := by simp [derL, length_half]
/-- the key while it is made -/
def outK (k s : List UInt8) (n j : Nat) : List UInt8 := (derL k s n).take (8 * j) ++ zeros (16 - 8 * j)
theorem length_outK (k s : List UInt8) (n j : Nat) (h : j ≤ 2) : (outK k s n j).length = 16 := by
  simp [outK, length_derL, length_zeros]; omega
theorem outK_zero (k s : List UInt8) (n : Nat) : outK k s n 0 = zeros 16 := by simp [outK]
theorem outK_two (k s : List UInt8) (n : Nat) : outK k s n 2 = derL k s n := by
  unfold outK
  rw [List.take_of_length_le (by rw [length_derL]; omega)]; simp [zeros]
theorem halves_one (a b : List UInt8) (ha : a.length = 8) (hb : b.length = 8) : splice ((a ++ b).take 0 ++ zeros 16) 0 a = (a ++ b).take 8 ++ zeros 8 := by
  simp [splice, ha, zeros, List.take_append]
theorem halves_two (a b : List UInt8) (ha : a.length = 8) (hb : b.length = 8) : splice ((a ++ b).take 8 ++ zeros 8) 8 b = (a ++ b).take 16 ++ zeros 0 := by
  have e1 : (a ++ b).take 8 = a := by rw [← ha]; exact List.take_left
  have e2 : (a ++ b).take 16 = a ++ b := List.take_of_length_le (by simp; omega)
  rw [e1, e2]
  unfold splice
  have e3 : (a ++ zeros 8).take 8 = a := by rw [← ha]; exact List.take_left
  have e4 : (a ++ zeros 8).drop (8 + b.length) = [] := List.drop_eq_nil_of_le (by rw [List.length_append, length_zeros]; omega)
  rw [e3, e4]; simp [zeros]
theorem outK_step (k s : List UInt8) (n j : Nat) (h : j < 2) : splice (outK k s n j) (8 * j) (half k s n j) = outK k s n (j + 1) := by
  have h0 := length_half k s n 0
  have h1 := length_half k s n 1
  unfold outK derL
  rcases (by omega : j = 0 ∨ j = 1) with rfl | rfl
  · generalize half k s n 0 = a at *
    generalize half k s n 1 = b at *
    exact halves_one a b h0 h1
  · generalize half k s n 0 = a at *
    generalize half k s n 1 = b at *
    exact halves_two a b h0 h1

theorem low8 (v : UInt64) (w : World) : Calls Try.prog 27 #[.int .u64 (v.toNat : Int), .int .i64 8] w (RetB (leB v 8) w) := lowBytes_any v 8 w (by omega)
theorem app0 (a : Option Addr) (len cap : Nat) (l : List UInt8) (w : World) (hb : IsB w a len cap l) (hroom : len + 1 ≤ 281474976710656) :
    Calls Try.prog 29 #[.slice a len cap, .int .u64 0, .int .i64 1] w (RetB (l ++ beBytes 0 1) w) :=
  append_any a len cap l 0 1 1 w hb hroom (by unfold U64; omega) (by unfold I64; omega) (by omega)
theorem app1 (a : Option Addr) (len cap : Nat) (l : List UInt8) (j : Nat) (w : World) (hb : IsB w a len cap l) (hroom : len + 1 ≤ 281474976710656) (hj : j < 256) :
    Calls Try.prog 29 #[.slice a len cap, .int .u64 (j : Int), .int .i64 1] w (RetB (l ++ beBytes j 1) w) :=
  append_any a len cap l j 1 1 w hb hroom (by unfold U64; omega) (by unfold I64; omega) (by omega)
theorem app8 (a : Option Addr) (len cap : Nat) (l : List UInt8) (v : UInt64) (w : World) (hb : IsB w a len cap l) (hroom : len + 8 ≤ 281474976710656) :
    Calls Try.prog 29 #[.slice a len cap, .int .u64 (v.toNat : Int), .int .i64 8] w (RetB (l ++ beBytes v.toNat 8) w) :=
  append_any a len cap l v.toNat 8 8 w hb hroom (by have := w_lt v; unfold U64; omega) (by unfold I64; omega) (by omega)

set_option maxRecDepth 100000 in
set_option maxHeartbeats 4000000 in
theorem derive_any (k : List UInt8) (s : ByteArray) (v : UInt64) (w : World) (hk : k.length = 16) (hs : s.size ≤ 140737488351232) :
    Calls Try.prog 17 #[kv k, .string s, .int .u64 v.toNat] w (RetS (kv (derL k s.data.toList v.toNat)) w) := by
  have hl : s.data.toList.length = s.size := by rw [Array.length_toList]; rfl
  have HL := hid hl
  clear hl
  have HU := hid (w_lt v)
  have hk1 := (Ky.new w k).below ((Below.refl _ _).alloc (Nat.le_refl _) (.cells (row (zeros 16)) 23)) (Ky.new w k).lt
  have hr1 := Ky.zero (w.alloc (.cells (row k) 23))
  rw [show (w.alloc (.cells (row k) 23)).heap.size = w.heap.size + 1 from by simp] at hr1
  have hB1 := two_below w (.cells (row k) 23) (.cells (row (zeros 16)) 23)
  rw [kv]
  go_enter Try.func17, Try.ntmps17
  go_upto_region 1 with (fail)
  rw [zeros16]
  have hs1 : ((w.alloc (.cells (row k) 23)).alloc (.cells (row (zeros 16)) 23)).heap.size = w.heap.size + 2 := by simp
  generalize (w.alloc (.cells (row k) 23)).alloc (.cells (row (zeros 16)) 23) = w1 at *
  go_wp2_with (with_reducible refine wpList_str_room (o := ⟨some 12, _, _, _, _, _⟩) rfl (.tmp 11) rfl s rfl (by omega) w1.heap.size w1 (Below.refl _ _) (Nat.le_refl _) ?_; intro c0 w2 hS2 hb2)
  rw [← hs1]
  have hB2 := hB1.trans (hb2.mono hB1.size)
  have hk2 := hk1.below hb2 hk1.lt
  have hr2 := hr1.below hb2 hr1.lt
  have J2 := hS2.out.1.isB s.size c0 HL.out (by have := hS2.out.2.1; rw [HL.out] at this; exact this) (by omega) hS2.out.2.2.1
  clear hk1 hr1 hB1 hb2 hS2
  with_reducible refine (app0 _ _ _ _ _ J2 (by omega)).mono ?_
  rintro e w3 ⟨g3, rfl, hg3, hO3, hb3⟩
  have HT3 : Hid ((s.data.toList ++ beBytes 0 1).length = s.size + 1) := hid (by rw [List.length_append, HL.out, length_beBytes])
  have J3 := hO3.isB (by rw [HT3.out]; omega)
  rw [HT3.out] at J3 ⊢
  have hB3 := hB2.trans (hb3.mono hB2.size)
  have hk3 := hk2.below hb3 hk2.lt
  have hr3 := hr2.below hb3 hr2.lt
  clear hk2 hr2 hB2 hb3 hO3 J2 hg3
  go_wp2_with fail
  with_reducible refine (app8 _ _ _ _ v _ J3 (by omega)).mono ?_
  rintro e wB ⟨g4, rfl, hg4, hO4, hb4⟩
  have HT : Hid ((s.data.toList ++ beBytes 0 1 ++ beBytes v.toNat 8).length = s.size + 9) := hid (by rw [List.length_append, List.length_append, HL.out, length_beBytes, length_beBytes])
  have hTB := hO4.isB (by rw [HT.out]; omega)
  have hBB := hB3.trans (hb4.mono hB3.size)
  have hkB := hk3.below hb4 hk3.lt
  have hrB := hr3.below hb4 hr3.lt
  rw [HT.out] at hTB ⊢
  clear hk3 hr3 hB3 hb4 hO4 J3 hg4
  change IsB wB _ _ _ (txt s.data.toList v.toNat) at hTB
  change Hid ((txt s.data.toList v.toNat).length = _) at HT
  have hO0 := Ky.zero wB
  have hb0 := (Below.refl wB.heap.size wB).alloc (Nat.le_refl _) (.cells (row (zeros 16)) 23)
  go_wp2_with fail
  rw [zeros16]
  generalize wB.alloc (.cells (row (zeros 16)) 23) = w5 at *
  have HO0 := hid hO0
  clear hO0
  go_loopw [16] (fun i wr => ∃ j : Nat, j ≤ 2 ∧ i = .int .i64 j ∧ Hid (Ky wr wB.heap.size (outK k s.data.toList v.toNat j)) ∧ Below wB.heap.size wB wr) (fun i _ => 2 - (intOf i).toNat)
  case atStart => exact ⟨0, by omega, rfl, hid (by rw [outK_zero]; exact HO0.out), hb0⟩
  case round =>
    obtain ⟨j, hj, rfl, HOr, hBr⟩ := hrel
    clear HO0 hb0
    by_cases hlt : j < 2
    · have hkr := hkB.below hBr hkB.lt
      have hTr := hTB.below hBr
      have HS := hid (outK_step k s.data.toList v.toNat j hlt)
      go_wp2_with fail
      refine wp_region_held_drew (S := fun w' => Below wB.heap.size wB w' ∧ w'.rangeAt w.heap.size 0 (k.map bv)) (by kernel_rfl) (⟨below_drewN hBr 1, hkr.drew.range⟩) (fun hHeld => ?_)
      refine wpAnyH_key (i := 0) (oi := ⟨some 19, _, _, _, _, _⟩) rfl (by kernel_rfl) (by kernel_rfl) (by kernel_rfl) (fun _ _ _ h => h) (by rfl) (.tmp 3) rfl rfl hk (fun _ h => h.2) hHeld ?_
      try simp only [Act.put, List.setIfInBounds_toArray, List.set_cons_zero, List.set_cons_succ]
      refine wpAnyH_take (i := 1) (oi := ⟨some 20, _, _, _, _, _⟩) (v := ?_) rfl (by kernel_rfl) (by kernel_rfl) (by kernel_rfl) (fun _ _ _ h => h) (Or.inl ⟨by rfl, ?_⟩) hHeld ?_
      rotate_left
      · intro w hSw; go_simp; try with_reducible rfl
      try simp only [Act.put, List.setIfInBounds_toArray, List.set_cons_zero, List.set_cons_succ]
      refine wpAnyH_take (i := 2) (oi := ⟨some 21, _, _, _, _, _⟩) (v := ?_) rfl (by kernel_rfl) (by kernel_rfl) (by kernel_rfl) (fun _ _ _ h => h) (Or.inl ⟨by rfl, ?_⟩) hHeld ?_
      rotate_left
      · intro w hSw; go_simp; try with_reducible rfl
      try simp only [Act.put, List.setIfInBounds_toArray, List.set_cons_zero, List.set_cons_succ]
      refine wpAnyH_take (i := 3) (oi := ⟨some 22, _, _, _, _, _⟩) (v := ?_) rfl (by kernel_rfl) (by kernel_rfl) (by kernel_rfl) (fun _ _ _ h => h) (Or.inl ⟨by rfl, ?_⟩) hHeld ?_
      rotate_left
      · intro w hSw; go_simp; try with_reducible rfl
      try simp only [Act.put, List.setIfInBounds_toArray, List.set_cons_zero, List.set_cons_succ]
      refine wpAnyH_ready (rs := [4]) (by kernel_rfl) (by simp) ?_
      refine AllReadyH.cons (o := ⟨some 23, _, _, _, _, _⟩) rfl (fun K hK => ?_) AllReadyH.nil
      go_simp
      rw [show IntKind.u64.wrap (j : Int) = (j : Int) from by rw [IntKind.wrap_u64]; omega]
      with_reducible refine (app1 _ _ _ (txt s.data.toList v.toNat) j _ hTr.drew (by omega) (by omega)).mono ?_
      rintro e w4 ⟨g4, rfl, hg4, hO4, hb4⟩
      have hB4 := (below_drewN hBr 1).trans (hb4.mono hBr.size)
      have hk4 := hkr.drew.below hb4 hkr.drew.lt
      have HT4 : Hid ((txt s.data.toList v.toNat ++ beBytes j 1).length = s.size + 10) := hid (by rw [List.length_append, HT.out, length_beBytes])
      have J4 := hO4.isB (by rw [HT4.out]; omega)
      rw [HT4.out] at J4 ⊢
      have HO4 := hid (HOr.out.drew.below hb4 HOr.out.drew.lt)
      clear hO4 hb4
      go_wp2_with fail
      clear hHeld
      refine hK.out _ _ (⟨hB4, hk4.range⟩) (fun hHeld => ?_)
      clear hK K
      try simp only [Act.put, List.setIfInBounds_toArray, List.set_cons_zero, List.set_cons_succ]
      refine wpAnyH_ready (rs := [5]) (by kernel_rfl) (by simp) ?_
      refine AllReadyH.cons (o := ⟨some 24, _, _, _, _, _⟩) rfl (fun K hK => ?_) AllReadyH.nil
      go_simp
      with_reducible refine (sum_any k _ _ _ _ _ hk J4).mono ?_
      rintro e w5 ⟨rfl, hb5⟩
      have hB5 := hB4.trans (hb5.mono hB4.size)
      have hk5 := hk4.below hb5 hk4.lt
      have HO5 := hid (HO4.out.below hb5 HO4.out.lt)
      clear HO4 hb5 J4 hg4 hB4 hk4
      go_wp2_with fail
      clear hHeld
      refine hK.out _ _ (⟨hB5, hk5.range⟩) (fun hHeld => ?_)
      clear hK K
      try simp only [Act.put, List.setIfInBounds_toArray, List.set_cons_zero, List.set_cons_succ]
      refine wpAnyH_take (i := 6) (oi := ⟨some 10, _, _, _, _, _⟩) (v := ?_) rfl (by kernel_rfl) (by kernel_rfl) (by kernel_rfl) (fun _ _ _ h => h) (Or.inl ⟨by rfl, ?_⟩) hHeld ?_
      rotate_left
      · intro w hSw; go_simp; try with_reducible rfl
      try simp only [Act.put, List.setIfInBounds_toArray, List.set_cons_zero, List.set_cons_succ]
      refine wpAnyH_done (by kernel_rfl) ?_ _
      rcases (by omega : j = 0 ∨ j = 1) with rfl | rfl
      · have z0 : IntKind.i64.wrap 0 = 0 := by decide
        go_wp2_with fail
        refine wp_region_held_drew (S := fun w' => Below wB.heap.size wB w' ∧ w'.rangeAt w.heap.size 0 (k.map bv)) (by kernel_rfl) (⟨below_drewN hB5 1, hk5.drew.range⟩) (fun hHeld => ?_)
        refine wpAnyH_take (i := 0) (oi := ⟨some 25, _, _, _, _, _⟩) (v := ?_) rfl (by kernel_rfl) (by kernel_rfl) (by kernel_rfl) (fun _ _ _ h => h) (Or.inl ⟨by rfl, ?_⟩) hHeld ?_
        rotate_left
        · intro w hSw; go_simp; try with_reducible rfl
        try simp only [Act.put, List.setIfInBounds_toArray, List.set_cons_zero, List.set_cons_succ]
        refine wpAnyH_take (i := 1) (oi := ⟨some 26, _, _, _, _, _⟩) (v := ?_) rfl (by kernel_rfl) (by kernel_rfl) (by kernel_rfl) (fun _ _ _ h => h) (Or.inl ⟨by rfl, ?_⟩) hHeld ?_
        rotate_left
        · intro w hSw; go_simp; try with_reducible rfl
        try simp only [Act.put, List.setIfInBounds_toArray, List.set_cons_zero, List.set_cons_succ]
        refine wpAnyH_take (i := 2) (oi := ⟨some 27, _, _, _, _, _⟩) (v := ?_) rfl (by kernel_rfl) (by kernel_rfl) (by kernel_rfl) (fun _ _ _ h => h) (Or.inl ⟨by rfl, ?_⟩) hHeld ?_
        rotate_left
        · intro w hSw; go_simp; try with_reducible rfl
        try simp only [Act.put, List.setIfInBounds_toArray, List.set_cons_zero, List.set_cons_succ]
        refine wpAnyH_take (i := 3) (oi := ⟨some 28, _, _, _, _, _⟩) (v := ?_) rfl (by kernel_rfl) (by kernel_rfl) (by kernel_rfl) (fun _ _ _ h => h) (Or.inl ⟨by rfl, ?_⟩) hHeld ?_
        rotate_left
        · intro w hSw; go_simp; try with_reducible rfl
        try simp only [Act.put, List.setIfInBounds_toArray, List.set_cons_zero, List.set_cons_succ]
        refine wpAnyH_ready (rs := [4]) (by kernel_rfl) (by simp) ?_
        refine AllReadyH.cons (o := ⟨some 29, _, _, _, _, _⟩) rfl (fun K hK => ?_) AllReadyH.nil
        go_simp
        with_reducible refine (low8 _ _).mono ?_
        rintro e w6 ⟨g6, rfl, hg6, hO6, hb6⟩
        have hB6 := (below_drewN hB5 1).trans (hb6.mono hB5.size)
        have hk6 := hk5.drew.below hb6 hk5.drew.lt
        have J6 := hO6.isB (by rw [length_leB]; omega)
        rw [length_leB] at J6 ⊢
        have HO6 := hid (HO5.out.drew.below hb6 HO5.out.drew.lt)
        change IsB w6 _ _ _ (half k s.data.toList v.toNat 0) at J6
        clear HO5 hO6 hb6 hg6 hB5 hk5
        go_wp2_with fail
        clear hHeld
        refine hK.out _ _ (⟨hB6, hk6.range⟩) (fun hHeld => ?_)
        clear hK K
        try simp only [Act.put, List.setIfInBounds_toArray, List.set_cons_zero, List.set_cons_succ]
        refine wpAnyH_ready (rs := [5]) (by kernel_rfl) (by simp) ?_
        refine AllReadyH.cons (o := ⟨some 30, _, _, _, _, _⟩) rfl (fun K hK => ?_) AllReadyH.nil
        refine step_copy_key rfl (.tmp 27) (.tmp 29) rfl wB.heap.size 0 16 16 (some ⟨g6, 0, none⟩) 8 8 rfl rfl (outK k s.data.toList v.toNat 0) (half k s.data.toList v.toNat 0) HO6.out J6 (by omega) (by rw [length_outK _ _ _ _ (by omega)]; omega) wB.heap.size wB hB6 (Nat.le_refl _) ?_
        intro w7 K7 B7
        have hk7 := hkB.below B7 hkB.lt
        clear hHeld
        refine hK.out _ _ (⟨B7, hk7.range⟩) (fun hHeld => ?_)
        clear hK K
        try simp only [Act.put, List.setIfInBounds_toArray, List.set_cons_zero, List.set_cons_succ]
        refine wpAnyH_done (by kernel_rfl) ?_ _
        go_wp2_with fail
        go_roundw
        case rel => exact ⟨1, by omega, rfl, hid (by rw [← HS.out]; exact K7.out), B7⟩
        case measure => simp [intOf]
      · have z0 : IntKind.i64.wrap 8 = 8 := by decide
        go_wp2_with fail
        refine wp_region_held_drew (S := fun w' => Below wB.heap.size wB w' ∧ w'.rangeAt w.heap.size 0 (k.map bv)) (by kernel_rfl) (⟨below_drewN hB5 1, hk5.drew.range⟩) (fun hHeld => ?_)
        refine wpAnyH_take (i := 0) (oi := ⟨some 25, _, _, _, _, _⟩) (v := ?_) rfl (by kernel_rfl) (by kernel_rfl) (by kernel_rfl) (fun _ _ _ h => h) (Or.inl ⟨by rfl, ?_⟩) hHeld ?_
        rotate_left
        · intro w hSw; go_simp; try with_reducible rfl
        try simp only [Act.put, List.setIfInBounds_toArray, List.set_cons_zero, List.set_cons_succ]
        refine wpAnyH_take (i := 1) (oi := ⟨some 26, _, _, _, _, _⟩) (v := ?_) rfl (by kernel_rfl) (by kernel_rfl) (by kernel_rfl) (fun _ _ _ h => h) (Or.inl ⟨by rfl, ?_⟩) hHeld ?_
        rotate_left
        · intro w hSw; go_simp; try with_reducible rfl
        try simp only [Act.put, List.setIfInBounds_toArray, List.set_cons_zero, List.set_cons_succ]
        refine wpAnyH_take (i := 2) (oi := ⟨some 27, _, _, _, _, _⟩) (v := ?_) rfl (by kernel_rfl) (by kernel_rfl) (by kernel_rfl) (fun _ _ _ h => h) (Or.inl ⟨by rfl, ?_⟩) hHeld ?_
        rotate_left
        · intro w hSw; go_simp; try with_reducible rfl
        try simp only [Act.put, List.setIfInBounds_toArray, List.set_cons_zero, List.set_cons_succ]
        refine wpAnyH_take (i := 3) (oi := ⟨some 28, _, _, _, _, _⟩) (v := ?_) rfl (by kernel_rfl) (by kernel_rfl) (by kernel_rfl) (fun _ _ _ h => h) (Or.inl ⟨by rfl, ?_⟩) hHeld ?_
        rotate_left
        · intro w hSw; go_simp; try with_reducible rfl
        try simp only [Act.put, List.setIfInBounds_toArray, List.set_cons_zero, List.set_cons_succ]
        refine wpAnyH_ready (rs := [4]) (by kernel_rfl) (by simp) ?_
        refine AllReadyH.cons (o := ⟨some 29, _, _, _, _, _⟩) rfl (fun K hK => ?_) AllReadyH.nil
        go_simp
        with_reducible refine (low8 _ _).mono ?_
        rintro e w6 ⟨g6, rfl, hg6, hO6, hb6⟩
        have hB6 := (below_drewN hB5 1).trans (hb6.mono hB5.size)
        have hk6 := hk5.drew.below hb6 hk5.drew.lt
        have J6 := hO6.isB (by rw [length_leB]; omega)
        rw [length_leB] at J6 ⊢
        have HO6 := hid (HO5.out.drew.below hb6 HO5.out.drew.lt)
        change IsB w6 _ _ _ (half k s.data.toList v.toNat 1) at J6
        clear HO5 hO6 hb6 hg6 hB5 hk5
        go_wp2_with fail
        clear hHeld
        refine hK.out _ _ (⟨hB6, hk6.range⟩) (fun hHeld => ?_)
        clear hK K
        try simp only [Act.put, List.setIfInBounds_toArray, List.set_cons_zero, List.set_cons_succ]
        refine wpAnyH_ready (rs := [5]) (by kernel_rfl) (by simp) ?_
        refine AllReadyH.cons (o := ⟨some 30, _, _, _, _, _⟩) rfl (fun K hK => ?_) AllReadyH.nil
        refine step_copy_key rfl (.tmp 27) (.tmp 29) rfl wB.heap.size 8 8 8 (some ⟨g6, 0, none⟩) 8 8 rfl rfl (outK k s.data.toList v.toNat 1) (half k s.data.toList v.toNat 1) HO6.out J6 (by omega) (by rw [length_outK _ _ _ _ (by omega)]; omega) wB.heap.size wB hB6 (Nat.le_refl _) ?_
        intro w7 K7 B7
        have hk7 := hkB.below B7 hkB.lt
        clear hHeld
        refine hK.out _ _ (⟨B7, hk7.range⟩) (fun hHeld => ?_)
        clear hK K
        try simp only [Act.put, List.setIfInBounds_toArray, List.set_cons_zero, List.set_cons_succ]
        refine wpAnyH_done (by kernel_rfl) ?_ _
        go_wp2_with fail
        go_roundw
        case rel => exact ⟨2, by omega, rfl, hid (by rw [← HS.out]; exact K7.out), B7⟩
        case measure => simp [intOf]
    · obtain rfl : j = 2 := by omega
      rw [outK_two] at HOr
      have hrr := hrB.below hBr hrB.lt
      have hBw := hBB.trans (hBr.mono hBB.size)
      go_wp2_with (first | (with_reducible refine wpList_load_key (op := ⟨some 32, _, _, _, _, _⟩) rfl (.tmp 8) rfl rfl HOr.out (length_derL _ _ _) ?_) | (refine wpList_store_key (op := ⟨none, _, _, _, _, _⟩) rfl (.tmp 6) (.tmp 32) rfl rfl rfl hrr (length_zeros 16) (length_derL _ _ _) w.heap.size w hBw (Nat.le_succ _) ?_; intro w7 hR7 hB7))
      exact bodyPost_ret (results_key rfl rfl hR7.out (length_derL _ _ _)) rfl ⟨rfl, hB7⟩
end Go.Proofs.Ytjlogmbgapnceaa
