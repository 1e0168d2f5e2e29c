/-
  A device, bytes, a number of 64 bits, a frame: off the tape.
-/
import Derived.Test.YtmbiophckeiehaaTapeFill
import Derived.Test.YtmbiophckeiehaaRs
import Derived.Test.YtmbiophckeiehaaRead
namespace Go.Proofs.Ytmbiophckeiehaa
open Go.RowKit
set_option linter.unusedSimpArgs false
set_option linter.unusedVariables false

/-- an address of one device -/
def RetDev (g : Nat) (w : World) (e : Ending) (w' : World) : Prop :=
  ∃ m s x, e = .returned (av m s x) ∧ Ad3 m s x ∧ (validA m s x = true ∧ (m = 2 ∨ m = 3) ∧ bcA m s x = false) ∧ TapeAt w' g ∧ Only g w w'

set_option maxHeartbeats 1600000 in
set_option maxRecDepth 100000 in
theorem device_good (g : Nat) (w : World) (hT : TapeAt w g) :
    Calls Try.prog 35 #[.pointer (some ⟨g, 0, none⟩)] w (RetDev g w) := by
  have hlt := hT.lt
  have hT1 := hT.below ((Below.refl w.heap.size w).alloc (Nat.le_refl _) (.cells #[.int .i64 0, .int .u16 0, .int .u64 0] 27))
  go_enter Try.func35, Try.ntmps35
  go_wp2_with fail
  have hO1 := Only.ofBelow g ((Below.refl w.heap.size w).alloc (Nat.le_refl _) (.cells #[.int .i64 0, .int .u16 0, .int .u64 0] 27))
  have cA : (w.alloc (.cells #[.int .i64 0, .int .u16 0, .int .u64 0] 27)).heap[w.heap.size]? = some (.cells #[.int .i64 0, .int .u16 0, .int .u64 0] 27 (0, 0)) := heap_alloc_new w _
  have hsz : (w.alloc (.cells #[.int .i64 0, .int .u16 0, .int .u64 0] 27)).heap.size = w.heap.size + 1 := by simp
  generalize w.alloc (.cells #[.int .i64 0, .int .u16 0, .int .u64 0] 27) = w1 at hT1 hO1 cA hsz ⊢
  with_reducible refine (next_any g 5 w1 hT1 (by omega) (by omega)).mono ?_
  rintro e w2 ⟨v, rfl, hv, hT2, hO2⟩
  go_wp2_with fail
  with_reducible refine (bool_any g 2 w2 hT2 (by omega) (by omega)).mono ?_
  rintro e w3 ⟨b, rfl, hT3, hO3⟩
  have hO13 := hO2.trans hO3
  have cA3 : w3.heap[w.heap.size]? = some (.cells #[.int .i64 0, .int .u16 0, .int .u64 0] 27 (0, 0)) := (hO13.block _ (by omega) (by omega)).trans cA
  have th := there_addr cA3
  have hO := hO1.trans hO13
  have hq : IntKind.u64.wrap (v : Int) = (v : Int) := by rw [u64_wrap_nat]; congr 1; omega
  have hq2 : IntKind.u16.wrap (v : Int) = (v : Int) := by simp [IntKind.wrap, IntKind.bits, IntKind.signed]; omega
  clear cA cA3 hT1 hO1 hT2 hO2 hO3 hO13
  cases b
  · go_wp2_with (with_reducible refine wpList_store_addr (op := ⟨none, _, _, _, _, _⟩) rfl (.tmp 2) (.tmp 14) rfl rfl rfl th ?_; intro w4 hR4 hO4)
    refine bodyPost_ret (results_addr rfl rfl hR4.out) rfl ⟨_, _, _, rfl, ⟨by unfold I64; omega, by omega, by unfold U64; omega⟩, by refine ⟨by simp [validA], by simp, ?_⟩; simp [bcA]; try omega, hT3.only hO4 (by omega), only_two hO hO4 (Nat.le_refl _)⟩
  · go_wp2_with (with_reducible refine wpList_store_addr (op := ⟨none, _, _, _, _, _⟩) rfl (.tmp 2) (.tmp 11) rfl rfl rfl th ?_; intro w4 hR4 hO4)
    refine bodyPost_ret (results_addr rfl rfl hR4.out) rfl ⟨_, _, _, rfl, ⟨by unfold I64; omega, by omega, by unfold U64; omega⟩, by refine ⟨by simp [validA], by simp, ?_⟩; simp [bcA]; try omega, hT3.only hO4 (by omega), only_two hO hO4 (Nat.le_refl _)⟩


/-- bytes of the call's own -/
def RetOwn (g : Nat) (B : Nat) (c : List UInt8 → Prop) (w : World) (e : Ending) (w' : World) : Prop :=
  ∃ k l, e = .returned (.slice (some ⟨k, 0, none⟩) l.length l.length) ∧ B ≤ k ∧ c l ∧ Own w' k l ∧ TapeAt w' g ∧ Only g w w'

set_option maxHeartbeats 2000000 in
theorem tbytes_any (g : Nat) (n : Nat) (w : World) (hT : TapeAt w g) (hn : n ≤ 100000) :
    Calls Try.prog 34 #[.pointer (some ⟨g, 0, none⟩), .int .i64 n] w (RetOwn g w.heap.size (fun l => l.length ≤ n) w) := by
  have hglt := hT.lt
  go_enter Try.func34, Try.ntmps34
  go_wp2_with fail
  with_reducible refine (next_any g ((n : Int) + 1) w hT (by omega) (by omega)).mono ?_
  rintro e w1 ⟨v, rfl, hv, hT1, hO1⟩
  have hmk := fun u => run_make_bytes (v : Int) v rfl (by omega) u
  have hB := (Below.refl w1.heap.size w1).alloc (Nat.le_refl _) (.cells (row (zeros v)) 5)
  have hO2 := Own.new w1 (zeros v)
  have hT2 := hT1.below hB
  have hOn2 := hO1.trans (Only.ofBelow g hB)
  have hs1 := hO1.size
  go_wp2_with fail
  generalize hkb : w1.heap.size = kb at *
  generalize w1.alloc _ = w2 at *
  go_loopw [6] (fun t wr => ∃ i : Nat, i ≤ v ∧ t = .int .i64 i ∧ (∃ l, l.length = v ∧ Own wr kb l) ∧ TapeAt wr g ∧ Only g w wr) (fun t _ => v - (intOf t).toNat)
  case atStart => exact ⟨0, Nat.zero_le _, rfl, ⟨zeros v, length_zeros v, hO2⟩, hT2, hOn2⟩
  case round =>
    obtain ⟨i, hi, rfl, ⟨l, hl, hO⟩, hTr, hOr⟩ := hrel
    clear hmk hO2 hT2 hOn2 hT1 hO1 hB
    by_cases hlt : i < v
    · go_wp2_with fail
      with_reducible refine (next_any g 256 wr hTr (by decide) (by decide)).mono ?_
      rintro e w3 ⟨x, rfl, hx, hT3, hO3⟩
      have hOw := hO.only hO3 (by omega)
      have d1 := hOw.cell i (by omega)
      have d2 := hOw.frozen i
      have HOw := hid hOw
      have hkl := hOw.lt
      clear hOw hO
      go_wp2_with fail
      go_roundw
      case rel =>
        refine ⟨i + 1, by omega, by go_num, ⟨l.set i _, by simpa using hl, HOw.out.set i _ (UInt8.ofNat x) ?_⟩, hT3.only (Only.set kb i w3 _) (by omega), only_two (hOr.trans hO3) (Only.set kb i w3 _) (by omega)⟩
        simp only [bv, UInt8.toNat_ofNat']
        congr 1; omega
      case measure => simp [intOf]; omega
    · obtain rfl : i = v := by omega
      go_wp2_with fail
      go_ret
      exact ⟨kb, l, by rw [hl]; rfl, by omega, by simp only []; omega, hO, hTr, hOr⟩

set_option maxHeartbeats 2000000 in
theorem word_any (g : Nat) (w : World) (hT : TapeAt w g) :
    Calls Try.prog 17 #[.pointer (some ⟨g, 0, none⟩)] w (fun e w' => ∃ v : Nat, e = .returned (.int .u64 v) ∧ v < 18446744073709551616 ∧ TapeAt w' g ∧ Only g w w') := by
  go_enter Try.func17, Try.ntmps17
  go_wp2_with fail
  with_reducible refine (next_any g 65536 w hT (by decide) (by decide)).mono ?_
  rintro e w1 ⟨v, rfl, hv, hT1, hO1⟩
  have hq : IntKind.u64.wrap (v : Int) = (v : Int) := by rw [u64_wrap_nat]; congr 1; omega
  go_wp2_with fail
  with_reducible refine (next_any g 5 w1 hT1 (by decide) (by decide)).mono ?_
  rintro e w2 ⟨c, rfl, hc, hT2, hO2⟩
  have hO := hO1.trans hO2
  rcases (by omega : c = 0 ∨ c = 1 ∨ c = 2 ∨ c = 3 ∨ c = 4) with rfl | rfl | rfl | rfl | rfl
  all_goals go_wp2_with fail
  all_goals go_ret
  · exact ⟨v, rfl, by omega, hT2, hO⟩
  · exact ⟨v * 281474976710656 + v, ret_int (k := .u64) (a := (v : Int) * 281474976710656 + v) (by simp), by omega, hT2, hO⟩
  · exact ⟨9223372036854775808 + v, ret_int (k := .u64) (a := 9223372036854775808 + (v : Int)) (by simp), by omega, hT2, hO⟩
  · exact ⟨18446744073709551615 - v % 4, ret_int (k := .u64) (a := 18446744073709551615 - (v : Int) % 4) (by omega), by omega, hT2, hO⟩
  · exact ⟨v % 4, ret_int (k := .u64) (a := (v : Int) % 4) (by simp), by omega, hT2, hO⟩

/-- where a maker of frames stands: the tape, the result's block, the frame -/
structure TS (w wi : World) (g b : Nat) (h : Hd) (p m : Value) : Prop where
  tape : TapeAt wi g
  only : Only g w wi
  res : Fk wi w.heap.size zH (.slice none 0 0) (.slice none 0 0)
  fr : Fk wi b h p m
  lt : w.heap.size < b
  glt : g < w.heap.size
theorem TS.call {w wi wj : World} {g b : Nat} {h : Hd} {p m : Value} (s : TS w wi g b h p m) (hT : TapeAt wj g) (hO : Only g wi wj) : TS w wj g b h p m := by
  have h1 := s.lt
  have h2 := s.glt
  exact ⟨hT, s.only.trans hO, s.res.only hO s.res.lt (by omega), s.fr.only hO s.fr.lt (by omega), h1, h2⟩
theorem TS.to {w wi wj : World} {g b : Nat} {h h' : Hd} {p m p' m' : Value} (s : TS w wi g b h p m) (hO : Only b wi wj) (hK : Fk wj b h' p' m') : TS w wj g b h' p' m' := by
  have h1 := s.lt
  have h2 := s.glt
  exact ⟨s.tape.only hO (by omega), only_two s.only hO (by omega), s.res.only hO s.res.lt (by omega), hK, h1, h2⟩
theorem TS.below {w wi wj : World} {g b : Nat} {h : Hd} {p m : Value} (s : TS w wi g b h p m) (hB : Below wi.heap.size wi wj) : TS w wj g b h p m :=
  ⟨s.tape.below hB, s.only.trans (Only.ofBelow g hB), s.res.below hB s.res.lt, s.fr.below hB s.fr.lt, s.lt, s.glt⟩
theorem TS.set {w wi : World} {g b : Nat} {h : Hd} {p m : Value} (s : TS w wi g b h p m) (j : Nat) (v : Value) (h' : Hd) (p' m' : Value) (hs : (fvl h p m).toArray.setIfInBounds j v = (fvl h' p' m').toArray) : TS w (wi.setCell ⟨b, j, none⟩ v) g b h' p' m' :=
  s.to (Only.set b j wi v) (s.fr.set j v hs)
theorem Own.to {w wi wj : World} {k b : Nat} {l : List UInt8} (h : Own wi k l) (hO : Only b wi wj) (hk : k ≠ b) : Own wj k l := h.only hO hk

theorem hok_mk {ar pe se : Bool} {k sq pn dm ds dx sm ss sx ct ky : Int} (h1 : I64 k) (h2 : 0 ≤ sq ∧ sq < 256) (h3 : 0 ≤ pn ∧ pn < 65536) (h4 : Ad3 dm ds dx) (h5 : Ad3 sm ss sx) (h6 : 0 ≤ ct ∧ ct < 4294967296) (h7 : 0 ≤ ky ∧ ky < 256) : HOk ⟨k, ar, pe, se, sq, pn, dm, ds, dx, sm, ss, sx, ct, ky⟩ := ⟨h1, h2, h3, h4, h5, h6, h7⟩

/-- what Frame answers: a valid frame that is not sealed -/
def RetFrame (g : Nat) (w : World) (e : Ending) (w' : World) : Prop :=
  ∃ h k P, e = .returned (fv h (.slice (some ⟨k, 0, none⟩) P.length P.length) (.slice none 0 0)) ∧ w.heap.size < k ∧ P.length ≤ 20 ∧ HOk h ∧ (h.k = 1 ∨ h.k = 3) ∧ h.se = false ∧ h.ct = 0 ∧ h.ky = 0 ∧ adrF h = true ∧ Own w' k P ∧ TapeAt w' g ∧ Only g w w'

theorem adrF_dev {ar pe se : Bool} {k sq pn dm ds dx sm ss sx ct ky : Int} (h1 : validA dm ds dx = true ∧ (dm = 2 ∨ dm = 3) ∧ bcA dm ds dx = false) (h2 : validA sm ss sx = true ∧ (sm = 2 ∨ sm = 3) ∧ bcA sm ss sx = false) : adrF ⟨k, ar, pe, se, sq, pn, dm, ds, dx, sm, ss, sx, ct, ky⟩ = true := by
  unfold adrF
  dsimp only
  rw [h1.1, h1.2.2, h2.1, h2.2.2]
  simp; omega
theorem adrF_bc {pe se : Bool} {k sq pn sm ss sx ct ky : Int} (h2 : validA sm ss sx = true ∧ (sm = 2 ∨ sm = 3) ∧ bcA sm ss sx = false) : adrF ⟨k, false, pe, se, sq, pn, 2, 65535, 0, sm, ss, sx, ct, ky⟩ = true := by
  unfold adrF
  dsimp only
  rw [h2.1, h2.2.2]
  simp [validA]; omega
theorem ad3_bc : Ad3 2 65535 0 := by unfold Ad3 I64 U64; omega

set_option maxHeartbeats 4000000 in
set_option maxRecDepth 100000 in
theorem tframe_any (g : Nat) (n : Nat) (w : World) (hT : TapeAt w g) (hn : n ≤ 20) :
    Calls Try.prog 10 #[.pointer (some ⟨g, 0, none⟩), .int .i64 n] w (RetFrame g w) := by
  have hglt := hT.lt
  have hR : Fk (w.alloc (.cells #[.int .i64 0, .bool false, .bool false, .bool false, .int .u8 0, .int .u16 0, .int .i64 0, .int .u16 0, .int .u64 0, .int .i64 0, .int .u16 0, .int .u64 0, .int .u32 0, .int .u8 0, .slice none 0 0, .slice none 0 0] 31)) w.heap.size zH (.slice none 0 0) (.slice none 0 0) := Fk.new w zH (.slice none 0 0) (.slice none 0 0)
  have hx := (Below.refl w.heap.size w).alloc (Nat.le_refl _) (.cells #[.int .i64 0, .bool false, .bool false, .bool false, .int .u8 0, .int .u16 0, .int .i64 0, .int .u16 0, .int .u64 0, .int .i64 0, .int .u16 0, .int .u64 0, .int .u32 0, .int .u8 0, .slice none 0 0, .slice none 0 0] 31)
  have hT := hT.below hx
  have hO := Only.ofBelow g hx
  have hs : (w.alloc (.cells #[.int .i64 0, .bool false, .bool false, .bool false, .int .u8 0, .int .u16 0, .int .i64 0, .int .u16 0, .int .u64 0, .int .i64 0, .int .u16 0, .int .u64 0, .int .u32 0, .int .u8 0, .slice none 0 0, .slice none 0 0] 31)).heap.size = w.heap.size + 1 := by simp
  have hs := Nat.le_of_eq hs.symm
  go_enter Try.func10, Try.ntmps10
  go_wp2_with fail
  change Calls _ _ _ (w.alloc (.cells #[.int .i64 0, .bool false, .bool false, .bool false, .int .u8 0, .int .u16 0, .int .i64 0, .int .u16 0, .int .u64 0, .int .i64 0, .int .u16 0, .int .u64 0, .int .u32 0, .int .u8 0, .slice none 0 0, .slice none 0 0] 31)) _
  generalize w.alloc _ = w1 at *
  clear hx
  with_reducible refine (next_any g 2 _ hT (by decide) (by decide)).mono ?_
  rintro e2 w2 ⟨a1, rfl, ha1, hT, hOn⟩
  have hR := hR.only hOn hR.lt (Nat.ne_of_gt hglt)
  have hO := hO.trans hOn
  have hs := Nat.le_trans hs hOn.size
  go_wp2_with fail
  with_reducible refine (bool_any g 2 _ hT (by decide) (by decide)).mono ?_
  rintro e3 w3 ⟨ar, rfl, hT, hOn⟩
  have hR := hR.only hOn hR.lt (Nat.ne_of_gt hglt)
  have hO := hO.trans hOn
  have hs := Nat.le_trans hs hOn.size
  go_wp2_with fail
  with_reducible refine (bool_any g 4 _ hT (by decide) (by decide)).mono ?_
  rintro e4 w4 ⟨pe, rfl, hT, hOn⟩
  have hR := hR.only hOn hR.lt (Nat.ne_of_gt hglt)
  have hO := hO.trans hOn
  have hs := Nat.le_trans hs hOn.size
  go_wp2_with fail
  with_reducible refine (next_any g 256 _ hT (by decide) (by decide)).mono ?_
  rintro e5 w5 ⟨a2, rfl, ha2, hT, hOn⟩
  have hR := hR.only hOn hR.lt (Nat.ne_of_gt hglt)
  have hO := hO.trans hOn
  have hs := Nat.le_trans hs hOn.size
  go_wp2_with fail
  with_reducible refine (next_any g 3 _ hT (by decide) (by decide)).mono ?_
  rintro e6 w6 ⟨a3, rfl, ha3, hT, hOn⟩
  have hR := hR.only hOn hR.lt (Nat.ne_of_gt hglt)
  have hO := hO.trans hOn
  have hs := Nat.le_trans hs hOn.size
  go_wp2_with fail
  with_reducible refine (device_good g _ hT).mono ?_
  rintro e7 w7 ⟨dm, ds, dx, rfl, hd3, hdv, hT, hOn⟩
  have hR := hR.only hOn hR.lt (Nat.ne_of_gt hglt)
  have hO := hO.trans hOn
  have hs := Nat.le_trans hs hOn.size
  simp only [av]
  go_wp2_with fail
  with_reducible refine (device_good g _ hT).mono ?_
  rintro e8 w8 ⟨sm, ss, sx, rfl, hs3, hsv, hT, hOn⟩
  have hR := hR.only hOn hR.lt (Nat.ne_of_gt hglt)
  have hO := hO.trans hOn
  have hs := Nat.le_trans hs hOn.size
  simp only [av]
  go_wp2_with fail
  with_reducible refine (tbytes_any g n _ hT (by omega)).mono ?_
  rintro e9 w9 ⟨kb, P, rfl, hkb, hPn, hOw, hT, hOn⟩
  have hR := hR.only hOn hR.lt (Nat.ne_of_gt hglt)
  have hO := hO.trans hOn
  have hs := Nat.le_trans hs hOn.size
  have q8 : IntKind.u8.wrap (a2 : Int) = (a2 : Int) := by rw [IntKind.wrap_u8]; omega
  have q16 : IntKind.u16.wrap (a3 : Int) = (a3 : Int) := by simp [IntKind.wrap, IntKind.bits, IntKind.signed]; omega
  go_upto_region 2 with (fail)
  have hkb9 := hOw.lt
  have hx := (Below.refl w9.heap.size w9).alloc (Nat.le_refl _) (.cells #[.int .i64 (1 + 2 * (a1 : Int)), .bool ar, .bool pe, .bool false, .int .u8 (a2 : Int), .int .u16 (a3 : Int), .int .i64 dm, .int .u16 ds, .int .u64 dx, .int .i64 sm, .int .u16 ss, .int .u64 sx, .int .u32 0, .int .u8 0, .slice (some ⟨kb, 0, none⟩) P.length P.length, .slice none 0 0] 31)
  have hK9 : Fk (w9.alloc (.cells #[.int .i64 (1 + 2 * (a1 : Int)), .bool ar, .bool pe, .bool false, .int .u8 (a2 : Int), .int .u16 (a3 : Int), .int .i64 dm, .int .u16 ds, .int .u64 dx, .int .i64 sm, .int .u16 ss, .int .u64 sx, .int .u32 0, .int .u8 0, .slice (some ⟨kb, 0, none⟩) P.length P.length, .slice none 0 0] 31)) w9.heap.size ⟨1 + 2 * (a1 : Int), ar, pe, false, (a2 : Int), (a3 : Int), dm, ds, dx, sm, ss, sx, 0, 0⟩ (.slice (some ⟨kb, 0, none⟩) P.length P.length) (.slice none 0 0) := heap_alloc_new w9 _
  have hS : TS w (w9.alloc (.cells #[.int .i64 (1 + 2 * (a1 : Int)), .bool ar, .bool pe, .bool false, .int .u8 (a2 : Int), .int .u16 (a3 : Int), .int .i64 dm, .int .u16 ds, .int .u64 dx, .int .i64 sm, .int .u16 ss, .int .u64 sx, .int .u32 0, .int .u8 0, .slice (some ⟨kb, 0, none⟩) P.length P.length, .slice none 0 0] 31)) g w9.heap.size ⟨1 + 2 * (a1 : Int), ar, pe, false, (a2 : Int), (a3 : Int), dm, ds, dx, sm, ss, sx, 0, 0⟩ (.slice (some ⟨kb, 0, none⟩) P.length P.length) (.slice none 0 0) := ⟨hT.below hx, hO.trans (Only.ofBelow g hx), hR.below hx hR.lt, hK9, by omega, hglt⟩
  have hOw := hOw.below hx hkb9
  clear hK9 hx hT hO hR hOn q8 q16
  generalize w9.alloc _ = w10 at hS hOw ⊢
  generalize w9.heap.size = b5 at *
  go_wp2_with fail
  with_reducible refine (bool_any g 5 _ hS.tape (by decide) (by decide)).mono ?_
  rintro e11 w11 ⟨bc, rfl, hT, hOn⟩
  have hS := hS.call hT hOn
  have hOw := hOw.only hOn (by omega)
  clear hT hOn
  cases bc
  · have hF := hS.fr.fr
    have hK := hS.res
    have hKl := hS.res.lt
    go_wp2_with (first | ((with_reducible refine wpList_load_frame (op := ⟨some 33, _, _, _, _, _⟩) ?_ (.tmp 5) ?_ ?_ hF ?_); (· exact rfl); (· exact rfl); (· exact rfl)) | ((with_reducible refine wpList_store_frame (op := ⟨none, _, _, _, _, _⟩) ?_ (.tmp 4) (.tmp 33) ?_ ?_ (h := ⟨1 + 2 * (a1 : Int), ar, pe, false, (a2 : Int), (a3 : Int), dm, ds, dx, sm, ss, sx, 0, 0⟩) (p := .slice (some ⟨kb, 0, none⟩) P.length P.length) (m := .slice none 0 0) ?_ hK ?_ ?_ ?_); (· exact rfl); (· exact rfl); (· exact rfl); (· exact rfl); (· exact rfl); (· exact rfl); intro wz hRz hOz))
    have hOw := hOw.only hOz (by omega)
    have hTz := hS.tape.only hOz hS.glt
    have hOO := only_two hS.only hOz (Nat.le_refl _)
    exact bodyPost_ret (results_frame rfl rfl hRz.out) rfl ⟨_, kb, P, rfl, by omega, by omega, hok_mk (by unfold I64; omega) (by omega) (by omega) hd3 hs3 (by omega) (by omega), by simp only []; omega, rfl, rfl, rfl, adrF_dev hdv hsv, hOw, hTz, hOO⟩
  · have th6 := hS.fr.there3 (o := 6) (by omega)
    have hK6 := hS.fr.setD 2 65535 0
    have hO6 := only_cells (g := b5) [.int .i64 2, .int .u16 65535, .int .u64 0] 6 w11 w11 (Only.refl _ w11)
    have hS6 : TS w _ g b5 ⟨1 + 2 * (a1 : Int), ar, pe, false, (a2 : Int), (a3 : Int), 2, 65535, 0, sm, ss, sx, 0, 0⟩ (.slice (some ⟨kb, 0, none⟩) P.length P.length) (.slice none 0 0) := hS.to hO6 hK6
    have hOw6 := hOw.only hO6 (by omega)
    go_upto_region 4 with ((with_reducible refine wpList_store_mid (op := ⟨none, _, _, _, _, _⟩) ?_ 27 (.tmp 31) (.tmp 30) ?_ b5 6 #[.int .i64 2, .int .u16 65535, .int .u64 0] ?_ ?_ ?_ ?_ ?_ ?_); (· exact rfl); (· exact rfl); (· exact rfl); (· exact rfl); (· exact th6); (· exact addr_info); (· simp [Value.oneCell']); (have c1 := hS6.fr.fr.cells.2.1); (have f1 := hS6.fr.frozen 1))
    have hS7 := hS6.set 1 (.bool false) ⟨1 + 2 * (a1 : Int), false, pe, false, (a2 : Int), (a3 : Int), 2, 65535, 0, sm, ss, sx, 0, 0⟩ (.slice (some ⟨kb, 0, none⟩) P.length P.length) (.slice none 0 0) rfl
    have hOw7 := hOw6.only (Only.set b5 1 _ (.bool false)) (by omega)
    clear hS hOw th6 hK6 hO6 hS6 hOw6 c1 f1
    generalize World.setCell _ _ _ = w12 at *
    have hS := hS7
    have hOw := hOw7
    have hF := hS.fr.fr
    have hK := hS.res
    have hKl := hS.res.lt
    go_wp2_with (first | ((with_reducible refine wpList_load_frame (op := ⟨some 33, _, _, _, _, _⟩) ?_ (.tmp 5) ?_ ?_ hF ?_); (· exact rfl); (· exact rfl); (· exact rfl)) | ((with_reducible refine wpList_store_frame (op := ⟨none, _, _, _, _, _⟩) ?_ (.tmp 4) (.tmp 33) ?_ ?_ (h := ⟨1 + 2 * (a1 : Int), false, pe, false, (a2 : Int), (a3 : Int), 2, 65535, 0, sm, ss, sx, 0, 0⟩) (p := .slice (some ⟨kb, 0, none⟩) P.length P.length) (m := .slice none 0 0) ?_ hK ?_ ?_ ?_); (· exact rfl); (· exact rfl); (· exact rfl); (· exact rfl); (· exact rfl); (· exact rfl); intro wz hRz hOz))
    have hOw := hOw.only hOz (by omega)
    have hTz := hS.tape.only hOz hS.glt
    have hOO := only_two hS.only hOz (Nat.le_refl _)
    exact bodyPost_ret (results_frame rfl rfl hRz.out) rfl ⟨_, kb, P, rfl, by omega, by omega, hok_mk (by unfold I64; omega) (by omega) (by omega) ad3_bc hs3 (by omega) (by omega), by simp only []; omega, rfl, rfl, rfl, adrF_bc hsv, hOw, hTz, hOO⟩
end Go.Proofs.Ytmbiophckeiehaa
