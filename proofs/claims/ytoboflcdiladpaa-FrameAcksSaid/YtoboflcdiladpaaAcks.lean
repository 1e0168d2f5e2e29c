/-
  Acknowledgements: there is one exactly for valid frames that ask for one.
-/
import Derived.Test.YtoboflcdiladpaaAf
import Derived.Test.YtoboflcdiladpaaViewInts
namespace Go.Proofs.Ytoboflcdiladpaa
open Go.RowKit

theorem ack_not (h : Hd) (a : Option Addr) (n c : Nat) (b : Option Addr) (k d : Nat) (w : World) (hn : n ≤ 281474976710656) (hk8 : k ≤ 281474976710656) (e : ackB h n k = false) :
    Calls Try.prog 28 #[fv h (.slice a n c) (.slice b k d)] w (fun e w' => e = .returned (.tuple #[fv zH (.slice none 0 0) (.slice none 0 0), .bool false]) ∧ Below w.heap.size w w') := by
  refine (ackfor_any h a n c b k d w hn hk8).mono ?_
  intro e' w' hh
  unfold RetAck at hh
  rw [e] at hh; exact hh
theorem ack_is (h : Hd) (a : Option Addr) (n c : Nat) (b : Option Addr) (k d : Nat) (w : World) (hn : n ≤ 281474976710656) (hk8 : k ≤ 281474976710656) (e : ackB h n k = true) :
    Calls Try.prog 28 #[fv h (.slice a n c) (.slice b k d)] w (fun e w' => e = .returned (.tuple #[fv (ackH h.sq) (.slice none 0 0) (.slice none 0 0), .bool true]) ∧ Below w.heap.size w w') := by
  refine (ackfor_any h a n c b k d w hn hk8).mono ?_
  intro e' w' hh
  unfold RetAck at hh
  rw [e] at hh; exact hh

set_option maxHeartbeats 4000000 in
set_option maxRecDepth 100000 in
theorem acks_walk (a : Option Addr) (len cap : Nat) (w : World) (hI : IsI w a len cap) :
    Calls Try.prog 9 #[.slice a len cap] w (RetS (.bool true) w) := by
  go_enter Try.func9, Try.ntmps9
  go_wp2_with fail
  with_reducible refine (new_any a len cap w hI).mono ?_
  rintro e1 w1 ⟨g, rfl, hg, hT1, hB1⟩
  go_wp2_with fail
  with_reducible refine (anyframe_any g w1 hT1).mono ?_
  rintro e2 w2 ⟨h, p, m, P, M, rfl, hok, hv, hGp, hGm, hT2, hO2⟩
  obtain ⟨pa, pc, rfl⟩ := hGp.form
  obtain ⟨ma, mc, rfl⟩ := hGm.form
  obtain ⟨hP127, hM4⟩ := valid_small h _ _ hv
  have hB := hB1.trans (hO2.below hg hB1.size)
  have hgw : w.heap.size ≤ w1.heap.size := hB1.size
  clear hT1 hB1 hT2 hO2 hI
  have hKn : Fk (w2.alloc (.cells #[.int .i64 0, .bool false, .bool false, .bool false, .int .u8 0, .int .u16 0, .int .i64 0, .int .u16 0, .int .u64 0, .int .i64 0, .int .u16 0, .int .u64 0, .int .u32 0, .int .u8 0, .slice none 0 0, .slice none 0 0] 31)) w2.heap.size zH (.slice none 0 0) (.slice none 0 0) := Fk.new w2 zH (.slice none 0 0) (.slice none 0 0)
  have hxn := (Below.refl w2.heap.size w2).alloc (Nat.le_refl _) (.cells #[.int .i64 0, .bool false, .bool false, .bool false, .int .u8 0, .int .u16 0, .int .i64 0, .int .u16 0, .int .u64 0, .int .i64 0, .int .u16 0, .int .u64 0, .int .u32 0, .int .u8 0, .slice none 0 0, .slice none 0 0] 31)
  go_upto_region 2 with ((with_reducible refine wpList_store_frame (op := ⟨none, _, _, _, _, _⟩) ?_ (.tmp 3) (.tmp 10) ?_ ?_ (h := h) (p := .slice pa P.length pc) (m := .slice ma M.length mc) ?_ hKn ?_ ?_ ?_); (· exact rfl); (· exact rfl); (· exact rfl); (· exact rfl); (· exact rfl); (· exact rfl); intro w3 hR3 hO3)
  have hbn := hxn.trans (hO3.below (Nat.le_refl _) (by simp))
  have hGp := hGp.below hbn
  have hGm := hGm.below hbn
  have hB := hB.trans (hbn.mono hB.size)
  have hF3 := hR3.out
  clear hKn hxn hbn hR3 hO3
  generalize w2.heap.size = b3 at *
  have j0 := fun w => ack_not h pa P.length pc ma M.length mc w (by omega) (by omega)
  have j1 := fun w => ack_is h pa P.length pc ma M.length mc w (by omega) (by omega)
  have j2 := fun w => ack_not (ackH h.sq) none 0 0 none 0 0 w (by omega) (by omega) rfl
  have j3 := fun w => vframe_any (ackH h.sq) none 0 0 none 0 0 w (by omega) (by omega)
  have j4 := fun w => siz_any (ackH h.sq) none 0 0 none 0 0 w (by omega) (by omega)
  have e3 : validF (ackH h.sq) 0 0 = true := rfl
  have e4 : sizF (ackH h.sq) 0 0 = 5 := rfl
  rw [e3] at j3
  rw [e4] at j4
  go_wp2_with ((with_reducible refine wpList_load_frame (op := ⟨some 12, _, _, _, _, _⟩) ?_ (.tmp 3) ?_ ?_ hF3 ?_); (· exact rfl); (· exact rfl); (· exact rfl))
  cases har : h.ar
  · with_reducible refine (j0 _ (by unfold ackB; rw [har]; simp)).mono ?_
    rintro e5 w5 ⟨rfl, hb5⟩
    have hF3 := hF3.below hb5 hF3.lt
    have hB := hB.trans (hb5.mono hB.size)
    clear hb5
    have hKn : Fk (w5.alloc (.cells #[.int .i64 0, .bool false, .bool false, .bool false, .int .u8 0, .int .u16 0, .int .i64 0, .int .u16 0, .int .u64 0, .int .i64 0, .int .u16 0, .int .u64 0, .int .u32 0, .int .u8 0, .slice none 0 0, .slice none 0 0] 31)) w5.heap.size zH (.slice none 0 0) (.slice none 0 0) := Fk.new w5 zH (.slice none 0 0) (.slice none 0 0)
    have hxn := (Below.refl w5.heap.size w5).alloc (Nat.le_refl _) (.cells #[.int .i64 0, .bool false, .bool false, .bool false, .int .u8 0, .int .u16 0, .int .i64 0, .int .u16 0, .int .u64 0, .int .i64 0, .int .u16 0, .int .u64 0, .int .u32 0, .int .u8 0, .slice none 0 0, .slice none 0 0] 31)
    go_upto_region 3 with ((with_reducible refine wpList_store_frame (op := ⟨none, _, _, _, _, _⟩) ?_ (.tmp 4) (.tmp 14) ?_ ?_ (h := zH) (p := .slice none 0 0) (m := .slice none 0 0) ?_ hKn ?_ ?_ ?_); (· exact rfl); (· exact rfl); (· exact rfl); (· exact rfl); (· exact rfl); (· exact rfl); intro w6 hR6 hO6)
    have hbn := hxn.trans (hO6.below (Nat.le_refl _) (by simp))
    have hF3 := hF3.below hbn hF3.lt
    have hB := hB.trans (hbn.mono hB.size)
    have hF4 := hR6.out
    clear hKn hxn hbn hR6 hO6
    generalize w5.heap.size = b4 at *
    go_wp2_with fail
    with_reducible refine (known_any _).mono ?_
    rintro e7 w7 ⟨rfl, hb7⟩
    have hF3 := hF3.below hb7 hF3.lt
    have hF4 := hF4.below hb7 hF4.lt
    have hB := hB.trans (hb7.mono hB.size)
    clear hb7
    have c1 := hF3.cells.2.1
    rw [har] at c1
    go_wp2_with fail
    go_ret
    exact ⟨rfl, hB⟩
  · with_reducible refine (j1 _ (by unfold ackB; rw [har, hv]; simp)).mono ?_
    rintro e5 w5 ⟨rfl, hb5⟩
    have hF3 := hF3.below hb5 hF3.lt
    have hB := hB.trans (hb5.mono hB.size)
    clear hb5
    have hKn : Fk (w5.alloc (.cells #[.int .i64 0, .bool false, .bool false, .bool false, .int .u8 0, .int .u16 0, .int .i64 0, .int .u16 0, .int .u64 0, .int .i64 0, .int .u16 0, .int .u64 0, .int .u32 0, .int .u8 0, .slice none 0 0, .slice none 0 0] 31)) w5.heap.size zH (.slice none 0 0) (.slice none 0 0) := Fk.new w5 zH (.slice none 0 0) (.slice none 0 0)
    have hxn := (Below.refl w5.heap.size w5).alloc (Nat.le_refl _) (.cells #[.int .i64 0, .bool false, .bool false, .bool false, .int .u8 0, .int .u16 0, .int .i64 0, .int .u16 0, .int .u64 0, .int .i64 0, .int .u16 0, .int .u64 0, .int .u32 0, .int .u8 0, .slice none 0 0, .slice none 0 0] 31)
    go_upto_region 3 with ((with_reducible refine wpList_store_frame (op := ⟨none, _, _, _, _, _⟩) ?_ (.tmp 4) (.tmp 14) ?_ ?_ (h := ackH h.sq) (p := .slice none 0 0) (m := .slice none 0 0) ?_ hKn ?_ ?_ ?_); (· exact rfl); (· exact rfl); (· exact rfl); (· exact rfl); (· exact rfl); (· exact rfl); intro w6 hR6 hO6)
    have hbn := hxn.trans (hO6.below (Nat.le_refl _) (by simp))
    have hF3 := hF3.below hbn hF3.lt
    have hB := hB.trans (hbn.mono hB.size)
    have hF4 := hR6.out
    clear hKn hxn hbn hR6 hO6
    generalize w5.heap.size = b4 at *
    go_wp2_with ((with_reducible refine wpList_load_frame (op := ⟨some 25, _, _, _, _, _⟩) ?_ (.tmp 4) ?_ ?_ hF4 ?_); (· exact rfl); (· exact rfl); (· exact rfl))
    with_reducible refine (j2 _).mono ?_
    rintro e7 w7 ⟨rfl, hb7⟩
    have hF3 := hF3.below hb7 hF3.lt
    have hF4 := hF4.below hb7 hF4.lt
    have hB := hB.trans (hb7.mono hB.size)
    clear hb7
    have hKn : Fk (w7.alloc (.cells #[.int .i64 0, .bool false, .bool false, .bool false, .int .u8 0, .int .u16 0, .int .i64 0, .int .u16 0, .int .u64 0, .int .i64 0, .int .u16 0, .int .u64 0, .int .u32 0, .int .u8 0, .slice none 0 0, .slice none 0 0] 31)) w7.heap.size zH (.slice none 0 0) (.slice none 0 0) := Fk.new w7 zH (.slice none 0 0) (.slice none 0 0)
    have hxn := (Below.refl w7.heap.size w7).alloc (Nat.le_refl _) (.cells #[.int .i64 0, .bool false, .bool false, .bool false, .int .u8 0, .int .u16 0, .int .i64 0, .int .u16 0, .int .u64 0, .int .i64 0, .int .u16 0, .int .u64 0, .int .u32 0, .int .u8 0, .slice none 0 0, .slice none 0 0] 31)
    go_upto_region 6 with ((with_reducible refine wpList_store_frame (op := ⟨none, _, _, _, _, _⟩) ?_ (.tmp 6) (.tmp 27) ?_ ?_ (h := zH) (p := .slice none 0 0) (m := .slice none 0 0) ?_ hKn ?_ ?_ ?_); (· exact rfl); (· exact rfl); (· exact rfl); (· exact rfl); (· exact rfl); (· exact rfl); intro w8 hR8 hO8)
    have hbn := hxn.trans (hO8.below (Nat.le_refl _) (by simp))
    have hF3 := hF3.below hbn hF3.lt
    have hF4 := hF4.below hbn hF4.lt
    have hB := hB.trans (hbn.mono hB.size)
    have hF6 := hR8.out
    clear hKn hxn hbn hR8 hO8
    generalize w7.heap.size = b6 at *
    go_wp2_with fail
    with_reducible refine (known_any _).mono ?_
    rintro e9 w9 ⟨rfl, hb9⟩
    have hF3 := hF3.below hb9 hF3.lt
    have hF4 := hF4.below hb9 hF4.lt
    have hB := hB.trans (hb9.mono hB.size)
    clear hb9
    have c1 := hF3.cells.2.1
    rw [har] at c1
    go_wp2_with ((with_reducible refine wpList_load_frame_on (op := ⟨some 35, _, _, _, _, _⟩) ?_ (.tmp 4) ?_ ?_ hF4 ?_); (· exact rfl); (· exact rfl); (· exact rfl))
    clear c1
    with_reducible refine (j3 _).mono ?_
    rintro e10 w10 ⟨rfl, hb10⟩
    have hF3 := hF3.below hb10 hF3.lt
    have hF4 := hF4.below hb10 hF4.lt
    have hB := hB.trans (hb10.mono hB.size)
    clear hb10
    have c0 := hF4.cells.1
    have c4 := hF4.cells.2.2.2.2.1
    have d4 := hF3.cells.2.2.2.2.1
    simp only [ackH] at c0 c4
    go_wp2_with ((with_reducible refine wpList_load_frame_on (op := ⟨some 51, _, _, _, _, _⟩) ?_ (.tmp 4) ?_ ?_ hF4 ?_); (· exact rfl); (· exact rfl); (· exact rfl))
    clear c0 c4 d4
    with_reducible refine (j4 _).mono ?_
    rintro e11 w11 ⟨rfl, hb11⟩
    have hB := hB.trans (hb11.mono hB.size)
    go_wp2_with fail
    go_ret
    exact ⟨rfl, hB⟩
end Go.Proofs.Ytoboflcdiladpaa
