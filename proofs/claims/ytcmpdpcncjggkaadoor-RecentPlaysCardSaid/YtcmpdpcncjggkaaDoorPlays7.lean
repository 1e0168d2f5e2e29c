/-
  A list, frame after frame, against the reference: the law's walk.
-/
import Derived.Test.YtcmpdpcncjggkaaDoorRefRec
import Derived.Test.YtcmpdpcncjggkaaDoorPrun7
namespace Go.Proofs.YtcmpdpcncjggkaaDoor
open Go.RowKit
set_option linter.unusedSimpArgs false
set_option linter.unusedVariables false

set_option maxHeartbeats 16000000 in
set_option maxRecDepth 100000 in
theorem plays_walk (a0 : Option Addr) (len0 cap0 : Nat) (w : World) (hT : IsI w a0 len0 cap0) (G : GL w) :
    Calls Tryd.prog 4 #[.slice a0 len0 cap0] w (RetS (.bool true) w) := by
  go_enter Tryd.func4, Tryd.ntmps4
  go_wp2_with fail
  with_reducible refine (new_any a0 len0 cap0 w hT).mono ?_
  rintro e1 w1 ⟨g, rfl, hg, hT1, hb1⟩
  go_wp2_with fail
  with_reducible refine (seen_any g w1 hT1).mono ?_
  rintro e2 w2 ⟨v, L0, rfl, hV, hG2, hT2, hO2⟩
  have hs2 := hO2.size
  have hgw1 := hT1.lt
  have hb2 := hb1.trans (hO2.below hg hb1.size)
  have HV := hid hV
  have hB1 : g < w1.heap.size ∧ w1.heap.size ≤ w2.heap.size := ⟨hgw1, hs2⟩
  generalize w1.heap.size = B1 at *
  clear hV hT1 hO2 hb1 hs2 hgw1
  go_wp2_with fail
  go_loopw [4, 5] (fun tv ti wr => ∃ (i : Nat) (v : Value) (L : List Ent), i ≤ 30 ∧ ti = .int .i64 i ∧ tv = v ∧ Hid (VL L) ∧ GrE wr B1 v L ∧ TapeAt wr g ∧ Below w.heap.size w wr ∧ B1 ≤ wr.heap.size) (fun _ ti _ => 30 - (intOf ti).toNat)
  case atStart => exact ⟨0, _, L0, by omega, rfl, rfl, HV, hG2, hT2, hb2, hB1.2⟩
  case round =>
    have hgB := hB1.1
    clear HV hG2 hT2 hb2 hB1
    obtain ⟨i, v, L, hi, rfl, rfl, HV, hG, hTr, hB, hBw⟩ := hrel
    by_cases hlt : i < 30
    · obtain ⟨p, cp, rfl, hI⟩ := hG.isE (by have := HV.out.len; omega)
      clear hI
      go_wp2_with fail
      with_reducible refine (device_good g wr hTr).mono ?_
      rintro e3 w3 ⟨m, s, x, rfl, hx3, ⟨hsen, hs100⟩, hT3, hO3⟩
      go_wp2_with fail
      with_reducible refine (next_any g 3 w3 hT3 (by omega) (by omega)).mono ?_
      rintro e4 w4 ⟨q, rfl, hq, hT4, hO4⟩
      have hqw : IntKind.u8.wrap (q : Int) = (q : Int) := by simp [IntKind.wrap, IntKind.bits, IntKind.signed]; omega
      go_wp2_with fail
      with_reducible refine (next_any g 50 w4 hT4 (by omega) (by omega)).mono ?_
      rintro e5 w5 ⟨now, rfl, hnow, hT5, hO5⟩
      have hO35 := (hO3.trans hO4).trans hO5
      have hG5 := hG.only hO35 hgB
      have hs5 := hO35.size
      have hB5 : Below w.heap.size w w5 := hB.trans (hO35.below hg hB.size)
      obtain ⟨p', cp', hv, hI5⟩ := hG5.isE (by have := HV.out.len; omega)
      injection hv with e1 e2 e3
      subst e1 e3
      clear e2 hG5 hG hTr hT3 hT4 hO3 hO4 hO5 hB hO35
      have hb6 := (Below.refl w5.heap.size w5).alloc (Nat.le_refl _) (.cells #[.int .i64 m, .int .u16 s, .int .u64 x] 28)
      have hA6 : Ar (w5.alloc (.cells #[.int .i64 m, .int .u16 s, .int .u64 x] 28)) w5.heap.size m s x := Ar.of_heap (heap_alloc_new w5 _)
      have hsz6 : (w5.alloc (.cells #[.int .i64 m, .int .u16 s, .int .u64 x] 28)).heap.size = w5.heap.size + 1 := by simp
      have hI6 := hI5.below hb6
      have hT6 := hT5.below hb6
      have hB6 := hB5.trans (hb6.mono hB5.size)
      have htn : timeB (now : Int) = true := by simp [timeB]; omega
      have hvl := hid (recR_valid HV.out (q := q) hsen htn)
      have hrec := fun W h => record_any p L.length cp L m s x q (now : Int) W h
      have hrr := fun W h => rrecord_any p L.length cp L m s x q (now : Int) W h
      simp only [av] at hrec hrr
      generalize recR L m s x q (now : Int) = RR at hrec hrr hvl
      obtain ⟨R, bb, er⟩ := RR
      have hRl : R.length ≤ 32 := hvl.out.len
      clear htn hb6 hI5 hT5 hB5
      simp only [av]
      go_wp2_with fail
      generalize w5.alloc (.cells #[.int .i64 m, .int .u16 s, .int .u64 x] 28) = w6 at *
      with_reducible refine (hrec w6 hI6).mono ?_
      rintro e7 w7 ⟨v7, rfl, hG7, hb7⟩
      obtain ⟨p7, cp7, rfl, hI7⟩ := hG7.isE (by simp only; omega)
      obtain ⟨c0, c1, c2⟩ := (hA6.below hb7 (by omega)).cells
      have hs7 := hb7.size
      clear hrec hG7
      go_wp2_with fail
      with_reducible refine (hrr w7 (hI6.below hb7)).mono ?_
      rintro e8 w8 ⟨v8, rfl, hG8, hb8⟩
      obtain ⟨p8, cp8, rfl, hI8⟩ := hG8.isE (by simp only; omega)
      have hb68 := seq hb7 hb8
      have hT8 := hT6.below hb68
      have hB8 := seq hB6 hb68
      have hG9 := hG8.mono (C := B1) (by omega)
      have hs8 := hb8.size
      have hsm := rsame7_any p7 p8 R.length cp7 cp8 R w8 (hI7.below hb8) hI8
      clear hrr hb7 hb8 hI7 hI8 c0 c1 c2 hb68 hB6 hT6 hI6 hG8
      go_wp2_with fail
      with_reducible refine hsm.mono ?_
      rintro e9 w9 ⟨rfl, hb9⟩
      have hs9 := hb9.size
      go_wp2_with fail
      go_roundw
      case rel => exact ⟨i + 1, _, R, by omega, by go_num, rfl, hvl, hG9.below hb9, hT8.below hb9, seq hB8 hb9, by omega⟩
      case measure => simp [intOf]; omega
    · obtain rfl : i = 30 := by omega
      go_wp2_with fail
      with_reducible refine (known_any wr (G.on hB)).mono ?_
      rintro e9 w9 ⟨rfl, hb9⟩
      go_wp2_with fail
      go_ret
      exact ⟨ret_bool rfl, seq hB hb9⟩
end Go.Proofs.YtcmpdpcncjggkaaDoor
