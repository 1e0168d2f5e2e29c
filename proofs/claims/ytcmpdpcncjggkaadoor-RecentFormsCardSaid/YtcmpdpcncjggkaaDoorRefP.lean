/-
  The reference's Prune, Known.
-/
import Derived.Test.YtcmpdpcncjggkaaDoorRefR
namespace Go.Proofs.YtcmpdpcncjggkaaDoor
open Go.RowKit
set_option linter.unusedSimpArgs false
set_option linter.unusedVariables false

set_option maxHeartbeats 8000000 in
set_option maxRecDepth 100000 in
theorem rprune_any (a : Option Addr) (len cap : Nat) (l : List Ent) (now : Int) (w : World) (hI : IsE w a len cap l) :
    Calls Tryd.prog 24 #[.slice a len cap, .int .i64 now] w (RetPr (pruneR l now) w) := by
  have hv := rvalid7_any a len cap l w hI
  have hl := hid hI.length
  have hle := hI.le
  have HR : Hid (pruneR l now = if validL l then (if timeB now then (pruneL l now, 0) else ([], 2)) else ([], 1)) := hid rfl
  have HL : Hid (validL l = true → len ≤ 32) := hid (fun h => by have := validL_len h; have := hl.out; omega)
  generalize pruneR l now = R at HR ⊢
  generalize validL l = V at hv HR HL
  have ht := rtime_any now
  generalize timeB now = T at ht HR
  go_enter Tryd.func24, Tryd.ntmps24
  go_wp2_with fail
  with_reducible refine hv.mono ?_
  rintro e1 w2 ⟨rfl, hb2⟩
  clear hv
  cases V
  · have HR2 := HR.out
    subst HR2
    go_wp2_with fail
    go_ret2
    exact ⟨_, rfl, GrE.nil _ _, hb2⟩
  · have hlen : len ≤ 32 := HL.out rfl
    go_wp2_with fail
    with_reducible refine (ht _).mono ?_
    rintro e2 w3 ⟨rfl, hb3⟩
    have hB3 := seq hb2 hb3
    clear ht hb2 hb3
    cases T
    · have HR2 := HR.out
      subst HR2
      go_wp2_with fail
      go_ret2
      exact ⟨_, rfl, GrE.nil _ _, hB3⟩
    · have HR2 := HR.out
      subst HR2
      clear HR HL
      go_wp2_with fail
      go_loopw [6, 7] (fun tv ti wr => ∃ (i : Nat) (v : Value), i ≤ len ∧ ti = .int .i64 i ∧ tv = v ∧ GrE wr w.heap.size v (pruneL (l.take i) now) ∧ Below w.heap.size w wr) (fun _ ti _ => len - (intOf ti).toNat)
      case atStart => exact ⟨0, _, Nat.zero_le _, rfl, rfl, GrE.nil _ _, hB3⟩
      case round =>
        obtain ⟨i, v, hi, rfl, rfl, hG, hB⟩ := hrel
        by_cases hlt : i < len
        · obtain ⟨b, off, rfl, hb, hc⟩ := hI.some (by omega)
          have hK := rangeAt_below (hc i hlt) hB hb
          have hsucc := pruneL_succ l now i (by rw [hl.out]; exact hlt)
          generalize l.getD i dE = x at hK hsucc
          have hpl : (pruneL (l.take i) now).length ≤ 32 := by
            have := pruneL_len (l.take i) now
            rw [List.length_take] at this; omega
          obtain ⟨k0, k1, k2, k3, k4⟩ := el_cells hK
          have HS := hid hsucc
          clear hK hc hsucc
          obtain ⟨p, cp, rfl, hI2⟩ := hG.isE (by omega)
          clear hI2
          by_cases hu : now < x.u
          · have hone : IsE (wr.alloc (.cells #[.int .i64 x.m, .int .u16 x.s, .int .u64 x.e, .int .u8 x.q, .int .i64 x.u] 36)) (some ⟨wr.heap.size, 0, none⟩) 1 1 [x] := isE_one wr x
            have hb7 := (Below.refl wr.heap.size wr).alloc (Nat.le_refl _) (.cells #[.int .i64 x.m, .int .u16 x.s, .int .u64 x.e, .int .u8 x.q, .int .i64 x.u] 36)
            have hG7 := hG.below hb7
            have hsz := hB.size
            generalize hL : pruneL (l.take i) now = L at *
            go_wp2_with (with_reducible refine wpList_append_ents (o := ⟨some 33, _, _, _, _, _⟩) rfl (.tmp 27) (.tmp 32) rfl (.slice p L.length cp) rfl (some ⟨wr.heap.size, 0, none⟩) 1 1 rfl w.heap.size L [x] hG7 hone (by omega) w (hB.trans (hb7.mono hsz)) (by simp; omega) ?_; intro v8 w8 hG8 hB8 _)
            go_roundw
            case rel => exact ⟨i + 1, _, by omega, by go_num, rfl, by rw [HS.out, overF, decide_eq_false (by omega)]; exact hG8.out, hB8⟩
            case measure => simp [intOf]; omega
          · generalize hL : pruneL (l.take i) now = L at *
            go_wp2_with fail
            go_roundw
            case rel => exact ⟨i + 1, _, by omega, by go_num, rfl, by rw [HS.out, overF, decide_eq_true (by omega), if_pos rfl, List.append_nil]; exact hG, hB⟩
            case measure => simp [intOf]; omega
        · obtain rfl : i = len := by omega
          rw [List.take_of_length_le (by rw [hl.out]; omega)] at hG
          go_wp2_with fail
          go_ret2
          exact ⟨_, rfl, hG, hB⟩
end Go.Proofs.YtcmpdpcncjggkaaDoor
