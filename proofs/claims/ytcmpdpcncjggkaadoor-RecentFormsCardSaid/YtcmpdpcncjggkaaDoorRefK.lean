/-
  The reference's Known; two equal lists are the same.
-/
import Derived.Test.YtcmpdpcncjggkaaDoorRefP
namespace Go.Proofs.YtcmpdpcncjggkaaDoor
open Go.RowKit
set_option linter.unusedSimpArgs false
set_option linter.unusedVariables false

theorem knownL_eq (l : List Ent) (m s e q now : Int) : knownL l m s e q now = hasF (pruneR l now).1 m s e q := by
  unfold knownL pruneR
  split
  · split
    · simp
    · simp [hasF]
  · simp [hasF]

set_option maxHeartbeats 8000000 in
set_option maxRecDepth 100000 in
theorem rknown7_any (a : Option Addr) (len cap : Nat) (l : List Ent) (m s e q now : Int) (w : World) (hI : IsE w a len cap l) :
    Calls Tryd.prog 26 #[.slice a len cap, av m s e, .int .u8 q, .int .i64 now] w (RetS (.bool (knownL l m s e q now)) w) := by
  have hB0 := (Below.refl w.heap.size w).alloc (Nat.le_refl _) (.cells #[.int .i64 m, .int .u16 s, .int .u64 e] 28)
  have hA0 : Ar (w.alloc (.cells #[.int .i64 m, .int .u16 s, .int .u64 e] 28)) w.heap.size m s e := Ar.of_heap (heap_alloc_new w _)
  have hsz : (w.alloc (.cells #[.int .i64 m, .int .u16 s, .int .u64 e] 28)).heap.size = w.heap.size + 1 := by simp
  have hp := rprune_any a len cap l now _ (hI.below hB0)
  have hlen := pruneR_len l now
  have HK := hid (knownL_eq l m s e q now)
  generalize knownL l m s e q now = K at HK ⊢
  generalize pruneR l now = R at hp HK hlen
  obtain ⟨L, er⟩ := R
  simp only at HK hlen
  rw [av]
  go_enter Tryd.func26, Tryd.ntmps26
  go_wp2_with fail
  generalize w.alloc (.cells #[.int .i64 m, .int .u16 s, .int .u64 e] 28) = w1 at *
  with_reducible refine hp.mono ?_
  rintro e1 w2 ⟨v, rfl, hG, hb2⟩
  have hB2 := hB0.trans (hb2.mono hB0.size)
  have hA2 := hA0.below hb2 (by omega)
  have hs2 : w.heap.size < w2.heap.size := by have := hb2.size; omega
  obtain ⟨p, cp, rfl, hI2⟩ := hG.isE (by simp only at hlen ⊢; omega)
  clear hp hG hb2 hA0 hI hB0 hsz
  go_wp2_with fail
  go_loopw [11] (fun t wr => ∃ i : Nat, i ≤ L.length ∧ t = .int .i64 i ∧ Hid (∀ j, j < i → sameF m s e q (L.getD j dE) = false) ∧ Below w2.heap.size w2 wr) (fun t _ => L.length - (intOf t).toNat)
  case atStart => exact ⟨0, Nat.zero_le _, rfl, hid (fun j hj => absurd hj (by omega)), Below.refl _ _⟩
  case round =>
    obtain ⟨i, hi, rfl, hf, hB⟩ := hrel
    have hBr := seq hB2 hB
    by_cases hlt : i < L.length
    · obtain ⟨b, off, rfl, hb, hc⟩ := hI2.some (by omega)
      have hJ := rangeAt_below (hc i hlt) hB hb
      generalize hy : L.getD i dE = y at hJ
      have HY := hid hy
      clear hy hc
      obtain ⟨c0, c1, c2⟩ := (hA2.below hB hs2).cells
      obtain ⟨j0, j1, j2, j3, j4⟩ := el_cells hJ
      have heq := fun W => ad_eql y.m y.s y.e m s e W
      have hsf : Hid (sameF m s e q y = (sameA y.m y.s y.e m s e && decide (y.q = q))) := hid (by unfold sameF sameA; rw [Bool.eq_iff_iff]; simp; omega)
      clear hJ
      generalize hA : sameA y.m y.s y.e m s e = A at heq hsf
      clear hA
      cases A
      · go_wp2_with fail
        go_quiet (fail)
        go_wp2_with fail
        go_roundw
        case rel => exact ⟨i + 1, by omega, by go_num, hid (fun j hj => by
          rcases Nat.lt_or_ge j i with h | h
          · exact hf.out j h
          · obtain rfl : j = i := by omega
            rw [HY.out, hsf.out]; rfl), below_drewN hB _⟩
        case measure => simp [intOf]; omega
      · by_cases hyq : y.q = q
        · go_wp2_with fail
          go_quiet (fail)
          go_wp2_with fail
          go_ret
          refine ⟨ret_bool ?_, below_drewN hBr _⟩
          have h5 := hasF_at i hlt L.length hlt (m := m) (s := s) (e := e) (q := q) (by rw [HY.out, hsf.out]; simp [hyq])
          rw [List.take_length] at h5
          rw [HK.out]; exact h5.symm
        · go_wp2_with fail
          go_quiet (fail)
          go_wp2_with fail
          go_roundw
          case rel => exact ⟨i + 1, by omega, by go_num, hid (fun j hj => by
            rcases Nat.lt_or_ge j i with h | h
            · exact hf.out j h
            · obtain rfl : j = i := by omega
              rw [HY.out, hsf.out]; simp [hyq]), below_drewN hB _⟩
          case measure => simp [intOf]; omega
    · obtain rfl : i = L.length := by omega
      go_wp2_with fail
      go_ret
      refine ⟨ret_bool ?_, hBr⟩
      have h5 := hasF_no L.length (Nat.le_refl _) hf.out
      rw [List.take_length] at h5
      rw [HK.out]; exact h5.symm

theorem seen_part0 (x : Ent) (w : World) : (part 28 (el x).toArray 0).run Tryd.prog w = .ok (av x.m x.s x.e) w := by
  have hs : (sizeOf 28).run Tryd.prog w = .ok 3 w := by
    have h := addr_info
    cases hq : Tryd.prog.info? 28 with
    | none => simp [hq] at h
    | some i => simp [hq] at h; simp [sizeOf, typeInfo, hq, h]
  simp [part, isAgg, run_underlying Tryd.underlying28, hs, el, av]
theorem seen_part1 (x : Ent) (w : World) : (part 5 (el x).toArray 3).run Tryd.prog w = .ok (.int .u8 x.q) w := by
  simp [part, isAgg, run_underlying Tryd.underlying5, el]
theorem seen_part2 (x : Ent) (w : World) : (part 3 (el x).toArray 4).run Tryd.prog w = .ok (.int .i64 x.u) w := by
  simp [part, isAgg, run_underlying Tryd.underlying3, el]
set_option maxRecDepth 100000 in
theorem seen_refl (x : Ent) (w : World) : (Op.equalIn 10000 36 (ev x) (ev x)).run Tryd.prog w = .ok true w := by
  rw [← ev_el, run_equalIn_struct w 9999 36 _ _ (by unfold Program.fieldsOf; simp only [Tryd.underlying36]) (by kernel_rfl)]
  unfold Program.fieldsOf
  simp only [Tryd.underlying36]
  have h0 := ad_equal 9997 x.m x.s x.e x.m x.s x.e w
  have h1 := run_equalIn_int w 9998 5 .u8 _ x.q x.q Tryd.underlying5
  have h2 := run_equalIn_int w 9998 3 .i64 _ x.u x.u Tryd.underlying3
  rw [show 9997 + 2 = 9999 from rfl, show sameA x.m x.s x.e x.m x.s x.e = true from by simp [sameA]] at h0
  rw [show 9998 + 1 = 9999 from rfl, beq_self_eq_true] at h1 h2
  simp only [Op.eqFields]
  rw [if_pos (by decide)]
  rw [Sem.run_bind, seen_part0, Result.andThen_ok, Sem.run_bind, seen_part0, Result.andThen_ok, Sem.run_bind, h0, Result.andThen_ok]
  rw [if_neg (by decide), if_pos (by decide)]
  rw [Sem.run_bind, seen_part1, Result.andThen_ok, Sem.run_bind, seen_part1, Result.andThen_ok, Sem.run_bind, h1, Result.andThen_ok]
  rw [if_neg (by decide), if_pos (by decide)]
  rw [Sem.run_bind, seen_part2, Result.andThen_ok, Sem.run_bind, seen_part2, Result.andThen_ok, Sem.run_bind, h2, Result.andThen_ok]
  rw [if_neg (by decide)]
  rfl
theorem seen_neq (x : Ent) (w : World) : (binOp .neq 36 (.agg #[.int .i64 x.m, .int .u16 x.s, .int .u64 x.e, .int .u8 x.q, .int .i64 x.u]) (.agg #[.int .i64 x.m, .int .u16 x.s, .int .u64 x.e, .int .u8 x.q, .int .i64 x.u])).run Tryd.prog w = .ok (.bool false) w := by
  have h := seen_refl x w
  unfold ev at h
  rw [run_neq_struct, h]; rfl

set_option maxHeartbeats 8000000 in
set_option maxRecDepth 100000 in
theorem rsame7_any (a a' : Option Addr) (len cap cap' : Nat) (l : List Ent) (w : World) (hI : IsE w a len cap l) (hJ : IsE w a' len cap' l) :
    Calls Tryd.prog 18 #[.slice a len cap, .slice a' len cap'] w (RetS (.bool true) w) := by
  have hle := hI.le
  have hmx := hI.max
  have hle' := hJ.le
  go_enter Tryd.func18, Tryd.ntmps18
  go_wp2_with fail
  go_loopw [5] (fun t wr => ∃ i : Nat, i ≤ len ∧ t = .int .i64 i ∧ Below w.heap.size w wr) (fun t _ => len - (intOf t).toNat)
  case atStart => exact ⟨0, Nat.zero_le _, rfl, Below.refl _ _⟩
  case round =>
    obtain ⟨i, hi, rfl, hB⟩ := hrel
    by_cases hlt : i < len
    · obtain ⟨b, off, rfl, hb, hc⟩ := hI.some (by omega)
      obtain ⟨b', off', rfl, hb', hc'⟩ := hJ.some (by omega)
      have hK := rangeAt_below (hc i hlt) hB hb
      have hL := rangeAt_below (hc' i hlt) hB hb'
      generalize l.getD i dE = x at hK hL
      obtain ⟨k0, k1, k2, k3, k4⟩ := el_cells hK
      obtain ⟨j0, j1, j2, j3, j4⟩ := el_cells hL
      have hne := fun W => seen_neq x W
      clear hK hL hc hc'
      go_wp2_with fail
      go_quiet (fail)
      go_wp2_with fail
      go_roundw
      case rel => exact ⟨i + 1, by omega, by go_num, below_drewN hB _⟩
      case measure => simp [intOf]; omega
    · obtain rfl : i = len := by omega
      go_wp2_with fail
      go_ret
      exact ⟨ret_bool rfl, hB⟩
end Go.Proofs.YtcmpdpcncjggkaaDoor
