/-
  The reference's Time, Later, Valid.
-/
import Derived.Test.YtcmpdpcncjggkaaDoorSpecR
import Derived.Test.YtcmpdpcncjggkaaDoorAdEq
namespace Go.Proofs.YtcmpdpcncjggkaaDoor
open Go.RowKit
set_option linter.unusedSimpArgs false
set_option linter.unusedVariables false

set_option maxHeartbeats 1600000 in
set_option maxRecDepth 100000 in
theorem rtime_any (t : Int) (w : World) : Calls Tryd.prog 37 #[.int .i64 t] w (RetS (.bool (timeB t)) w) := by
  go_enter Tryd.func37, Tryd.ntmps37
  go_wp2
  all_goals go_ret
  all_goals refine ⟨ret_bool ?_, Below.refl _ _⟩
  all_goals (rw [Bool.eq_iff_iff]; simp [timeB]; (try simp only [beq_iff_eq, beq_eq_false_iff_ne, ne_eq] at *); omega)

set_option maxHeartbeats 1600000 in
set_option maxRecDepth 100000 in
theorem rlater_any (now : Int) (w : World) (h0 : 0 ≤ now) (h1 : now ≤ 1099511627776) : Calls Tryd.prog 32 #[.int .i64 now, .int .i64 16] w (RetS (.int .i64 (min (now + 16) 1099511627776)) w) := by
  go_enter Tryd.func32, Tryd.ntmps32
  go_wp2
  all_goals go_ret
  all_goals refine ⟨ret_int ?_, Below.refl _ _⟩
  all_goals omega

theorem rsender_any (m s e : Int) (w : World) : Calls Tryd.prog 31 #[av m s e] w (RetS (.bool (senderB m s e)) w) := rsome_any m s e w

theorem hasF_at {l : List Ent} {m s e q : Int} (j : Nat) (hj : j < l.length) (i : Nat) (hij : j < i) (h : sameF m s e q (l.getD j dE) = true) : hasF (l.take i) m s e q = true := by
  rw [hasF_iff]
  refine ⟨l.getD j dE, ?_, h⟩
  rw [List.getD_eq_getElem?_getD, List.getElem?_eq_getElem hj]
  exact List.mem_iff_getElem.2 ⟨j, by rw [List.length_take]; omega, by simp⟩
theorem hasF_no {l : List Ent} {m s e q : Int} (i : Nat) (hi : i ≤ l.length) (h : ∀ j, j < i → sameF m s e q (l.getD j dE) = false) : hasF (l.take i) m s e q = false := by
  cases hh : hasF (l.take i) m s e q with
  | false => rfl
  | true =>
    obtain ⟨x, hx, hk⟩ := (hasF_iff _ _ _ _ _).1 hh
    obtain ⟨j, hj, rfl⟩ := List.mem_iff_getElem.1 hx
    rw [List.length_take] at hj
    have := h j (by omega)
    rw [List.getD_eq_getElem?_getD, List.getElem?_eq_getElem (by omega)] at this
    simp at hk this
    rw [this] at hk; cases hk

set_option maxHeartbeats 8000000 in
set_option maxRecDepth 100000 in
theorem rvalid7_any (a : Option Addr) (len cap : Nat) (l : List Ent) (w : World) (hI : IsE w a len cap l) :
    Calls Tryd.prog 25 #[.slice a len cap] w (RetS (.bool (validL l)) w) := by
  have hle := hI.le
  have hmx := hI.max
  have hl := hid hI.length
  by_cases hbig : 32 < len
  · go_enter Tryd.func25, Tryd.ntmps25
    go_wp2_with fail
    go_ret
    exact ⟨ret_bool (by unfold validL; rw [hl.out]; simp; omega), Below.refl _ _⟩
  · go_enter Tryd.func25, Tryd.ntmps25
    go_wp2_with fail
    go_loopw [3] (fun t wr => ∃ i : Nat, i ≤ len ∧ t = .int .i64 i ∧ Hid (okTo l i = true) ∧ Below w.heap.size w wr) (fun t _ => len - (intOf t).toNat)
    case atStart => exact ⟨0, Nat.zero_le _, rfl, hid rfl, Below.refl _ _⟩
    case round =>
      obtain ⟨i, hi, rfl, hf, hB⟩ := hrel
      by_cases hlt : i < len
      · obtain ⟨b, off, rfl, hb, hc⟩ := hI.some (by omega)
        have hOA : Hid (okAt l i = (senderB (l.getD i dE).m (l.getD i dE).s (l.getD i dE).e && (timeB (l.getD i dE).u && !hasF (l.take i) (l.getD i dE).m (l.getD i dE).s (l.getD i dE).e (l.getD i dE).q))) := hid rfl
        have hcc := hid hc
        have hK := rangeAt_below (hc i hlt) hB hb
        have hKi := hc i hlt
        generalize l.getD i dE = x at hK hOA hKi
        clear hc
        obtain ⟨k0, k1, k2, k3, k4⟩ := el_cells hK
        have hsn := rsender_any x.m x.s x.e
        have htm := rtime_any x.u
        simp only [av] at hsn
        generalize hSB : senderB x.m x.s x.e = SB at hsn hOA
        generalize hTB : timeB x.u = TB at htm hOA
        clear hSB hTB
        go_wp2_with fail
        with_reducible refine (hsn _).mono ?_
        rintro e2 w2 ⟨rfl, hb2⟩
        have hB2 := seq hB hb2
        have hK2 := rangeAt_below hK hb2 (Nat.lt_of_lt_of_le hb hB.size)
        clear k0 k1 k2 k3 k4 hb2 hB hsn hK
        obtain ⟨k0, k1, k2, k3, k4⟩ := el_cells hK2
        cases SB
        · go_wp2_with fail
          go_ret
          exact ⟨ret_bool (valid_bad l i (by rw [hl.out]; exact hlt) (by rw [hOA.out]; rfl)).symm, hB2⟩
        · go_wp2_with fail
          with_reducible refine (htm _).mono ?_
          rintro e3 w3 ⟨rfl, hb3⟩
          have hB3 := seq hB2 hb3
          clear k0 k1 k2 k3 k4 hb3 hB2 htm hK2
          cases TB
          · go_wp2_with fail
            go_ret
            exact ⟨ret_bool (valid_bad l i (by rw [hl.out]; exact hlt) (by rw [hOA.out]; rfl)).symm, hB3⟩
          · go_wp2_with fail
            go_loopw [4] (fun t wr => ∃ k : Nat, k ≤ i ∧ t = .int .i64 k ∧ Hid (∀ j, j < k → sameF x.m x.s x.e x.q (l.getD j dE) = false) ∧ Below w3.heap.size w3 wr) (fun t _ => i - (intOf t).toNat)
            case atStart => exact ⟨0, Nat.zero_le _, rfl, hid (fun j hj => absurd hj (by omega)), Below.refl _ _⟩
            case round =>
              obtain ⟨k, hk, rfl, hf2, hB4⟩ := hrel
              have hBr := seq hB3 hB4
              by_cases hki : k < i
              · have hK := rangeAt_below hKi hBr hb
                have hJ := rangeAt_below (hcc.out k (by omega)) hBr hb
                generalize hy : l.getD k dE = y at hJ
                have HY := hid hy
                clear hy
                obtain ⟨k0, k1, k2, k3, k4⟩ := el_cells hK
                obtain ⟨j0, j1, j2, j3, j4⟩ := el_cells hJ
                have heq := fun W => ad_eql y.m y.s y.e x.m x.s x.e W
                have hsf : Hid (sameF x.m x.s x.e x.q y = (sameA y.m y.s y.e x.m x.s x.e && decide (y.q = x.q))) := hid (by unfold sameF sameA; rw [Bool.eq_iff_iff]; simp; omega)
                clear hK hJ
                generalize hA : sameA y.m y.s y.e x.m x.s x.e = A at heq hsf
                clear hA
                cases A
                · go_wp2_with fail
                  go_quiet (fail)
                  go_wp2_with fail
                  go_roundw
                  case rel => exact ⟨k + 1, by omega, by go_num, hid (fun j hj => by
                    rcases Nat.lt_or_ge j k with h | h
                    · exact hf2.out j h
                    · obtain rfl : j = k := by omega
                      rw [HY.out, hsf.out]; rfl), below_drewN hB4 _⟩
                  case measure => simp [intOf]; omega
                · by_cases hyq : y.q = x.q
                  · go_wp2_with fail
                    go_quiet (fail)
                    go_wp2_with fail
                    go_ret
                    exact ⟨ret_bool (valid_bad l i (by rw [hl.out]; exact hlt) (by rw [hOA.out, hasF_at k (by rw [hl.out]; omega) i hki (by rw [HY.out, hsf.out]; simp [hyq])]; rfl)).symm, below_drewN hBr _⟩
                  · go_wp2_with fail
                    go_quiet (fail)
                    go_wp2_with fail
                    go_roundw
                    case rel => exact ⟨k + 1, by omega, by go_num, hid (fun j hj => by
                      rcases Nat.lt_or_ge j k with h | h
                      · exact hf2.out j h
                      · obtain rfl : j = k := by omega
                        rw [HY.out, hsf.out]; simp [hyq]), below_drewN hB4 _⟩
                    case measure => simp [intOf]; omega
              · obtain rfl : k = i := by omega
                go_wp2_with fail
                go_roundw
                case rel => exact ⟨k + 1, by omega, by go_num, hid (by rw [okTo_succ, hf.out, hOA.out, hasF_no k (by rw [hl.out]; omega) hf2.out]; rfl), hBr⟩
                case measure => simp [intOf]; omega
      · obtain rfl : i = len := by omega
        go_wp2_with fail
        go_ret
        exact ⟨ret_bool (by unfold validL; rw [hl.out, hf.out]; simp; omega), hB⟩
end Go.Proofs.YtcmpdpcncjggkaaDoor
