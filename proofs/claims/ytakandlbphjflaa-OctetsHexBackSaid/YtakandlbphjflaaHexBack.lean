import Derived.Test.YtakandlbphjflaaUnhex
import Derived.Test.YtakandlbphjflaaSame
import Derived.Test.YtakandlbphjflaaKnown01
namespace Go.Proofs.Ytakandlbphjflaa
open Go.RowKit

theorem dig_hexD (n : Nat) (h : n < 16) : isDig (hexD n).toNat = true ∧ digV (hexD n).toNat = n := by
  rcases (by omega : n = 0 ∨ n = 1 ∨ n = 2 ∨ n = 3 ∨ n = 4 ∨ n = 5 ∨ n = 6 ∨ n = 7 ∨ n = 8 ∨ n = 9 ∨ n = 10 ∨ n = 11 ∨ n = 12 ∨ n = 13 ∨ n = 14 ∨ n = 15) with rfl | rfl | rfl | rfl | rfl | rfl | rfl | rfl | rfl | rfl | rfl | rfl | rfl | rfl | rfl | rfl
  all_goals decide

theorem hexD_dig (c : UInt8) (h : isDig c.toNat = true) : hexD (digV c.toNat) = c := by
  have hc : (48 ≤ c.toNat ∧ c.toNat ≤ 57) ∨ (97 ≤ c.toNat ∧ c.toNat ≤ 102) := by simpa [isDig] using h
  apply UInt8.toNat_inj.1
  rcases hc with ⟨h1, h2⟩ | ⟨h1, h2⟩
  · rw [digV, if_pos ⟨h1, h2⟩]
    rcases (by omega : c.toNat = 48 ∨ c.toNat = 49 ∨ c.toNat = 50 ∨ c.toNat = 51 ∨ c.toNat = 52 ∨ c.toNat = 53 ∨ c.toNat = 54 ∨ c.toNat = 55 ∨ c.toNat = 56 ∨ c.toNat = 57) with h | h | h | h | h | h | h | h | h | h
    all_goals (rw [h]; rfl)
  · rw [digV, if_neg (by omega), if_pos ⟨h1, h2⟩]
    rcases (by omega : c.toNat = 97 ∨ c.toNat = 98 ∨ c.toNat = 99 ∨ c.toNat = 100 ∨ c.toNat = 101 ∨ c.toNat = 102) with h | h | h | h | h | h
    all_goals (rw [h]; rfl)

theorem hexL_cons (x : UInt8) (l : List UInt8) : hexL (x :: l) = hexD (x.toNat / 16) :: hexD (x.toNat % 16) :: hexL l := by simp [hexL]

theorem unOk_hexL (l : List UInt8) : unOk (hexL l) = true := by
  simp only [unOk, length_hexL, Bool.and_eq_true, beq_iff_eq, List.all_eq_true]
  refine ⟨by omega, fun c hc => ?_⟩
  simp only [hexL, List.mem_flatMap, List.mem_cons, List.not_mem_nil, or_false] at hc
  obtain ⟨x, _, rfl | rfl⟩ := hc
  · exact (dig_hexD _ (by have := x.toNat_lt; omega)).1
  · exact (dig_hexD _ (by omega)).1

theorem pairB_cons (a b : UInt8) (l : List UInt8) (j : Nat) : pairB (a :: b :: l) (j + 1) = pairB l j := by
  simp [pairB, show 2 * (j + 1) = 2 * j + 1 + 1 from by omega]

theorem pairsL_cons (a b : UInt8) (l : List UInt8) (n : Nat) : pairsL (a :: b :: l) (n + 1) = UInt8.ofNat (16 * digV a.toNat + digV b.toNat) :: pairsL l n := by
  simp only [pairsL, List.range_succ_eq_map, List.map_cons, List.map_map]
  have e : pairB (a :: b :: l) ∘ Nat.succ = pairB l := funext fun j => pairB_cons a b l j
  rw [e]
  rfl

theorem pairs_hexL : ∀ l : List UInt8, pairsL (hexL l) l.length = l
  | [] => rfl
  | x :: l => by
    have hx := x.toNat_lt
    rw [hexL_cons, List.length_cons, pairsL_cons, pairs_hexL l, (dig_hexD _ (by omega)).2, (dig_hexD _ (by omega)).2]
    congr 1
    apply UInt8.toNat_inj.1
    rw [UInt8.toNat_ofNat', show 16 * (x.toNat / 16) + x.toNat % 16 = x.toNat from by omega, Nat.mod_eq_of_lt hx]

theorem hexL_pairs : ∀ (n : Nat) (l : List UInt8), l.length = 2 * n → (∀ c ∈ l, isDig c.toNat = true) → hexL (pairsL l n) = l
  | 0, [], _, _ => rfl
  | n + 1, a :: b :: l, h, hd => by
    have h1 := digV_lt a.toNat
    have h2 := digV_lt b.toNat
    rw [pairsL_cons, hexL_cons, hexL_pairs n l (by simp at h; omega) (fun c hc => hd c (by simp [hc])), UInt8.toNat_ofNat', Nat.mod_eq_of_lt (by omega),
      show (16 * digV a.toNat + digV b.toNat) / 16 = digV a.toNat from by omega, show (16 * digV a.toNat + digV b.toNat) % 16 = digV b.toNat from by omega,
      hexD_dig a (hd a (by simp)), hexD_dig b (hd b (by simp))]
  | 0, _ :: _, h, _ => by simp at h
  | _ + 1, [], h, _ => by simp at h <;> omega
  | _ + 1, [_], h, _ => by simp at h <;> omega

theorem hexL_un (l : List UInt8) (h : unOk l = true) : hexL (pairsL l (l.length / 2)) = l := by
  simp only [unOk, Bool.and_eq_true, beq_iff_eq, List.all_eq_true] at h
  exact hexL_pairs _ _ (by omega) h.2

set_option maxHeartbeats 2000000 in
theorem hexback_walk (a : Option Addr) (len cap : Nat) (l : List UInt8) (s : ByteArray) (w : World) (hb : IsB w a len cap l) (hcap : cap ≤ 140737488351232) (hs : s.size ≤ 140737488351232) :
    Calls Try.prog 8 #[.slice a len cap, .string s] w (RetS (.bool true) w) := by
  have hle := hb.le
  have hl := hid hb.length
  have hsz : s.data.toList.length = s.size := by rw [Array.length_toList]; rfl
  have HSZ := hid hsz
  clear hsz
  go_enter Try.func8, Try.ntmps8
  go_wp2_with fail
  refine (hex_any a len cap l _ hb (by omega)).mono ?_
  rintro e w1 ⟨rfl, hB1⟩
  go_wp2_with fail
  refine (unhex_any ⟨(hexL l).toArray⟩ _ (by show (hexL l).toArray.size ≤ _; rw [List.size_toArray, length_hexL, hl.out]; omega)).mono ?_
  rintro e w2 h2
  have hdl : (⟨(hexL l).toArray⟩ : ByteArray).data.toList = hexL l := rfl
  rw [hdl] at h2
  unfold RetUn at h2
  rw [unOk_hexL, if_pos rfl, length_hexL, hl.out, show 2 * len / 2 = len from by omega] at h2
  have hpl : pairsL (hexL l) len = l := by have := pairs_hexL l; rwa [hl.out] at this
  rw [hpl] at h2
  obtain ⟨g, rfl, hg, hO, hB2⟩ := h2
  have B2 := seq hB1 hB2
  have J2 := hO.isB (by rw [hl.out]; omega)
  rw [hl.out] at J2
  have hO2 := hid hO
  clear hdl hpl hO hB2
  go_wp2_with fail
  refine (unhex_any s _ (by omega)).mono ?_
  rintro e w3 h3
  unfold RetUn at h3
  cases hok : unOk s.data.toList
  · rw [hok] at h3
    obtain ⟨rfl, hB3⟩ := h3
    have B3 := seq B2 hB3
    have J3 := J2.below hB3
    clear hok
    go_wp2_with fail
    refine (known_any _).mono ?_
    rintro e w4 ⟨rfl, hB4⟩
    have B4 := seq B3 hB4
    go_wp2_with fail
    refine (same_any _ len len l a len cap l _ (J3.below hB4) (hb.below B4)).mono ?_
    rintro e w5 ⟨rfl, hB5⟩
    have B5 := seq B4 hB5
    go_wp2
    go_ret
    exact ⟨ret_bool (by simp), B5⟩
  · rw [hok, if_pos rfl, HSZ.out] at h3
    obtain ⟨g3, rfl, hg3, hO3, hB3⟩ := h3
    have B3 := seq B2 hB3
    have J3 := J2.below hB3
    have K3 := hO3.isB (by rw [length_pairsL]; omega)
    rw [length_pairsL] at K3
    have HOK := hid hok
    clear hok hO3
    go_wp2_with fail
    refine (known_any _).mono ?_
    rintro e w4 ⟨rfl, hB4⟩
    have B4 := seq B3 hB4
    go_wp2_with fail
    refine (same_any _ len len l a len cap l _ (J3.below hB4) (hb.below B4)).mono ?_
    rintro e w5 ⟨rfl, hB5⟩
    have B5 := seq B4 hB5
    rw [show (l == l) = true from by simp]
    go_wp2_with fail
    refine (hex_any _ _ _ _ _ ((K3.below hB4).below hB5) (by omega)).mono ?_
    rintro e w6 ⟨rfl, hB6⟩
    have B6 := seq B5 hB6
    have hback : hexL (pairsL s.data.toList (s.size / 2)) = s.data.toList := by have := hexL_un _ HOK.out; rwa [HSZ.out] at this
    rw [hback]
    clear hback
    go_wp2
    go_ret
    exact ⟨rfl, B6⟩
end Go.Proofs.Ytakandlbphjflaa
