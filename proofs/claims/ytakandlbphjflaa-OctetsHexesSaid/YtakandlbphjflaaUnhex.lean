import Derived.Test.YtakandlbphjflaaDigit
namespace Go.Proofs.Ytakandlbphjflaa
open Go.RowKit

/-- the byte of the digits 2j and 2j + 1 -/
def pairB (l : List UInt8) (j : Nat) : UInt8 := UInt8.ofNat (16 * digV (l.getD (2 * j) 0).toNat + digV (l.getD (2 * j + 1) 0).toNat)
def pairsL (l : List UInt8) (n : Nat) : List UInt8 := (List.range n).map (pairB l)
theorem length_pairsL (l : List UInt8) (n : Nat) : (pairsL l n).length = n := by simp [pairsL]
theorem pairsL_succ (l : List UInt8) (n : Nat) : pairsL l (n + 1) = pairsL l n ++ [pairB l n] := by simp [pairsL, List.range_succ]

/-- promise 1.6: the texts that Unhex reads -/
def unOk (l : List UInt8) : Bool := l.length % 2 == 0 && l.all (fun c => isDig c.toNat)

/-- what the loop has made behind i digits -/
def unTo (l : List UInt8) (n : Nat) : Nat → List UInt8
  | 0 => zeros n
  | i + 1 => (unTo l n i).set (i / 2) (UInt8.ofNat (((unTo l n i).getD (i / 2) 0).toNat * 16 % 256 ||| digV (l.getD i 0).toNat))

theorem length_unTo (l : List UInt8) (n : Nat) : ∀ i, (unTo l n i).length = n
  | 0 => length_zeros n
  | i + 1 => by rw [unTo, List.length_set, length_unTo l n i]

theorem unTo_even (l : List UInt8) (n : Nat) : ∀ k, k ≤ n → unTo l n (2 * k) = pairsL l k ++ zeros (n - k)
  | 0, _ => by simp [unTo, pairsL]
  | k + 1, h => by
    have ih := unTo_even l n k (by omega)
    have hz : zeros (n - k) = 0 :: zeros (n - (k + 1)) := by
      rw [show n - k = (n - (k + 1)) + 1 from by omega]; simp [zeros, List.replicate_succ]
    have d1 := digV_lt (l.getD (2 * k) 0).toNat
    have d2 := digV_lt (l.getD (2 * k + 1) 0).toNat
    have e1 : unTo l n (2 * k + 1) = pairsL l k ++ (UInt8.ofNat (digV (l.getD (2 * k) 0).toNat) :: zeros (n - (k + 1))) := by
      rw [unTo, show 2 * k / 2 = k from by omega, ih, hz]
      have hg : (pairsL l k ++ 0 :: zeros (n - (k + 1))).getD k 0 = 0 := by
        rw [List.getD_eq_getElem?_getD, List.getElem?_append_right (by rw [length_pairsL]; omega), length_pairsL]; simp
      rw [hg, List.set_append_right _ _ (by rw [length_pairsL]; omega), length_pairsL, Nat.sub_self]
      simp
    have e2 : unTo l n (2 * k + 1 + 1) = pairsL l k ++ (pairB l k :: zeros (n - (k + 1))) := by
      rw [unTo, show (2 * k + 1) / 2 = k from by omega, e1]
      have hg : (pairsL l k ++ UInt8.ofNat (digV (l.getD (2 * k) 0).toNat) :: zeros (n - (k + 1))).getD k 0 = UInt8.ofNat (digV (l.getD (2 * k) 0).toNat) := by
        rw [List.getD_eq_getElem?_getD, List.getElem?_append_right (by rw [length_pairsL]; omega), length_pairsL]; simp
      rw [hg, List.set_append_right _ _ (by rw [length_pairsL]; omega), length_pairsL, Nat.sub_self]
      have e3 : (UInt8.ofNat (digV (l.getD (2 * k) 0).toNat)).toNat * 16 % 256 ||| digV (l.getD (2 * k + 1) 0).toNat = 16 * digV (l.getD (2 * k) 0).toNat + digV (l.getD (2 * k + 1) 0).toNat := by
        rw [UInt8.toNat_ofNat', Nat.mod_eq_of_lt (show digV (l.getD (2 * k) 0).toNat < 2 ^ 8 by omega), Nat.mod_eq_of_lt (by omega)]
        have := or_add (digV (l.getD (2 * k) 0).toNat) (digV (l.getD (2 * k + 1) 0).toNat) 4 d2
        rw [show (16 : Nat) = 2 ^ 4 from rfl, this]
        omega
      rw [e3]
      rfl
    rw [show 2 * (k + 1) = 2 * k + 1 + 1 from by omega, e2, pairsL_succ, List.append_assoc]
    rfl

theorem u8_nib (x d : Nat) (hx : x < 256) (hd : d < 16) : Value.int .u8 (bits .or .u8 ((x : Int) * 16 % 256) (d : Int)) = bv (UInt8.ofNat (x * 16 % 256 ||| d)) := by
  have e : (x : Int) * 16 % 256 = ((x * 16 % 256 : Nat) : Int) := by omega
  rw [e, bits_or_u8_nat _ _ (by omega) (by omega), bv]
  have h3 : x * 16 % 256 ||| d < 2 ^ 8 := Nat.or_lt_two_pow (by omega) (by omega)
  rw [UInt8.toNat_ofNat', Nat.mod_eq_of_lt h3]

/-- the post of Unhex -/
def RetUn (l : List UInt8) (w : World) (e : Ending) (w' : World) : Prop :=
  if unOk l then ∃ g, e = .returned (.tuple #[.slice (some ⟨g, 0, none⟩) (l.length / 2) (l.length / 2), .bool true]) ∧ w.heap.size ≤ g ∧ Own w' g (pairsL l (l.length / 2)) ∧ Below w.heap.size w w'
  else e = .returned (.tuple #[.slice none 0 0, .bool false]) ∧ Below w.heap.size w w'

theorem RetUn.no {l : List UInt8} {w w' : World} {e : Ending} (h : unOk l = false) (he : e = .returned (.tuple #[.slice none 0 0, .bool false])) (hb : Below w.heap.size w w') : RetUn l w e w' := by
  unfold RetUn; rw [h]; exact ⟨he, hb⟩

theorem RetUn.yes {l : List UInt8} {w w' : World} {e : Ending} {g : Nat} (h : unOk l = true) (he : e = .returned (.tuple #[.slice (some ⟨g, 0, none⟩) (l.length / 2) (l.length / 2), .bool true])) (hg : w.heap.size ≤ g) (ho : Own w' g (pairsL l (l.length / 2))) (hb : Below w.heap.size w w') : RetUn l w e w' := by
  unfold RetUn; rw [h]; exact ⟨g, he, hg, ho, hb⟩

theorem unOk_no (l : List UInt8) (i : Nat) (h : i < l.length) (hd : isDig (l.getD i 0).toNat = false) : unOk l = false := by
  have hm : l.getD i 0 ∈ l := by
    rw [List.getD_eq_getElem?_getD, List.getElem?_eq_getElem h, Option.getD_some]; exact List.getElem_mem _
  rw [unOk, Bool.and_eq_false_iff]
  refine .inr ?_
  rw [List.all_eq_false]
  exact ⟨_, hm, by rw [hd]; simp⟩

set_option maxHeartbeats 2000000 in
theorem unhex_any (s : ByteArray) (w : World) (hs : s.size ≤ 281474976710656) : Calls Try.prog 21 #[.string s] w (RetUn s.data.toList w) := by
  have hl : s.data.toList.length = s.size := by rw [Array.length_toList]; rfl
  by_cases hodd : s.size % 2 = 0
  · have h2 : ((s.size : Int) % 2 != 0) = false := by simp; omega
    have HODD := hid hodd
    clear hodd
    have hmk := fun u => run_make_bytes ((s.size : Int) / 2) (s.size / 2) (by omega) (by omega) u
    have HL := hid hl
    clear hl
    go_enter Try.func21, Try.ntmps21
    go_wp2
    have hI0 : IterAt ((w.alloc (.cells (row (zeros (s.size / 2))) 5)).iter s 0) (w.heap.size + 1) s 0 := by
      have := IterAt.new (w.alloc (.cells (row (zeros (s.size / 2))) 5)) s
      simpa using this
    have hO0 : Own ((w.alloc (.cells (row (zeros (s.size / 2))) 5)).iter s 0) w.heap.size (unTo s.data.toList (s.size / 2) 0) := (Own.new w (zeros (s.size / 2))).alloc _
    have hB0 : Below w.heap.size w ((w.alloc (.cells (row (zeros (s.size / 2))) 5)).iter s 0) := two_below w _ _
    clear hmk
    go_loopw [5] (fun _ wr => ∃ i : Nat, i ≤ s.size ∧ IterAt wr (w.heap.size + 1) s i ∧ Own wr w.heap.size (unTo s.data.toList (s.size / 2) i) ∧ Hid (∀ j, j < i → isDig (s.data.toList.getD j 0).toNat = true) ∧ Below w.heap.size w wr) (fun _ wr => s.size - posOf wr (w.heap.size + 1))
    case atStart => exact ⟨0, Nat.zero_le _, hI0, hO0, hid (by intro j hj; omega), hB0⟩
    case round =>
      obtain ⟨i, hi, hI, hO, hD, hB⟩ := hrel
      have HI := hid hI
      have HO := hid hO
      clear hI0 hO0 hB0 hI hO
      by_cases hlt : i < s.size
      · have hc : s.data.toList.getD i 0 = s[i] := by
          rw [List.getD_eq_getElem?_getD, List.getElem?_eq_getElem (by rw [HL.out]; exact hlt)]
          simp
          rfl
        have hx := (s[i]).toNat_lt
        have hbig := decode_big s i hlt
        have hlow := decode_low s i hlt
        generalize s[i] = c at *
        have HC := hid hc
        clear hc
        by_cases hlo : c.toNat < 128
        · have HLOW := hid (hlow hlo)
          clear hlow hbig
          by_cases hdig : isDig c.toNat = true
          · have d1 := HO.out.cell (i / 2) (by rw [length_unTo]; have := HODD.out; omega)
            have d2 := HO.out.frozen (i / 2)
            have hb2 : i / 2 < s.size / 2 := by have := HODD.out; omega
            have HB := hid hB
            have HX := hid hx
            clear hx hlo
            go_wp2_with (first | (with_reducible refine wpList_next (o := ⟨some 19, _, _, _, _, _⟩) rfl (.tmp 18) rfl (w.heap.size + 1) rfl s i HI.out hlt c.toNat 1 HLOW.out ?_; intro w2 hI2 hO2; have d3 := (HO.out.only hO2 (by omega)).cell (i / 2) (by rw [length_unTo]; have := HODD.out; omega); have d4 := (HO.out.only hO2 (by omega)).frozen (i / 2)) | (go_at_call 34; refine (digit_any c.toNat _ (by have := HX.out; omega)).mono ?_; rintro e w' ⟨rfl, rfl⟩; rw [hdig]))
            go_roundw
            case rel =>
              have h2 := (HO.out.only hO2 (by omega)).set (i / 2) _ _ (u8_nib ((unTo s.data.toList (s.size / 2) i).getD (i / 2) 0).toNat (digV c.toNat) (UInt8.toNat_lt _) (digV_lt _))
              rw [List.getD_eq_getElem?_getD] at h2
              refine ⟨i + 1, by omega, hI2.out.set_other _ _ (by simp), ?_, hid (fun j hj => ?_), (HB.out.trans (hO2.below (by omega) HB.out.size)).setCell (by simp) _⟩
              · have e : unTo s.data.toList (s.size / 2) (i + 1) = (unTo s.data.toList (s.size / 2) i).set (i / 2) (UInt8.ofNat (((unTo s.data.toList (s.size / 2) i)[i / 2]?.getD 0).toNat * 16 % 256 ||| digV c.toNat)) := by
                  rw [unTo, HC.out, List.getD_eq_getElem?_getD]
                rw [e]
                exact h2
              · by_cases hj2 : j = i
                · rw [hj2, HC.out]; exact hdig
                · exact hD.out j (by omega)
            case measure =>
              rw [posOf_at (hI2.out.set_other _ _ (by simp)), posOf_at HI.out]
              omega
          · have hdig' : isDig c.toNat = false := by simpa using hdig
            have hno := unOk_no s.data.toList i (by rw [HL.out]; exact hlt) (by rw [HC.out]; exact hdig')
            have HNO := hid hno
            have HX := hid hx
            clear hno hdig hx hlo
            go_wp2_with (first | (with_reducible refine wpList_next (o := ⟨some 19, _, _, _, _, _⟩) rfl (.tmp 18) rfl (w.heap.size + 1) rfl s i HI.out hlt c.toNat 1 HLOW.out ?_; intro w2 hI2 hO2) | (go_at_call 34; refine (digit_any c.toNat _ (by have := HX.out; omega)).mono ?_; rintro e w' ⟨rfl, rfl⟩; rw [hdig']))
            go_ret2
            exact RetUn.no HNO.out rfl (hB.trans (hO2.below (by omega) hB.size))
        · obtain ⟨b1, b2⟩ := hbig (by omega)
          have hdig' : isDig c.toNat = false := by simp [isDig]; omega
          have hdig2 : isDig (Utf8.decode s i).1 = false := by simp [isDig]; omega
          have hno := unOk_no s.data.toList i (by rw [HL.out]; exact hlt) (by rw [HC.out]; exact hdig')
          have HNO := hid hno
          generalize hdec : Utf8.decode s i = dec at *
          obtain ⟨r, n⟩ := dec
          have HDEC := hid hdec
          simp only at b1 b2 hdig2
          clear hno hlow hx hlo hdec hdig'
          go_wp2_with (first | (with_reducible refine wpList_next (o := ⟨some 19, _, _, _, _, _⟩) rfl (.tmp 18) rfl (w.heap.size + 1) rfl s i HI.out hlt r n HDEC.out ?_; intro w2 hI2 hO2) | (go_at_call 34; refine (digit_any r _ (by omega)).mono ?_; rintro e w' ⟨rfl, rfl⟩; rw [hdig2]))
          go_ret2
          exact RetUn.no HNO.out rfl (hB.trans (hO2.below (by omega) hB.size))
      · obtain rfl : i = s.size := by omega
        go_wp2_with (with_reducible refine wpList_next_end (o := ⟨some 19, _, _, _, _, _⟩) rfl (.tmp 18) rfl (w.heap.size + 1) rfl s s.size HI.out hlt ?_)
        go_ret2
        have hyes : unOk s.data.toList = true := by
          simp only [unOk, Bool.and_eq_true, beq_iff_eq, List.all_eq_true]
          refine ⟨by rw [HL.out]; exact HODD.out, fun c hc => ?_⟩
          obtain ⟨j, hj, rfl⟩ := List.getElem_of_mem hc
          have := hD.out j (by rw [← HL.out]; exact hj)
          rwa [List.getD_eq_getElem?_getD, List.getElem?_eq_getElem hj, Option.getD_some] at this
        have hfin := HO.out
        have e2 : s.size = 2 * (s.size / 2) := by have := HODD.out; omega
        have e3 : unTo s.data.toList (s.size / 2) s.size = pairsL s.data.toList (s.size / 2) := by
          have h := unTo_even s.data.toList (s.size / 2) (s.size / 2) (Nat.le_refl _)
          rw [← e2, Nat.sub_self] at h
          rw [h]; simp [zeros]
        rw [e3] at hfin
        exact RetUn.yes (g := w.heap.size) hyes (by rw [HL.out]; rfl) (Nat.le_refl _) (by rw [HL.out]; exact hfin) hB
  · have h2 : ((s.size : Int) % 2 != 0) = true := by simp; omega
    have hno : unOk s.data.toList = false := by simp [unOk, hl]; omega
    have HNO := hid hno
    clear hodd hno hl
    go_enter Try.func21, Try.ntmps21
    go_wp2
    go_ret2
    exact RetUn.no HNO.out rfl (Below.refl _ _)
end Go.Proofs.Ytakandlbphjflaa
