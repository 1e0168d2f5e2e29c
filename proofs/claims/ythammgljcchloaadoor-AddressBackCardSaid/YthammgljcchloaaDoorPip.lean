/-
  ParseIP: an address out of a text.
-/
import Derived.Test.YthammgljcchloaaDoorRgs
import Derived.Test.YthammgljcchloaaDoorIpCopy
namespace Go.Proofs.YthammgljcchloaaDoor
open Go.RowKit

abbrev colons : ByteArray := ⟨#[58, 58]⟩
def joinIP (found : Bool) : Option (List UInt8) → Option (List UInt8) → Option (List UInt8)
  | some h, some t => if 16 < h.length + t.length ∨ decide (h.length + t.length < 16) ≠ found then none else some (h ++ zeros (16 - h.length - t.length) ++ t)
  | _, _ => none
theorem join_bad (f : Bool) (h t : List UInt8) (hb : 16 < h.length + t.length ∨ decide (h.length + t.length < 16) ≠ f) : joinIP f (some h) (some t) = none := if_pos hb
theorem join_good (f : Bool) (h t : List UInt8) (hb : ¬ (16 < h.length + t.length ∨ decide (h.length + t.length < 16) ≠ f)) : joinIP f (some h) (some t) = some (h ++ zeros (16 - h.length - t.length) ++ t) := if_neg hb
def parseIP (s : ByteArray) : Option (List UInt8) :=
  let c := Lib.cut s.data.toList [58, 58]
  joinIP c.2.2 (rgs ⟨c.1.toArray⟩) (rgs ⟨c.2.1.toArray⟩)

theorem two_eq (l1 l2 : List UInt8) (m n : Nat) (h : l1.length = m ∧ l2.length = n) (hs : m + n ≤ 16) : splice (splice (zeros 16) 0 l1) (16 - n) l2 = l1 ++ zeros (16 - m - n) ++ l2 := by
  obtain ⟨rfl, rfl⟩ := h
  have e1 : splice (zeros 16) 0 l1 = l1 ++ zeros (16 - l1.length) := by
    unfold splice zeros
    rw [List.drop_replicate, List.take_zero, List.nil_append, Nat.zero_add]
  rw [e1]
  unfold splice
  have e2 : (l1 ++ zeros (16 - l1.length)).drop (16 - l2.length + l2.length) = [] := List.drop_eq_nil_of_le (by rw [List.length_append, length_zeros]; omega)
  rw [e2, List.append_nil, List.take_append, List.take_of_length_le (show l1.length ≤ 16 - l2.length by omega)]
  congr 2
  simp [zeros]
  omega
theorem len_two (l1 l2 : List UInt8) (m n : Nat) (h : l1.length = m ∧ l2.length = n) (hs : m + n ≤ 16) : (splice (splice (zeros 16) 0 l1) (16 - n) l2).length = 16 := by
  rw [two_eq l1 l2 m n h hs]
  obtain ⟨rfl, rfl⟩ := h
  simp [zeros]; omega

def PipP (s : ByteArray) (w : World) (e : Ending) (w' : World) : Prop :=
  ((∃ l, parseIP s = some l ∧ l.length = 16 ∧ e = .returned (.tuple #[iv l, .bool true])) ∨ (parseIP s = none ∧ e = .returned (.tuple #[iv (zeros 16), .bool false]))) ∧ Below w.heap.size w w'

set_option maxHeartbeats 3200000 in
set_option maxRecDepth 100000 in
theorem parse_ip (s : ByteArray) (w : World) (hs : s.size < 4294967281) (G : GL w) :
    Calls Tryd.prog 10 #[.string s] w (PipP s w) := by
  obtain ⟨m, hm⟩ := G.m
  have hcut := fun w hm => Tryd.strings_Cut s colons m w hs hm
  obtain ⟨x, y, f, hx⟩ : ∃ x y f, Lib.cut s.data.toList [58, 58] = (x, y, f) := ⟨_, _, _, rfl⟩
  have hp : parseIP s = joinIP f (rgs ⟨x.toArray⟩) (rgs ⟨y.toArray⟩) := by unfold parseIP; rw [hx]
  have hxs : x.length ≤ s.size ∧ y.length ≤ s.size := by
    rw [← size_list]
    unfold Lib.cut at hx
    split at hx
    · simp only [Prod.mk.injEq] at hx; obtain ⟨rfl, rfl, rfl⟩ := hx; simp; omega
    · simp only [Prod.mk.injEq] at hx; obtain ⟨rfl, rfl, rfl⟩ := hx; simp
  simp only [colons, hx] at hcut
  have hz := hid hxs
  clear hx hxs
  go_enter Tryd.func10, Tryd.ntmps10
  go_wp2_with fail
  change Calls _ _ _ (w.alloc (.cells (row (zeros 16)) 23)) _
  have I1 := Ik.new w (zeros 16)
  have B1 : Below w.heap.size w (w.alloc (.cells (row (zeros 16)) 23)) := (Below.refl _ _).alloc (Nat.le_refl _) _
  have S1 : (w.alloc (.cells (row (zeros 16)) 23)).heap.size = w.heap.size + 1 := by simp
  generalize w.alloc (.cells (row (zeros 16)) 23) = w1 at I1 B1 S1 ⊢
  have G1 := G.on B1
  with_reducible refine (hcut w1 ((B1.cell (p := ⟨0, 0, none⟩) (by have := G.big; simp; omega)).trans hm)).mono ?_
  rintro e w2 ⟨rfl, n, hw2⟩
  have B2 : Below w1.heap.size w1 w2 := by rw [hw2]; exact below_drewN (Below.refl _ _) _
  clear hw2 hcut
  have G2 := G1.on B2
  go_wp2_with fail
  with_reducible refine (read_groups ⟨x.toArray⟩ w2 (by have := hz.out.1; simp [ByteArray.size]; omega) G2).mono ?_
  rintro e w3 ⟨h3, B3⟩
  have G3 := G2.on B3
  have h4 := fun w4 (B : Below w3.heap.size w3 w4) => read_groups ⟨y.toArray⟩ w4 (by have := hz.out.2; simp [ByteArray.size]; omega) (G3.on B)
  have I3 := (I1.below B2 I1.lt).below B3 (Nat.lt_of_lt_of_le I1.lt B2.size)
  have B03 := B1.trans ((B2.trans (B3.mono B2.size)).mono B1.size)
  have L3 : w.heap.size < w3.heap.size := by have := B2.size; have := B3.size; omega
  clear B1 S1 I1 B2 B3 G1 G2 G3 hm
  rcases h3 with ⟨a1, len1, cap1, l1, hr1, rfl, hI1, hl1⟩ | ⟨hr1, rfl⟩
  · go_wp2_with fail
    with_reducible refine (h4 w3 (Below.refl _ _)).mono ?_
    rintro e w4 ⟨⟨a2, len2, cap2, l2, hr2, rfl, hI2, hl2⟩ | ⟨hr2, rfl⟩, B4⟩
    · have I4 := I3.below B4 L3
      have B04 := B03.trans (B4.mono B03.size)
      have L4 : w.heap.size < w4.heap.size := by have := B4.size; omega
      have hI1' := hI1.below B4
      have hll := hid (And.intro hI1.length hI2.length)
      clear h4 hI1
      cases f
      · by_cases hbad : len1 + len2 = 16
        · have hj : parseIP s = some (l1 ++ zeros (16 - len1 - len2) ++ l2) := by
            rw [hp, hr1, hr2, join_good _ _ _ (by rw [hll.out.1, hll.out.2]; simp; omega), hll.out.1, hll.out.2]
          have q1 : decide ((len2 : Int) < 16 - (len1 : Int)) = false := by simp; omega
          obtain ⟨P, hP, hrun⟩ := slice_ip w4.heap.size (16 - len2) (by omega) ((len1 : Int) + (16 - (len1 : Int) - (len2 : Int))) (by omega)
          have hle : (16 - (16 - len2) : Nat) = len2 := by omega
          rw [hle] at hrun
          go_wp2_with (first
            | (with_reducible refine wpList_copy_ip (o := ⟨some 54, _, _, _, _, _⟩) rfl (.tmp 52) (.tmp 53) rfl w4.heap.size 0 16 16 a1 len1 cap1 (some ⟨w4.heap.size, 0, none⟩) rfl (fun _ => rfl) rfl (zeros 16) l1 (Ik.lit w4) (hI1'.below ((Below.refl _ _).alloc (Nat.le_refl _) _)) (by omega) (by rw [length_zeros]; omega) w4.heap.size w4 ((Below.refl _ _).alloc (Nat.le_refl _) _) (Nat.le_refl _) ?_; intro w5 K5 B5; have K5o := K5.out; have hI2' := hI2.below B5)
            | (with_reducible refine wpList_copy_ip (o := ⟨some 61, _, _, _, _, _⟩) rfl (.tmp 59) (.tmp 60) rfl w4.heap.size (16 - len2) len2 len2 a2 len2 cap2 P rfl (fun h => hP (by omega)) rfl _ l2 K5o hI2' (by omega) (by rw [length_splice _ _ _ (by rw [length_zeros]; have := hll.out; omega), length_zeros]; omega) w4.heap.size w4 B5 (Nat.le_refl _) ?_; intro w6 K6 B6; have K6o := K6.out; have hll6 := len_two l1 l2 len1 len2 hll.out (by omega); have I6 := I4.below B6 L4; have B06 := B04.trans (B6.mono B04.size))
            | (with_reducible refine wpList_load_ip (op := ⟨some 62, _, _, _, _, _⟩) rfl (.tmp 11) rfl rfl K6o hll6 ?_)
            | (with_reducible refine wpList_store_ip (op := ⟨none, _, _, _, _, _⟩) rfl (.tmp 2) (.tmp 62) rfl rfl rfl I6 (length_zeros 16) hll6 w.heap.size w B06 (Nat.le_refl _) ?_; intro w7 hR7 hB7))
          all_goals first | (exfalso; omega) | exact bodyPost_ret (results_ip2 rfl rfl hR7.out hll6) rfl ⟨Or.inl ⟨_, hj.trans (by rw [two_eq _ _ _ _ hll.out (by omega)]), hll6, rfl⟩, hB7⟩ | skip
        · have hj : parseIP s = none := by
            rw [hp, hr1, hr2]; refine join_bad _ _ _ ?_; rw [hll.out.1, hll.out.2]; simp; omega
          go_wp2_with (with_reducible refine wpList_store_ip0 (op := ⟨none, _, _, _, _, _⟩) rfl (.tmp 2) (.tmp 51) rfl rfl rfl (I4.below ((Below.refl _ _).alloc (Nat.le_refl _) _) L4) (length_zeros 16) w.heap.size w (B04.alloc (by omega) _) (Nat.le_refl _) ?_; intro w7 hR7 hB7)
          all_goals first | (exfalso; omega) | exact bodyPost_ret (results_ip2 rfl rfl hR7.out (length_zeros 16)) rfl ⟨Or.inr ⟨hj, rfl⟩, hB7⟩ | skip
      · by_cases hbad : len1 + len2 < 16
        · have hj : parseIP s = some (l1 ++ zeros (16 - len1 - len2) ++ l2) := by
            rw [hp, hr1, hr2, join_good _ _ _ (by rw [hll.out.1, hll.out.2]; simp; omega), hll.out.1, hll.out.2]
          have q1 : decide ((len2 : Int) < 16 - (len1 : Int)) = true := by simp; omega
          obtain ⟨P, hP, hrun⟩ := slice_ip w4.heap.size (16 - len2) (by omega) ((len1 : Int) + (16 - (len1 : Int) - (len2 : Int))) (by omega)
          have hle : (16 - (16 - len2) : Nat) = len2 := by omega
          rw [hle] at hrun
          go_wp2_with (first
            | (with_reducible refine wpList_copy_ip (o := ⟨some 54, _, _, _, _, _⟩) rfl (.tmp 52) (.tmp 53) rfl w4.heap.size 0 16 16 a1 len1 cap1 (some ⟨w4.heap.size, 0, none⟩) rfl (fun _ => rfl) rfl (zeros 16) l1 (Ik.lit w4) (hI1'.below ((Below.refl _ _).alloc (Nat.le_refl _) _)) (by omega) (by rw [length_zeros]; omega) w4.heap.size w4 ((Below.refl _ _).alloc (Nat.le_refl _) _) (Nat.le_refl _) ?_; intro w5 K5 B5; have K5o := K5.out; have hI2' := hI2.below B5)
            | (with_reducible refine wpList_copy_ip (o := ⟨some 61, _, _, _, _, _⟩) rfl (.tmp 59) (.tmp 60) rfl w4.heap.size (16 - len2) len2 len2 a2 len2 cap2 P rfl (fun h => hP (by omega)) rfl _ l2 K5o hI2' (by omega) (by rw [length_splice _ _ _ (by rw [length_zeros]; have := hll.out; omega), length_zeros]; omega) w4.heap.size w4 B5 (Nat.le_refl _) ?_; intro w6 K6 B6; have K6o := K6.out; have hll6 := len_two l1 l2 len1 len2 hll.out (by omega); have I6 := I4.below B6 L4; have B06 := B04.trans (B6.mono B04.size))
            | (with_reducible refine wpList_load_ip (op := ⟨some 62, _, _, _, _, _⟩) rfl (.tmp 11) rfl rfl K6o hll6 ?_)
            | (with_reducible refine wpList_store_ip (op := ⟨none, _, _, _, _, _⟩) rfl (.tmp 2) (.tmp 62) rfl rfl rfl I6 (length_zeros 16) hll6 w.heap.size w B06 (Nat.le_refl _) ?_; intro w7 hR7 hB7))
          all_goals first | (exfalso; omega) | exact bodyPost_ret (results_ip2 rfl rfl hR7.out hll6) rfl ⟨Or.inl ⟨_, hj.trans (by rw [two_eq _ _ _ _ hll.out (by omega)]), hll6, rfl⟩, hB7⟩ | skip
        · have hj : parseIP s = none := by
            rw [hp, hr1, hr2]; refine join_bad _ _ _ ?_; rw [hll.out.1, hll.out.2]; simp; omega
          have q1 : decide ((len2 : Int) < 16 - (len1 : Int)) = false := by simp; omega
          go_wp2_with (with_reducible refine wpList_store_ip0 (op := ⟨none, _, _, _, _, _⟩) rfl (.tmp 2) (.tmp 51) rfl rfl rfl (I4.below ((Below.refl _ _).alloc (Nat.le_refl _) _) L4) (length_zeros 16) w.heap.size w (B04.alloc (by omega) _) (Nat.le_refl _) ?_; intro w7 hR7 hB7)
          all_goals first | (exfalso; omega) | exact bodyPost_ret (results_ip2 rfl rfl hR7.out (length_zeros 16)) rfl ⟨Or.inr ⟨hj, rfl⟩, hB7⟩ | skip
    · have I4 := I3.below B4 L3
      have B04 := B03.trans (B4.mono B03.size)
      have L4 : w.heap.size < w4.heap.size := by have := B4.size; omega
      have hj : parseIP s = none := by rw [hp, hr1, hr2]; rfl
      clear h4 hI1
      go_wp2_with (with_reducible refine wpList_store_ip0 (op := ⟨none, _, _, _, _, _⟩) rfl (.tmp 2) (.tmp 51) rfl rfl rfl (I4.below ((Below.refl _ _).alloc (Nat.le_refl _) _) L4) (length_zeros 16) w.heap.size w (B04.alloc (by omega) _) (Nat.le_refl _) ?_; intro w7 hR7 hB7)
      all_goals first | (exfalso; omega) | exact bodyPost_ret (results_ip2 rfl rfl hR7.out (length_zeros 16)) rfl ⟨Or.inr ⟨hj, rfl⟩, hB7⟩
  · go_wp2_with fail
    with_reducible refine (h4 w3 (Below.refl _ _)).mono ?_
    rintro e w4 ⟨h2, B4⟩
    have hj : parseIP s = none := by rw [hp, hr1]; unfold joinIP; rfl
    have I4 := I3.below B4 L3
    have B04 := B03.trans (B4.mono B03.size)
    have L4 : w.heap.size < w4.heap.size := by have := B4.size; omega
    clear h4
    rcases h2 with ⟨a2, len2, cap2, l2, hr2, rfl, hI2, hl2⟩ | ⟨hr2, rfl⟩
    all_goals go_wp2_with (with_reducible refine wpList_store_ip0 (op := ⟨none, _, _, _, _, _⟩) rfl (.tmp 2) (.tmp 51) rfl rfl rfl (I4.below ((Below.refl _ _).alloc (Nat.le_refl _) _) L4) (length_zeros 16) w.heap.size w (B04.alloc (by omega) _) (Nat.le_refl _) ?_; intro w7 hR7 hB7)
    all_goals first | (exfalso; omega) | exact bodyPost_ret (results_ip2 rfl rfl hR7.out (length_zeros 16)) rfl ⟨Or.inr ⟨hj, rfl⟩, hB7⟩
end Go.Proofs.YthammgljcchloaaDoor
