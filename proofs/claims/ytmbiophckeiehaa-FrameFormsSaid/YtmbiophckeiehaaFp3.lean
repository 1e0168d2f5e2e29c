/-
  Valid, Size and Room of a frame.
-/
import Derived.Test.YtmbiophckeiehaaFp2
namespace Go.Proofs.Ytmbiophckeiehaa
open Go.RowKit
set_option linter.unusedSimpArgs false
set_option linter.unusedVariables false

theorem sizeF_lt (h : Hd) (n k : Nat) (hn : n ≤ 281474976710656) (hk8 : k ≤ 281474976710656) : sizeF h n k < 1000000000000000 := by
  have := asz_le h.dm
  have := asz_le h.sm
  unfold sizeF; split <;> split <;> omega

set_option maxHeartbeats 2000000 in
set_option maxRecDepth 100000 in
theorem vframe_any (h : Hd) (a : Option Addr) (n c : Nat) (b : Option Addr) (k d : Nat) (w : World) (hn : n ≤ 281474976710656) (hk8 : k ≤ 281474976710656) :
    Calls Try.prog 24 #[fv h (.slice a n c) (.slice b k d)] w (RetS (.bool (validF h n k)) w) := by
  have j1 := vack_any h a n c b k d
  have j2 := vadr_any h a n c b k d
  have j3 := vsec_any h (.slice a n c) b k d
  have j4 := fun w => size_any h a n c b k d w hn hk8
  have HS : Hid (validF h n k = if h.k = 2 then ackF h n k else if h.k = 1 ∨ h.k = 3 then decide (adrF h = true ∧ secF h k = true ∧ sizeF h n k ≤ 127) else false) := hid rfl
  generalize validF h n k = z at HS ⊢
  generalize ackF h n k = y1 at *
  generalize adrF h = y2 at *
  generalize secF h k = y3 at *
  generalize sizeF h n k = y4 at *
  rw [show fv h (.slice a n c) (.slice b k d) = .agg (fvl h (.slice a n c) (.slice b k d)).toArray from rfl]
  go_enter Try.func24, Try.ntmps24
  have hF := (Fk.new w h (.slice a n c) (.slice b k d)).fr
  have hB := (Below.refl w.heap.size w).alloc (Nat.le_refl _) (.cells (fvl h (.slice a n c) (.slice b k d)).toArray 31)
  have c0 := hF.cells.1
  by_cases h2 : h.k = 2
  · have HT : Hid (z = y1) := hid (by rw [HS.out, if_pos h2])
    rw [h2] at c0
    clear HS
    go_wp2_with (refine wpList_load_frame (op := ⟨some 7, _, _, _, _, _⟩) rfl (.tmp 1) rfl rfl hF ?_)
    with_reducible refine (j1 _).mono ?_
    rintro e w2 ⟨rfl, hb⟩
    go_wp2_with fail
    go_ret
    exact ⟨ret_bool (by rw [HT.out]), hB.trans (hb.mono hB.size)⟩
  · by_cases h13 : h.k = 1 ∨ h.k = 3
    · have HT : Hid (z = decide (y2 = true ∧ y3 = true ∧ y4 ≤ 127)) := hid (by rw [HS.out, if_neg h2, if_pos h13])
      clear HS h2
      have q13 := hid h13
      clear h13
      rcases q13.out with h13 | h13
      all_goals rw [h13] at c0
      all_goals clear h13 q13
      all_goals go_wp2_with (refine wpList_load_frame (op := ⟨some 12, _, _, _, _, _⟩) rfl (.tmp 1) rfl rfl hF ?_)
      all_goals clear c0
      all_goals generalize w.alloc _ = w1 at *
      · with_reducible refine (j2 _).mono ?_
        rintro e2 w2 ⟨rfl, hb2⟩
        have hF := hF.below hb2 hF.lt
        have hB := hB.trans (hb2.mono hB.size)
        clear hb2
        cases y2
        · go_wp2_with fail
          go_ret
          exact ⟨ret_bool (by rw [HT.out]; simp), hB⟩
        go_wp2_with (refine wpList_load_frame_on (op := ⟨some 15, _, _, _, _, _⟩) (by rfl) (.tmp 1) rfl rfl hF ?_)
        with_reducible refine (j3 _).mono ?_
        rintro e3 w3 ⟨rfl, hb3⟩
        have hF := hF.below hb3 hF.lt
        have hB := hB.trans (hb3.mono hB.size)
        clear hb3
        cases y3
        · go_wp2_with fail
          go_ret
          exact ⟨ret_bool (by rw [HT.out]; simp), hB⟩
        go_wp2_with (refine wpList_load_frame_on (op := ⟨some 19, _, _, _, _, _⟩) (by rfl) (.tmp 1) rfl rfl hF ?_)
        with_reducible refine (j4 _).mono ?_
        rintro e4 w4 ⟨rfl, hb4⟩
        have hF := hF.below hb4 hF.lt
        have hB := hB.trans (hb4.mono hB.size)
        clear hb4
        go_wp2_with fail
        go_ret
        exact ⟨ret_bool (by rw [HT.out]; simp; try omega), hB⟩
      · with_reducible refine (j2 _).mono ?_
        rintro e2 w2 ⟨rfl, hb2⟩
        have hF := hF.below hb2 hF.lt
        have hB := hB.trans (hb2.mono hB.size)
        clear hb2
        cases y2
        · go_wp2_with fail
          go_ret
          exact ⟨ret_bool (by rw [HT.out]; simp), hB⟩
        go_wp2_with (refine wpList_load_frame_on (op := ⟨some 15, _, _, _, _, _⟩) (by rfl) (.tmp 1) rfl rfl hF ?_)
        with_reducible refine (j3 _).mono ?_
        rintro e3 w3 ⟨rfl, hb3⟩
        have hF := hF.below hb3 hF.lt
        have hB := hB.trans (hb3.mono hB.size)
        clear hb3
        cases y3
        · go_wp2_with fail
          go_ret
          exact ⟨ret_bool (by rw [HT.out]; simp), hB⟩
        go_wp2_with (refine wpList_load_frame_on (op := ⟨some 19, _, _, _, _, _⟩) (by rfl) (.tmp 1) rfl rfl hF ?_)
        with_reducible refine (j4 _).mono ?_
        rintro e4 w4 ⟨rfl, hb4⟩
        have hF := hF.below hb4 hF.lt
        have hB := hB.trans (hb4.mono hB.size)
        clear hb4
        go_wp2_with fail
        go_ret
        exact ⟨ret_bool (by rw [HT.out]; simp; try omega), hB⟩
    · have HT : Hid (z = false) := hid (by rw [HS.out, if_neg h2, if_neg h13])
      clear HS
      have h1 : ¬h.k = 1 := fun e => h13 (Or.inl e)
      have h3 : ¬h.k = 3 := fun e => h13 (Or.inr e)
      clear h13
      go_wp2_with fail
      go_ret
      exact ⟨ret_bool (by rw [HT.out]), hB⟩

/-- Size -/
def sizF (h : Hd) (n k : Nat) : Nat := if validF h n k = true then sizeF h n k else 0
set_option maxHeartbeats 2000000 in
set_option maxRecDepth 100000 in
theorem siz_any (h : Hd) (a : Option Addr) (n c : Nat) (b : Option Addr) (k d : Nat) (w : World) (hn : n ≤ 281474976710656) (hk8 : k ≤ 281474976710656) :
    Calls Try.prog 26 #[fv h (.slice a n c) (.slice b k d)] w (RetS (.int .i64 (sizF h n k)) w) := by
  have j1 := fun w => vframe_any h a n c b k d w hn hk8
  have j4 := fun w => size_any h a n c b k d w hn hk8
  have HS : Hid (sizF h n k = if validF h n k = true then sizeF h n k else 0) := hid rfl
  generalize sizF h n k = z at HS ⊢
  generalize validF h n k = y1 at *
  generalize sizeF h n k = y4 at *
  rw [show fv h (.slice a n c) (.slice b k d) = .agg (fvl h (.slice a n c) (.slice b k d)).toArray from rfl]
  go_enter Try.func26, Try.ntmps26
  have hF := (Fk.new w h (.slice a n c) (.slice b k d)).fr
  have hB := (Below.refl w.heap.size w).alloc (Nat.le_refl _) (.cells (fvl h (.slice a n c) (.slice b k d)).toArray 31)
  go_wp2_with (refine wpList_load_frame (op := ⟨some 3, _, _, _, _, _⟩) rfl (.tmp 1) rfl rfl hF ?_)
  generalize w.alloc _ = w1 at *
  with_reducible refine (j1 _).mono ?_
  rintro e2 w2 ⟨rfl, hb2⟩
  have hF := hF.below hb2 hF.lt
  have hB := hB.trans (hb2.mono hB.size)
  clear hb2
  cases y1
  · go_wp2_with fail
    go_ret
    exact ⟨ret_int (by rw [HS.out]; rfl), hB⟩
  · go_wp2_with (refine wpList_load_frame (op := ⟨some 6, _, _, _, _, _⟩) rfl (.tmp 1) rfl rfl hF ?_)
    with_reducible refine (j4 _).mono ?_
    rintro e3 w3 ⟨rfl, hb3⟩
    have hF := hF.below hb3 hF.lt
    have hB := hB.trans (hb3.mono hB.size)
    clear hb3
    go_wp2_with fail
    go_ret
    exact ⟨ret_int (by rw [HS.out]; rfl), hB⟩

/-- Room -/
def roomF (h : Hd) (n k : Nat) : Nat := if h.k = 2 ∨ validF h n k = false then 0 else 127 - sizeF h n k
theorem size_of_valid (h : Hd) (n k : Nat) (hv : validF h n k = true) (h2 : ¬h.k = 2) : sizeF h n k ≤ 127 := by
  unfold validF at hv
  rw [if_neg h2] at hv
  split at hv
  · exact (of_decide_eq_true hv).2.2
  · cases hv
set_option maxHeartbeats 2000000 in
set_option maxRecDepth 100000 in
theorem room_any (h : Hd) (a : Option Addr) (n c : Nat) (b : Option Addr) (k d : Nat) (w : World) (hn : n ≤ 281474976710656) (hk8 : k ≤ 281474976710656) :
    Calls Try.prog 28 #[fv h (.slice a n c) (.slice b k d)] w (RetS (.int .i64 (roomF h n k)) w) := by
  have j1 := fun w => vframe_any h a n c b k d w hn hk8
  have j4 := fun w => size_any h a n c b k d w hn hk8
  have hlt := sizeF_lt h n k hn hk8
  have HV := hid (size_of_valid h n k)
  have HS : Hid (roomF h n k = if h.k = 2 ∨ validF h n k = false then 0 else 127 - sizeF h n k) := hid rfl
  generalize roomF h n k = z at HS ⊢
  generalize validF h n k = y1 at *
  generalize sizeF h n k = y4 at *
  rw [show fv h (.slice a n c) (.slice b k d) = .agg (fvl h (.slice a n c) (.slice b k d)).toArray from rfl]
  go_enter Try.func28, Try.ntmps28
  have hF := (Fk.new w h (.slice a n c) (.slice b k d)).fr
  have hB := (Below.refl w.heap.size w).alloc (Nat.le_refl _) (.cells (fvl h (.slice a n c) (.slice b k d)).toArray 31)
  have c0 := hF.cells.1
  by_cases h2 : h.k = 2
  · have HT : Hid (z = 0) := hid (by rw [HS.out, if_pos (Or.inl h2)])
    rw [h2] at c0
    clear HS HV j1 j4
    go_wp2_with fail
    go_ret
    exact ⟨ret_int (by rw [HT.out]; rfl), hB⟩
  · have hq : (h.k == 2) = false := by simp [h2]
    go_wp2_with (refine wpList_load_frame_on (op := ⟨some 7, _, _, _, _, _⟩) (by rfl) (.tmp 1) rfl rfl hF ?_)
    clear c0
    generalize w.alloc _ = w1 at *
    with_reducible refine (j1 _).mono ?_
    rintro e2 w2 ⟨rfl, hb2⟩
    have hF := hF.below hb2 hF.lt
    have hB := hB.trans (hb2.mono hB.size)
    clear hb2
    cases y1
    · go_wp2_with fail
      go_ret
      exact ⟨ret_int (by rw [HS.out]; simp), hB⟩
    · have h127 := HV.out rfl h2
      go_wp2_with (refine wpList_load_frame (op := ⟨some 11, _, _, _, _, _⟩) rfl (.tmp 1) rfl rfl hF ?_)
      with_reducible refine (j4 _).mono ?_
      rintro e3 w3 ⟨rfl, hb3⟩
      have hF := hF.below hb3 hF.lt
      have hB := hB.trans (hb3.mono hB.size)
      clear hb3
      go_wp2_with fail
      go_ret
      exact ⟨ret_int (by rw [HS.out]; simp [h2]; omega), hB⟩
end Go.Proofs.Ytmbiophckeiehaa
