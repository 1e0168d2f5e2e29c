/-
  AckFor; the sanity check.
-/
import Derived.Test.YtmbiophckeiehaaDec
namespace Go.Proofs.Ytmbiophckeiehaa
open Go.RowKit
set_option linter.unusedSimpArgs false
set_option linter.unusedVariables false

def ackH (s : Int) : Hd := ⟨2, false, false, false, s, 0, 0, 0, 0, 0, 0, 0, 0, 0⟩
/-- is there an acknowledgement of it -/
def ackB (h : Hd) (n k : Nat) : Bool := h.ar && validF h n k
/-- what AckFor answers -/
def RetAck (h : Hd) (n k : Nat) (w : World) (e : Ending) (w' : World) : Prop :=
  e = .returned (.tuple #[fv (if ackB h n k then ackH h.sq else zH) (.slice none 0 0) (.slice none 0 0), .bool (ackB h n k)]) ∧ Below w.heap.size w w'

theorem ack_no {h : Hd} {n k : Nat} {w w' : World} (e : ackB h n k = false) (hB : Below w.heap.size w w') : RetAck h n k w (.returned (.tuple #[fv zH (.slice none 0 0) (.slice none 0 0), .bool false])) w' := by
  unfold RetAck; rw [e]; exact ⟨rfl, hB⟩
theorem ack_yes {h : Hd} {n k : Nat} {w w' : World} (e : ackB h n k = true) (hB : Below w.heap.size w w') : RetAck h n k w (.returned (.tuple #[fv (ackH h.sq) (.slice none 0 0) (.slice none 0 0), .bool true])) w' := by
  unfold RetAck; rw [e]; exact ⟨rfl, hB⟩

set_option maxHeartbeats 2000000 in
set_option maxRecDepth 100000 in
theorem ackfor_any (h : Hd) (a : Option Addr) (n c : Nat) (b : Option Addr) (k d : Nat) (w : World) (hn : n ≤ 281474976710656) (hk8 : k ≤ 281474976710656) :
    Calls Try.prog 22 #[fv h (.slice a n c) (.slice b k d)] w (RetAck h n k w) := by
  have j1 := fun w => vframe_any h a n c b k d w hn hk8
  have HA : Hid (ackB h n k = (h.ar && validF h n k)) := hid rfl
  have hF : Fr ((w.alloc (.cells (fvl h (.slice a n c) (.slice b k d)).toArray 31)).alloc (.cells #[.int .i64 0, .bool false, .bool false, .bool false, .int .u8 0, .int .u16 0, .int .i64 0, .int .u16 0, .int .u64 0, .int .i64 0, .int .u16 0, .int .u64 0, .int .u32 0, .int .u8 0, .slice none 0 0, .slice none 0 0] 31)) w.heap.size h (.slice a n c) (.slice b k d) := (Fk.new w h (.slice a n c) (.slice b k d)).fr.below ((Below.refl (w.heap.size + 1) _).alloc (by simp) _) (Nat.lt_succ_self _)
  have hK : Fk ((w.alloc (.cells (fvl h (.slice a n c) (.slice b k d)).toArray 31)).alloc (.cells #[.int .i64 0, .bool false, .bool false, .bool false, .int .u8 0, .int .u16 0, .int .i64 0, .int .u16 0, .int .u64 0, .int .i64 0, .int .u16 0, .int .u64 0, .int .u32 0, .int .u8 0, .slice none 0 0, .slice none 0 0] 31)) (w.heap.size + 1) zH (.slice none 0 0) (.slice none 0 0) := by
    have := Fk.new (w.alloc (.cells (fvl h (.slice a n c) (.slice b k d)).toArray 31)) zH (.slice none 0 0) (.slice none 0 0)
    rw [World.size_alloc] at this
    exact this
  have hB := two_below w (.cells (fvl h (.slice a n c) (.slice b k d)).toArray 31) (.cells #[.int .i64 0, .bool false, .bool false, .bool false, .int .u8 0, .int .u16 0, .int .i64 0, .int .u16 0, .int .u64 0, .int .i64 0, .int .u16 0, .int .u64 0, .int .u32 0, .int .u8 0, .slice none 0 0, .slice none 0 0] 31)
  have hwl : w.heap.size + 1 < ((w.alloc (.cells (fvl h (.slice a n c) (.slice b k d)).toArray 31)).alloc (.cells #[.int .i64 0, .bool false, .bool false, .bool false, .int .u8 0, .int .u16 0, .int .i64 0, .int .u16 0, .int .u64 0, .int .i64 0, .int .u16 0, .int .u64 0, .int .u32 0, .int .u8 0, .slice none 0 0, .slice none 0 0] 31)).heap.size := by simp
  have c1 := hF.cells.2.1
  rw [show fv h (.slice a n c) (.slice b k d) = .agg (fvl h (.slice a n c) (.slice b k d)).toArray from rfl]
  go_enter Try.func22, Try.ntmps22
  cases har : h.ar
  · have HT : Hid ((h.ar && validF h n k) = false) := hid (by rw [har]; rfl)
    rw [har] at c1
    clear j1
    go_upto_region 1 with (fail)
    generalize (w.alloc _).alloc _ = w1 at *
    go_wp2_with ((with_reducible refine wpList_store_frame (op := ⟨none, _, _, _, _, _⟩) ?_ (.tmp 2) (.tmp 12) ?_ ?_ (h := zH) (p := .slice none 0 0) (m := .slice none 0 0) ?_ hK ?_ ?_ ?_); (· exact rfl); (· exact rfl); (· exact rfl); (· exact rfl); (· exact rfl); (· exact rfl); intro wz hRz hOz)
    exact bodyPost_ret (results_dec (v := .bool false) rfl rfl rfl hRz.out) rfl (ack_no (by rw [HA.out, HT.out]) (hB.trans (hOz.below (Nat.le_succ _) hB.size)))
  · rw [har] at c1
    have HT : Hid ((h.ar && validF h n k) = validF h n k) := hid (by rw [har]; rfl)
    generalize hvd : validF h n k = vb at *
    clear hvd
    go_upto_region 1 with (fail)
    generalize (w.alloc _).alloc _ = w1 at *
    go_wp2_with ((with_reducible refine wpList_load_frame_on (op := ⟨some 8, _, _, _, _, _⟩) ?_ (.tmp 1) ?_ ?_ hF ?_); (· exact rfl); (· exact rfl); (· exact rfl))
    with_reducible refine (j1 _).mono ?_
    rintro e2 w2 ⟨rfl, hb2⟩
    have hF := hF.below hb2 hF.lt
    have hK := hK.below hb2 hK.lt
    have hB := hB.trans (hb2.mono hB.size)
    clear hb2 j1 c1
    cases vb
    · go_wp2_with ((with_reducible refine wpList_store_frame (op := ⟨none, _, _, _, _, _⟩) ?_ (.tmp 2) (.tmp 12) ?_ ?_ (h := zH) (p := .slice none 0 0) (m := .slice none 0 0) ?_ hK ?_ ?_ ?_); (· exact rfl); (· exact rfl); (· exact rfl); (· exact rfl); (· exact rfl); (· exact rfl); intro wz hRz hOz)
      exact bodyPost_ret (results_dec (v := .bool false) rfl rfl rfl hRz.out) rfl (ack_no (by rw [HA.out, HT.out]) (hB.trans (hOz.below (Nat.le_succ _) hB.size)))
    · have c4 := hF.cells.2.2.2.2.1
      go_wp2_with ((with_reducible refine wpList_store_frame (op := ⟨none, _, _, _, _, _⟩) ?_ (.tmp 2) (.tmp 15) ?_ ?_ (h := ackH h.sq) (p := .slice none 0 0) (m := .slice none 0 0) ?_ hK ?_ ?_ ?_); (· exact rfl); (· exact rfl); (· exact rfl); (· exact rfl); (· exact rfl); (· exact rfl); intro wz hRz hOz)
      exact bodyPost_ret (results_dec (v := .bool true) rfl rfl rfl hRz.out) rfl (ack_yes (by rw [HA.out, HT.out]) (hB.trans (hOz.below (Nat.le_succ _) hB.size)))

theorem length_of_valid (h : Hd) (n k : Nat) (hv : validF h n k = true) : 5 ≤ sizeF h n k ∧ sizeF h n k ≤ 127 := by
  refine ⟨by unfold sizeF; omega, ?_⟩
  by_cases h2 : h.k = 2
  · unfold validF at hv
    rw [if_pos h2] at hv
    obtain ⟨_, hse, hs, _, _, _, hp⟩ := of_decide_eq_true hv
    unfold secF at hs
    rw [if_neg (by rw [hse]; decide)] at hs
    have := (of_decide_eq_true hs).2.2
    unfold sizeF
    rw [if_pos h2, hse, if_neg (by decide)]; omega
  · exact size_of_valid h n k hv h2

theorem checkB_appL (l : List UInt8) : checkB (appL l) = true := by
  unfold checkB
  rw [length_appL, Nat.add_sub_cancel]
  have hc := crcL_lt (c := 0) (by decide) l
  have e1 : (appL l).take l.length = l := by unfold appL; rw [List.take_left]
  have e2 : (appL l).getD l.length 0 = crcLo l := by
    unfold appL; rw [List.getD_eq_getElem?_getD, List.getElem?_append_right (Nat.le_refl _)]; simp
  have e3 : (appL l).getD (l.length + 2 - 1) 0 = crcHi l := by
    unfold appL
    rw [List.getD_eq_getElem?_getD, List.getElem?_append_right (by omega), show l.length + 2 - 1 - l.length = 1 from by omega]; rfl
  rw [e1, e2, e3]
  have l1 : (crcLo l).toNat = crcL 0 l % 256 := by unfold crcLo; rw [UInt8.toNat_ofNat']
  have l2 : (crcHi l).toNat = crcL 0 l / 256 := by unfold crcHi; rw [UInt8.toNat_ofNat']; omega
  rw [l1, l2]
  simp
  omega

/-- the encoding of a valid frame is decoded -/
theorem dec_enc (h : Hd) (P M : List UInt8) (ho : HOk h) (hv : validF h P.length M.length = true) :
    errD (encL h P M) = 0 ∧ readH (txt (encL h P M)) = h ∧ readP (txt (encL h P M)) = P ∧ readM (txt (encL h P M)) = M := by
  have htx : txt (encL h P M) = bodyL h P M := by
    unfold txt encL
    rw [length_appL, Nat.add_sub_cancel]
    unfold appL; rw [List.take_left]
  obtain ⟨e1, e2, e3⟩ := read_back h P M (hread_of h P M ho hv)
  rw [htx]
  refine ⟨?_, e1, e2, e3⟩
  obtain ⟨l1, l2⟩ := length_of_valid h _ _ hv
  have hg : goodB (encL h P M) = true := by
    unfold goodB
    rw [htx, e1, e2, e3, hv]
    simp
  unfold errD
  rw [length_encL, if_neg (by omega), if_neg (by omega), if_neg (by unfold encL; rw [checkB_appL]; decide), if_pos hg]

/-- what is decoded is the encoding of what is returned -/
theorem enc_dec (l : List UInt8) (h0 : errD l = 0) : validF (readH (txt l)) (readP (txt l)).length (readM (txt l)).length = true ∧ encL (readH (txt l)) (readP (txt l)) (readM (txt l)) = l := by
  unfold errD at h0
  split at h0
  · cases h0
  · split at h0
    · cases h0
    · split at h0
      · cases h0
      · rename_i hl5 hck
        split at h0
        · rename_i hg
          unfold goodB at hg
          rw [Bool.and_eq_true, beq_iff_eq] at hg
          refine ⟨hg.1, ?_⟩
          unfold encL
          rw [hg.2]
          have hck : checkB l = true := by cases h : checkB l <;> simp [h] at hck ⊢
          unfold checkB at hck
          rw [Bool.and_eq_true, beq_iff_eq] at hck
          have hc := hck.2
          obtain ⟨x, y, hxy⟩ : ∃ x y, l = txt l ++ [x, y] := by
            refine ⟨l.getD (l.length - 2) 0, l.getD (l.length - 1) 0, ?_⟩
            unfold txt
            have h1 := take_snoc l 0 (l.length - 2) (by omega)
            have h2 := take_snoc l 0 (l.length - 1) (by omega)
            rw [show l.length - 2 + 1 = l.length - 1 from by omega] at h1
            rw [show l.length - 1 + 1 = l.length from by omega, List.take_length, h1] at h2
            rw [List.append_assoc] at h2
            exact h2
          have ht : l.take (l.length - 2) = txt l := rfl
          rw [ht] at hc
          have hlt : (txt l).length + 2 = l.length := by unfold txt; rw [List.length_take]; omega
          have gx : l.getD (l.length - 2) 0 = x := by
            rw [hxy, List.length_append, List.getD_eq_getElem?_getD]; simp
          have gy : l.getD (l.length - 1) 0 = y := by
            rw [hxy, List.length_append, List.getD_eq_getElem?_getD, List.getElem?_append_right (by simp)]; simp
          rw [gx, gy] at hc
          have hx := x.toNat_lt
          have hy := y.toNat_lt
          have ex : crcLo (txt l) = x := by
            unfold crcLo; rw [hc]
            apply UInt8.toNat_inj.1; rw [UInt8.toNat_ofNat']; omega
          have ey : crcHi (txt l) = y := by
            unfold crcHi; rw [hc]
            apply UInt8.toNat_inj.1; rw [UInt8.toNat_ofNat']; omega
          conv => rhs; rw [hxy]
          unfold appL
          rw [ex, ey]
        · cases h0
end Go.Proofs.Ytmbiophckeiehaa
