import Derived.Test.YtakandlbphjflaaRefDigit
import Derived.Test.YtakandlbphjflaaGrow
namespace Go.Proofs.Ytakandlbphjflaa
open Go.RowKit

/-- the post of the reference's Unhex -/
def RetUnR (l : List UInt8) (w : World) (e : Ending) (w' : World) : Prop :=
  if unOk l then ∃ v, e = .returned (.tuple #[v, .bool true]) ∧ Gr w' w.heap.size v (pairsL l (l.length / 2)) ∧ Below w.heap.size w w'
  else e = .returned (.tuple #[.slice none 0 0, .bool false]) ∧ Below w.heap.size w w'

theorem RetUnR.no {l : List UInt8} {w w' : World} {e : Ending} (h : unOk l = false) (he : e = .returned (.tuple #[.slice none 0 0, .bool false])) (hb : Below w.heap.size w w') : RetUnR l w e w' := by
  unfold RetUnR; rw [h]; exact ⟨he, hb⟩

theorem RetUnR.yes {l : List UInt8} {w w' : World} {e : Ending} {v : Value} (h : unOk l = true) (he : e = .returned (.tuple #[v, .bool true])) (ho : Gr w' w.heap.size v (pairsL l (l.length / 2))) (hb : Below w.heap.size w w') : RetUnR l w e w' := by
  unfold RetUnR; rw [h]; exact ⟨v, he, ho, hb⟩

theorem getD_bytes (s : ByteArray) (i : Nat) (h : i < s.size) : s.data.toList.getD i 0 = s[i] := by
  have hl : s.data.toList.length = s.size := by rw [Array.length_toList]; rfl
  rw [List.getD_eq_getElem?_getD, List.getElem?_eq_getElem (by rw [hl]; exact h)]
  simp
  rfl

theorem run_index_str (s : ByteArray) (i : Nat) (h : i < s.size) (I : Int) (hI : I = i) (W : World) :
    (Instr.index 9 (.string s) (.int .i64 I)).run Try.prog W = .ok (.int .u8 ((s.data.toList.getD i 0).toNat : Int)) W := by
  subst hI
  rw [getD_bytes s i h]
  have h1 : (0 : Int) ≤ (i : Int) := by omega
  have h2 : (i : Int) < (s.size : Int) := by omega
  go_simp

set_option maxHeartbeats 4000000 in
theorem refunhex_any (s : ByteArray) (w : World) (hs : s.size ≤ 281474976710656) : Calls Try.prog 22 #[.string s] w (RetUnR s.data.toList w) := by
  have hl : s.data.toList.length = s.size := by rw [Array.length_toList]; rfl
  by_cases hodd : s.size % 2 = 0
  · have h2 : ((s.size : Int) % 2 != 0) = false := by simp; omega
    have HODD := hid hodd
    clear hodd
    have HL := hid hl
    clear hl
    go_enter Try.func22, Try.ntmps22
    go_wp2
    go_loopw [4, 5] (fun v t wr => ∃ (k : Nat) (x : Value), x = v ∧ 2 * k ≤ s.size ∧ t = .int .i64 (2 * (k : Int)) ∧ Gr wr w.heap.size x (pairsL s.data.toList k) ∧ Hid (∀ j, j < 2 * k → isDig (s.data.toList.getD j 0).toNat = true) ∧ Below w.heap.size w wr) (fun _ t _ => s.size - (intOf t).toNat)
    case atStart => exact ⟨0, _, rfl, by omega, rfl, Gr.nil _ _, hid (by intro j hj; omega), Below.refl _ _⟩
    case round =>
      obtain ⟨k, x, rfl, hk, rfl, hG, hD, hB⟩ := hrel
      have HG := hid hG
      clear hG
      by_cases hlt : 2 * k < s.size
      · have hlt1 : 2 * k + 1 < s.size := by have := HODD.out; omega
        have hx1 := run_index_str s (2 * k) hlt (2 * (k : Int)) (by omega)
        have hx2 := run_index_str s (2 * k + 1) hlt1 (2 * (k : Int) + 1) (by omega)
        have hw : IntKind.i64.wrap (2 * (k : Int) + 1) = 2 * (k : Int) + 1 := IntWalk.i64_in _ (by omega)
        have HP : Hid (pairB s.data.toList k = UInt8.ofNat (16 * digV (s.data.toList.getD (2 * k) 0).toNat + digV (s.data.toList.getD (2 * k + 1) 0).toNat)) := hid rfl
        have HA : Hid (isDig (s.data.toList.getD (2 * k) 0).toNat = false → unOk s.data.toList = false) := hid (unOk_no _ _ (by rw [HL.out]; exact hlt))
        have HA2 : Hid (isDig (s.data.toList.getD (2 * k + 1) 0).toNat = false → unOk s.data.toList = false) := hid (unOk_no _ _ (by rw [HL.out]; exact hlt1))
        have HD1 : Hid (isDig (s.data.toList.getD (2 * k) 0).toNat = true → isDig (s.data.toList.getD (2 * k + 1) 0).toNat = true → ∀ j, j < 2 * (k + 1) → isDig (s.data.toList.getD j 0).toNat = true) := hid (by
          intro g1 g2 j hj
          by_cases q1 : j = 2 * k
          · rw [q1]; exact g1
          · by_cases q2 : j = 2 * k + 1
            · rw [q2]; exact g2
            · exact hD.out j (by omega))
        generalize s.data.toList.getD (2 * k) 0 = c1 at *
        generalize s.data.toList.getD (2 * k + 1) 0 = c2 at *
        have l1 := digV_lt c1.toNat
        have l2 := digV_lt c2.toNat
        by_cases hd1 : isDig c1.toNat = true
        · by_cases hd2 : isDig c2.toNat = true
          · have e1 : digR c1 = digV c1.toNat := by simp [digR, hd1]
            have e2 : digR c2 = digV c2.toNat := by simp [digR, hd2]
            go_wp2
            go_quiet ((go_at_call 35; exact Calls.quiet_of_same ((refdigit_any _ _).mono fun e w' h => ⟨h.1, h.2.symm⟩)))
            have hpv : Value.int .u8 (16 * (digV c1.toNat : Int) + (digV c2.toNat : Int)) = bv (pairB s.data.toList k) := by
              rw [HP.out, bv, UInt8.toNat_ofNat', Nat.mod_eq_of_lt (by omega)]; push_cast; rfl
            have JJ : ∀ m, IsB ((wr.drewN m).alloc (.cells #[.int .u8 (16 * (digV c1.toNat : Int) + (digV c2.toNat : Int))] 5)) (some ⟨wr.heap.size, 0, none⟩) 1 1 [pairB s.data.toList k] := fun m => by
              rw [hpv]; exact (Own.new (wr.drewN m) [pairB s.data.toList k]).isB (by simp)
            have GG : ∀ m o, Gr ((wr.drewN m).alloc o) w.heap.size x (pairsL s.data.toList k) := fun m o => HG.out.below ((below_drewN (Below.refl _ _) m).alloc (Nat.le_refl _) o)
            have BB : ∀ m o, Below w.heap.size w ((wr.drewN m).alloc o) := fun m o => (below_drewN hB m).alloc hB.size o
            have SS : ∀ m o, w.heap.size ≤ ((wr.drewN m).alloc o).heap.size := fun m o => (BB m o).size
            have LL : Hid ((pairsL s.data.toList k).length + 1 ≤ 140737488355328) := hid (by rw [length_pairsL]; omega)
            have HJ := hid JJ; have HGG := hid GG; have HBB := hid BB; have HSS := hid SS
            clear hpv JJ GG BB SS
            go_wp2_with (with_reducible refine wpList_append_bytes (o := ⟨some 40, _, _, _, _, _⟩) rfl (.tmp 33) (.tmp 39) rfl x rfl (some ⟨wr.heap.size, 0, none⟩) 1 1 rfl w.heap.size (pairsL s.data.toList k) [pairB s.data.toList k] (HGG.out _ _) (HJ.out _) LL.out w (HBB.out _ _) (HSS.out _ _) ?_; intro v' w2 hG2 hB2 _)
            go_roundw
            case rel => exact ⟨k + 1, v', rfl, by omega, by push_cast; go_num, by rw [pairsL_succ]; exact hG2.out, hid (HD1.out hd1 hd2), hB2⟩
            case measure => simp [intOf]; omega
          · have e1 : digR c1 = digV c1.toNat := by simp [digR, hd1]
            have e2 : digR c2 = -1 := by simp [digR, hd2]
            have HNO := hid (HA2.out (by simpa using hd2))
            go_wp2
            go_quiet ((go_at_call 35; exact Calls.quiet_of_same ((refdigit_any _ _).mono fun e w' h => ⟨h.1, h.2.symm⟩)))
            go_wp2
            go_ret2
            exact RetUnR.no HNO.out rfl (below_drewN hB _)
        · have e1 : digR c1 = -1 := by simp [digR, hd1]
          have HNO := hid (HA.out (by simpa using hd1))
          go_wp2
          go_quiet ((go_at_call 35; exact Calls.quiet_of_same ((refdigit_any _ _).mono fun e w' h => ⟨h.1, h.2.symm⟩)))
          go_wp2
          go_ret2
          exact RetUnR.no HNO.out rfl (below_drewN hB _)
      · have hkk : 2 * k = s.size := by have := HODD.out; omega
        have HK := hid hkk
        have hge : ¬ (2 * (k : Int) < (s.size : Int)) := by omega
        clear hkk hlt
        go_wp2
        go_ret2
        have hyes : unOk s.data.toList = true := by
          simp only [unOk, Bool.and_eq_true, beq_iff_eq, List.all_eq_true]
          refine ⟨by rw [HL.out]; exact HODD.out, fun c hc => ?_⟩
          obtain ⟨j, hj, rfl⟩ := List.getElem_of_mem hc
          have := hD.out j (by rw [HK.out, ← HL.out]; exact hj)
          rwa [List.getD_eq_getElem?_getD, List.getElem?_eq_getElem hj, Option.getD_some] at this
        exact RetUnR.yes hyes rfl (by rw [HL.out, ← HK.out, show 2 * k / 2 = k from by omega]; exact HG.out) hB
  · have h2 : ((s.size : Int) % 2 != 0) = true := by simp; omega
    have hno : unOk s.data.toList = false := by simp [unOk, hl]; omega
    have HNO := hid hno
    clear hodd hno hl
    go_enter Try.func22, Try.ntmps22
    go_wp2
    go_ret2
    exact RetUnR.no HNO.out rfl (Below.refl _ _)
end Go.Proofs.Ytakandlbphjflaa
