/-
  FormatIP: the text of an address.
-/
import Derived.Test.YthammgljcchloaaDoorLz
import Derived.Test.YthammgljcchloaaDoorIpReg
import Derived.Test.YthammgljcchloaaDoorIpCopy
import Derived.StillTailTactics
import Derived.RegionTactic
import Derived.Deep.RegionLaw
import Derived.Deep.RegionHeld3
namespace Go.Proofs.YthammgljcchloaaDoor
open Go.RowKit
set_option linter.unusedSimpArgs false
set_option linter.unusedVariables false

theorem lz_inv (zs : List UInt8) : ∀ k : Nat, k ≤ 8 → 0 ≤ (lzs (vals (upto (grp zs) k))).1 ∧ 0 ≤ (lzs (vals (upto (grp zs) k))).2.1 ∧ (lzs (vals (upto (grp zs) k))).1 + (lzs (vals (upto (grp zs) k))).2.1 ≤ k ∧ 0 ≤ (lzs (vals (upto (grp zs) k))).2.2 ∧ (lzs (vals (upto (grp zs) k))).2.2 ≤ k
  | 0, _ => by simp [upto, vals, lzs]
  | k + 1, h => by
    have ih := lz_inv zs k (by omega)
    have e : lzs (vals (upto (grp zs) (k + 1))) = lzStep (lzs (vals (upto (grp zs) k))) (grp zs k).1 := by
      rw [upto_succ, show vals (upto (grp zs) k ++ [grp zs k]) = vals (upto (grp zs) k) ++ [(grp zs k).1] by simp [vals], lzs_snoc]
    rw [e]
    have e1 : (grp zs k).1.1 = k := by simp [grp]; omega
    generalize lzs (vals (upto (grp zs) k)) = s at ih ⊢
    unfold lzStep
    rw [e1]
    split
    · simp; omega
    · split <;> simp <;> omega

def wtext (zs : List UInt8) : List UInt8 := gtext (vals (upto (grp zs) (zs.length / 2)))
theorem length_wtext (zs : List UInt8) (h : zs.length ≤ 16) : (wtext zs).length ≤ 40 := by
  have := length_gtext (upto (grp zs) (zs.length / 2))
  rw [upto_length] at this
  unfold wtext; omega
def fmtIP (zs : List UInt8) : List UInt8 :=
  if (lzs (vals (upto (grp zs) 8))).2.1 < 2 then wtext zs
  else wtext (zs.take (2 * (lzs (vals (upto (grp zs) 8))).1.toNat)) ++ [58, 58] ++ wtext (zs.drop (2 * ((lzs (vals (upto (grp zs) 8))).1.toNat + (lzs (vals (upto (grp zs) 8))).2.1.toNat)))
theorem length_fmtIP (zs : List UInt8) (h : zs.length = 16) : (fmtIP zs).length ≤ 100 := by
  unfold fmtIP
  split
  · have := length_wtext zs (by omega); omega
  · have h1 := length_wtext (zs.take (2 * (lzs (vals (upto (grp zs) 8))).1.toNat)) (by simp; omega)
    have h2 := length_wtext (zs.drop (2 * ((lzs (vals (upto (grp zs) 8))).1.toNat + (lzs (vals (upto (grp zs) 8))).2.1.toNat))) (by simp; omega)
    simp only [List.length_append, List.length_cons, List.length_nil]; omega

theorem bytes_append (x y : List UInt8) : (⟨x.toArray⟩ : ByteArray) ++ ⟨y.toArray⟩ = ⟨(x ++ y).toArray⟩ := by
  apply ByteArray.ext; simp

theorem slice_ip_h (b k : Nat) (hk : k ≤ 16) (z : Int) (hz : z = k) (W : World) : (Instr.sliceAt 23 (.pointer (some ⟨b, 0, none⟩)) none (some (.int .i64 z)) none).run Tryd.prog W = .ok (.slice (some ⟨b, 0, none⟩) k 16) W := by
  subst hz
  have hal : Tryd.prog.arrayLen 23 = 16 := by kernel_rfl
  have h := run_sliceAt_array_h (P := Tryd.prog) (w := W) (t := 23) (a := ⟨b, 0, none⟩) (by kernel_rfl) .i64 (k : Int) (by omega) (by rw [hal]; omega)
  rw [hal] at h
  rw [h]
  go_simp

set_option maxHeartbeats 4000000 in
set_option maxRecDepth 100000 in
theorem format_ip (zs : List UInt8) (hz : zs.length = 16) (w : World) (G : GL w) :
    Calls Tryd.prog 13 #[iv zs] w (RetS (.string ⟨(fmtIP zs).toArray⟩) w) := by
  have hIk0 := Ik.new w zs
  have hB0 := (Below.refl w.heap.size w).alloc (Nat.le_refl _) (.cells (row zs) 23)
  have hlz := longest_zeros zs hz
  obtain ⟨i1, i2, i3, -, -⟩ := lz_inv zs 8 (by omega)
  have hdef : fmtIP zs = if (lzs (vals (upto (grp zs) 8))).2.1 < 2 then wtext zs else wtext (zs.take (2 * (lzs (vals (upto (grp zs) 8))).1.toNat)) ++ [58, 58] ++ wtext (zs.drop (2 * ((lzs (vals (upto (grp zs) 8))).1.toNat + (lzs (vals (upto (grp zs) 8))).2.1.toNat))) := rfl
  generalize lzs (vals (upto (grp zs) 8)) = s at hlz i1 i2 i3 hdef
  obtain ⟨F, L, c⟩ := s
  dsimp only at hlz i1 i2 i3 hdef
  obtain ⟨F, rfl⟩ := Int.eq_ofNat_of_zero_le i1
  obtain ⟨L, rfl⟩ := Int.eq_ofNat_of_zero_le i2
  simp only [Int.toNat_natCast] at hdef
  have hFL : F + L ≤ 8 := by omega
  clear i1 i2 i3
  have HD := hid hdef
  clear hdef
  rw [iv]
  go_enter Tryd.func13, Tryd.ntmps13
  go_wp2_with (with_reducible refine wpList_load_ip (op := ⟨some 6, _, _, _, _, _⟩) rfl (.tmp 1) rfl rfl hIk0 hz ?_)
  with_reducible refine (hlz _).mono ?_
  rintro e w1 ⟨rfl, hb1⟩
  have hB1 := hB0.trans (hb1.mono hB0.size)
  have hIk1 := hIk0.below hb1 hIk0.lt
  clear hlz hIk0 hb1 hB0
  by_cases h2 : L < 2
  · have hdef := HD.out
    rw [if_pos (by omega)] at hdef
    go_wp2_with fail
    have hI := hIk1.isB 0 16 16 (by omega) (by omega) (by omega) (by omega)
    rw [List.drop_zero, List.take_of_length_le (by omega)] at hI
    with_reducible refine (write_groups _ 16 16 zs (by omega) w1 hI (G.on hB1)).mono ?_
    rintro e w2 ⟨rfl, hb2⟩
    go_wp2
    go_ret
    refine ⟨?_, hB1.trans (hb2.mono hB1.size)⟩
    rw [hdef, wtext, hz]
    rfl
  · have hdef := HD.out
    rw [if_neg (by omega)] at hdef
    have HD2 := hid hdef
    clear hdef HD
    have hs1 := slice_ip_h w.heap.size (2 * F) (by omega) (2 * (F : Int)) (by omega)
    obtain ⟨P, hP, hs2⟩ := slice_ip w.heap.size (2 * (F + L)) (by omega) (2 * ((F : Int) + (L : Int))) (by omega)
    have hl1 := length_wtext (zs.take (2 * F)) (by simp; omega)
    have hl2 := length_wtext (zs.drop (2 * (F + L))) (by simp; omega)
    have hTail : ∀ W, Ik W w.heap.size zs → IsB W P (16 - 2 * (F + L)) (16 - 2 * (F + L)) (zs.drop (2 * (F + L))) := by
      intro W hW
      by_cases hk : 2 * (F + L) < 16
      · rw [hP hk]
        have := hW.isB (2 * (F + L)) (16 - 2 * (F + L)) (16 - 2 * (F + L)) (by omega) (by omega) (by omega) (by omega)
        rwa [List.take_of_length_le (by simp; omega)] at this
      · have e : 16 - 2 * (F + L) = 0 := by omega
        rw [e, List.drop_eq_nil_of_le (by omega)]
        exact ⟨rfl, by omega, by omega, by omega, fun _ => ⟨rfl, rfl⟩, fun x _ => ⟨fun h => by omega, fun j hj => by omega⟩⟩
    have q1 := i64_id (n := 2 * (F : Int)) (by omega) (by omega)
    have q2 := i64_id (n := (F : Int) + (L : Int)) (by omega) (by omega)
    have q3 := i64_id (n := 2 * ((F : Int) + (L : Int))) (by omega) (by omega)
    have hg1 : gtext (vals (upto (grp (zs.take (2 * F))) (2 * F / 2))) = wtext (zs.take (2 * F)) := by
      unfold wtext; rw [List.length_take, Nat.min_eq_left (by omega)]
    have hg2 : gtext (vals (upto (grp (zs.drop (2 * (F + L)))) ((16 - 2 * (F + L)) / 2))) = wtext (zs.drop (2 * (F + L))) := by
      unfold wtext; rw [List.length_drop, hz]
    generalize wtext (zs.take (2 * F)) = T1 at HD2 hl1 hg1
    generalize wtext (zs.drop (2 * (F + L))) = T2 at HD2 hl2 hg2
    obtain ⟨U, hU⟩ : ∃ U, U = T1 ++ [58, 58] := ⟨_, rfl⟩
    have hUl : U.length = T1.length + 2 := by rw [hU]; simp
    have ba : (⟨T1.toArray⟩ : ByteArray) ++ ⟨#[58, 58]⟩ = ⟨U.toArray⟩ := by rw [hU]; exact bytes_append T1 [58, 58]
    have bb : (⟨U.toArray⟩ : ByteArray) ++ ⟨T2.toArray⟩ = ⟨(fmtIP zs).toArray⟩ := by rw [HD2.out, ← hU]; exact bytes_append U T2
    have nl1 : ¬ (9223372036854775807 < T1.length + 2) := by omega
    have nl2 : ¬ (9223372036854775807 < U.length + T2.length) := by omega
    clear HD2 hU hUl
    go_wp2_with fail
    refine wp_region_held_drew (S := fun w' => Below w.heap.size w w' ∧ Ik w' w.heap.size zs) (by kernel_rfl) (⟨below_drewN hB1 1, hIk1⟩) (fun hHeld => ?_)
    refine wpAnyH_take (i := 0) (oi := ⟨some 14, _, _, _, _, _⟩) (v := ?_) rfl (by kernel_rfl) (by kernel_rfl) (by kernel_rfl) (fun _ _ _ h => h) (Or.inl ⟨by rfl, ?_⟩) hHeld ?_
    rotate_left
    · intro w hSw; go_simp; try with_reducible rfl
    try simp only [Act.put, List.setIfInBounds_toArray, List.set_cons_zero, List.set_cons_succ]
    refine wpAnyH_take (i := 1) (oi := ⟨some 15, _, _, _, _, _⟩) (v := ?_) rfl (by kernel_rfl) (by kernel_rfl) (by kernel_rfl) (fun _ _ _ h => h) (Or.inl ⟨by rfl, ?_⟩) hHeld ?_
    rotate_left
    · intro w hSw; go_simp; try with_reducible rfl
    try simp only [Act.put, List.setIfInBounds_toArray, List.set_cons_zero, List.set_cons_succ]
    refine wpAnyH_take (i := 2) (oi := ⟨some 16, _, _, _, _, _⟩) (v := ?_) rfl (by kernel_rfl) (by kernel_rfl) (by kernel_rfl) (fun _ _ _ h => h) (Or.inl ⟨by rfl, ?_⟩) hHeld ?_
    rotate_left
    · intro w hSw; go_simp; try with_reducible rfl
    try simp only [Act.put, List.setIfInBounds_toArray, List.set_cons_zero, List.set_cons_succ]
    refine wpAnyH_take (i := 5) (oi := ⟨some 19, _, _, _, _, _⟩) (v := ?_) rfl (by kernel_rfl) (by kernel_rfl) (by kernel_rfl) (fun _ _ _ h => h) (Or.inl ⟨by rfl, ?_⟩) hHeld ?_
    rotate_left
    · intro w hSw; go_simp; try with_reducible rfl
    try simp only [Act.put, List.setIfInBounds_toArray, List.set_cons_zero, List.set_cons_succ]
    refine wpAnyH_take (i := 6) (oi := ⟨some 20, _, _, _, _, _⟩) (v := ?_) rfl (by kernel_rfl) (by kernel_rfl) (by kernel_rfl) (fun _ _ _ h => h) (Or.inl ⟨by rfl, ?_⟩) hHeld ?_
    rotate_left
    · intro w hSw; go_simp; try with_reducible rfl
    try simp only [Act.put, List.setIfInBounds_toArray, List.set_cons_zero, List.set_cons_succ]
    refine wpAnyH_take (i := 7) (oi := ⟨some 21, _, _, _, _, _⟩) (v := ?_) rfl (by kernel_rfl) (by kernel_rfl) (by kernel_rfl) (fun _ _ _ h => h) (Or.inl ⟨by rfl, ?_⟩) hHeld ?_
    rotate_left
    · intro w hSw; go_simp; try with_reducible rfl
    try simp only [Act.put, List.setIfInBounds_toArray, List.set_cons_zero, List.set_cons_succ]
    refine wpAnyH_take (i := 8) (oi := ⟨some 22, _, _, _, _, _⟩) (v := ?_) rfl (by kernel_rfl) (by kernel_rfl) (by kernel_rfl) (fun _ _ _ h => h) (Or.inl ⟨by rfl, ?_⟩) hHeld ?_
    rotate_left
    · intro w hSw; go_simp; try with_reducible rfl
    try simp only [Act.put, List.setIfInBounds_toArray, List.set_cons_zero, List.set_cons_succ]
    refine wpAnyH_take (i := 9) (oi := ⟨some 23, _, _, _, _, _⟩) (v := ?_) rfl (by kernel_rfl) (by kernel_rfl) (by kernel_rfl) (fun _ _ _ h => h) (Or.inl ⟨by rfl, ?_⟩) hHeld ?_
    rotate_left
    · intro w hSw; go_simp; try with_reducible rfl
    try simp only [Act.put, List.setIfInBounds_toArray, List.set_cons_zero, List.set_cons_succ]
    refine wpAnyH_ready (rs := [3]) (by kernel_rfl) (by simp) ?_
    refine AllReadyH.cons (o := ⟨some 17, _, _, _, _, _⟩) rfl (fun K hK => ?_) AllReadyH.nil
    go_simp
    have hB2 := hHeld.1
    have hIk2 := hHeld.2
    with_reducible refine (write_groups _ _ _ (zs.take (2 * F)) (by omega) _ (by have := hIk2.isB 0 (2 * F) 16 (by omega) (by omega) (by omega) (by omega); rwa [List.drop_zero] at this) (G.on hB2)).mono ?_
    rintro e w3 ⟨rfl, hb3⟩
    have hB3 := hB2.trans (hb3.mono hB2.size)
    have hIk3 := hIk2.below hb3 hIk2.lt
    rw [hg1]
    go_wp2_with fail
    clear hHeld
    refine hK.out _ _ (⟨hB3, hIk3⟩) (fun hHeld => ?_)
    clear hK K
    try simp only [Act.put, List.setIfInBounds_toArray, List.set_cons_zero, List.set_cons_succ]
    refine wpAnyH_take (i := 4) (oi := ⟨some 18, _, _, _, _, _⟩) (v := ?_) rfl (by kernel_rfl) (by kernel_rfl) (by kernel_rfl) (fun _ _ _ h => h) (Or.inl ⟨by rfl, ?_⟩) hHeld ?_
    rotate_left
    · intro w hSw; go_simp; try with_reducible rfl
    try simp only [Act.put, List.setIfInBounds_toArray, List.set_cons_zero, List.set_cons_succ]
    refine wpAnyH_ready (rs := [10]) (by kernel_rfl) (by simp) ?_
    refine AllReadyH.cons (o := ⟨some 24, _, _, _, _, _⟩) rfl (fun K hK => ?_) AllReadyH.nil
    go_simp
    have hB4 := hB3
    have hIk4 := hIk3
    with_reducible refine (write_groups _ _ _ (zs.drop (2 * (F + L))) (by omega) _ (hTail _ hIk4) (G.on hB4)).mono ?_
    rintro e w4 ⟨rfl, hb4⟩
    have hB5 := hB4.trans (hb4.mono hB4.size)
    have hIk5 := hIk4.below hb4 hIk4.lt
    rw [hg2]
    go_wp2_with fail
    clear hHeld
    refine hK.out _ _ (⟨hB5, hIk5⟩) (fun hHeld => ?_)
    clear hK K
    try simp only [Act.put, List.setIfInBounds_toArray, List.set_cons_zero, List.set_cons_succ]
    refine wpAnyH_take (i := 11) (oi := ⟨some 25, _, _, _, _, _⟩) (v := ?_) rfl (by kernel_rfl) (by kernel_rfl) (by kernel_rfl) (fun _ _ _ h => h) (Or.inl ⟨by rfl, ?_⟩) hHeld ?_
    rotate_left
    · intro w hSw; go_simp; try with_reducible rfl
    try simp only [Act.put, List.setIfInBounds_toArray, List.set_cons_zero, List.set_cons_succ]
    refine wpAnyH_take (i := 12) (oi := ⟨some 2, _, _, _, _, _⟩) (v := ?_) rfl (by kernel_rfl) (by kernel_rfl) (by kernel_rfl) (fun _ _ _ h => h) (Or.inl ⟨by rfl, ?_⟩) hHeld ?_
    rotate_left
    · intro w hSw; go_simp; try with_reducible rfl
    try simp only [Act.put, List.setIfInBounds_toArray, List.set_cons_zero, List.set_cons_succ]
    refine wpAnyH_done (by kernel_rfl) ?_ _
    go_wp2
    go_ret
    exact ⟨rfl, hB5⟩
end Go.Proofs.YthammgljcchloaaDoor
