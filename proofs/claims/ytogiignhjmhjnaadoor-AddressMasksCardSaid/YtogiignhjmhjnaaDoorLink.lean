/-
  Link addresses: Valid, IID, LinkLocal.
-/
import Derived.Test.YtogiignhjmhjnaaDoorHalf
import Derived.Test.YtogiignhjmhjnaaDoorGl
namespace Go.Proofs.YtogiignhjmhjnaaDoor
open Go.RowKit

/-- a link address by value -/
def av (m s e : Int) : Value := .agg #[.int .i64 m, .int .u16 s, .int .u64 e]
def validA (m s e : Int) : Bool := decide (m = 0 ∧ s = 0 ∧ e = 0 ∨ m = 2 ∧ e = 0 ∨ m = 3 ∧ s = 0)
/-- the interface identifier -/
def iidA (m s e : Int) : Int × Bool :=
  if validA m s e = false ∨ m = 0 then (0, false) else if m = 2 then (1099478073344 + s, true) else (bits .xor .u64 e 144115188075855872, true)

set_option maxHeartbeats 1600000 in
set_option maxRecDepth 100000 in
theorem valid_any (m s e : Int) (w : World) :
    Calls Tryd.prog 37 #[av m s e] w (RetS (.bool (validA m s e)) w) := by
  rw [av]
  go_enter Tryd.func37, Tryd.ntmps37
  go_wp2
  all_goals go_ret
  all_goals refine ⟨ret_bool ?_, (Below.refl _ _).alloc (Nat.le_refl _) _⟩
  all_goals (rw [Bool.eq_iff_iff]; simp [validA]; simp only [beq_iff_eq, beq_eq_false_iff_ne, ne_eq] at *; omega)

set_option maxHeartbeats 1600000 in
set_option maxRecDepth 100000 in
theorem iid_any (m s e : Int) (w : World) (hs : 0 ≤ s) (hs2 : s < 65536) :
    Calls Tryd.prog 33 #[av m s e] w (RetS (.tuple #[.int .u64 (iidA m s e).1, .bool (iidA m s e).2]) w) := by
  have hv := valid_any m s e
  generalize hval : validA m s e = b at hv
  have hdef : iidA m s e = if b = false ∨ m = 0 then (0, false) else if m = 2 then (1099478073344 + s, true) else (bits .xor .u64 e 144115188075855872, true) := by rw [← hval]; rfl
  have HD := hid hdef
  clear hdef hval
  simp only [av] at hv ⊢
  go_enter Tryd.func33, Tryd.ntmps33
  go_wp2_with fail
  have hB := (Below.refl w.heap.size w).alloc (Nat.le_refl _) (.cells #[.int .i64 m, .int .u16 s, .int .u64 e] 53)
  with_reducible refine (hv _).mono ?_
  rintro e' w2 ⟨rfl, hb2⟩
  have c0 : w2.cell? ⟨w.heap.size, 0, none⟩ = some (.int .i64 m) := (hb2.cell (p := ⟨w.heap.size, 0, none⟩) (by simp)).trans (by simp)
  have c1 : w2.cell? ⟨w.heap.size, 1, none⟩ = some (.int .u16 s) := (hb2.cell (p := ⟨w.heap.size, 1, none⟩) (by simp)).trans (by simp)
  have c2 : w2.cell? ⟨w.heap.size, 2, none⟩ = some (.int .u64 e) := (hb2.cell (p := ⟨w.heap.size, 2, none⟩) (by simp)).trans (by simp)
  have hB2 := hB.trans (hb2.mono hB.size)
  clear hb2 hB hv
  by_cases h0 : b = false ∨ m = 0
  · have hi : iidA m s e = (0, false) := by rw [HD.out, if_pos h0]
    have HI := hid hi
    clear hi
    clear HD
    rcases h0 with rfl | rfl
    · go_wp2
      go_ret2
      exact ⟨by rw [HI.out]; rfl, hB2⟩
    · cases b
      all_goals go_wp2
      all_goals go_ret2
      all_goals exact ⟨by rw [HI.out]; rfl, hB2⟩
  · have hb : b = true := by cases b <;> simp at h0 ⊢
    have hm0 : m ≠ 0 := fun h => h0 (Or.inr h)
    subst hb
    by_cases h2 : m = 2
    · have hi : iidA m s e = (1099478073344 + s, true) := by rw [HD.out, if_neg h0, if_pos h2]
      have HI := hid hi
      clear HD hi h0
      subst h2
      go_wp2
      go_ret2
      exact ⟨by rw [HI.out]; rfl, hB2⟩
    · have hi : iidA m s e = (bits .xor .u64 e 144115188075855872, true) := by rw [HD.out, if_neg h0, if_neg h2]
      have HI := hid hi
      clear HD hi h0
      go_wp2
      go_ret2
      exact ⟨by rw [HI.out]; rfl, hB2⟩

theorem iid_range (m s e : Int) (hs : 0 ≤ s) (hs2 : s < 65536) (he : 0 ≤ e) (he2 : e < 18446744073709551616) : 0 ≤ (iidA m s e).1 ∧ (iidA m s e).1 < 18446744073709551616 := by
  unfold iidA
  split
  · simp
  · split
    · simp; omega
    · obtain ⟨e, rfl⟩ := Int.eq_ofNat_of_zero_le he
      rw [show (144115188075855872 : Int) = ((144115188075855872 : Nat) : Int) from rfl, bits_xor_u64_nat e 144115188075855872 (by omega) (by decide)]
      have := Nat.xor_lt_two_pow (n := 64) (x := e) (y := 144115188075855872) (by omega) (by decide)
      simp; omega

def llHalf : Nat := 18338657682652659712
/-- the address on its link -/
def llA (m s e : Int) : List UInt8 := if (iidA m s e).2 = true then beBytes llHalf 8 ++ beBytes (iidA m s e).1.toNat 8 else zeros 16
theorem length_llA (m s e : Int) : (llA m s e).length = 16 := by
  unfold llA; split
  · rw [List.length_append, length_beBytes, length_beBytes]
  · exact length_zeros 16

set_option maxHeartbeats 1600000 in
set_option maxRecDepth 100000 in
theorem link_local (m s e : Int) (w : World) (hs : 0 ≤ s) (hs2 : s < 65536) (he : 0 ≤ e) (he2 : e < 18446744073709551616) :
    Calls Tryd.prog 35 #[av m s e] w (RetS (.tuple #[iv (llA m s e), .bool (iidA m s e).2]) w) := by
  have hv := fun w => iid_any m s e w hs hs2
  obtain ⟨r1, r2⟩ := iid_range m s e hs hs2 he he2
  have hdef : llA m s e = if (iidA m s e).2 = true then beBytes llHalf 8 ++ beBytes (iidA m s e).1.toNat 8 else zeros 16 := rfl
  generalize iidA m s e = r at hv r1 r2 hdef ⊢
  obtain ⟨x, b⟩ := r
  dsimp only at hv r1 r2 hdef ⊢
  obtain ⟨x, rfl⟩ := Int.eq_ofNat_of_zero_le r1
  rw [Int.toNat_natCast] at hdef
  have HD := hid hdef
  clear hdef
  simp only [av] at hv ⊢
  go_enter Tryd.func35, Tryd.ntmps35
  go_wp2_with fail
  have hI := Ik.lit (w.alloc (.cells #[.int .i64 m, .int .u16 s, .int .u64 e] 53))
  rw [World.size_alloc] at hI
  have hB := two_below w (.cells #[.int .i64 m, .int .u16 s, .int .u64 e] 53) (.cells #[.int .u8 0, .int .u8 0, .int .u8 0, .int .u8 0, .int .u8 0, .int .u8 0, .int .u8 0, .int .u8 0, .int .u8 0, .int .u8 0, .int .u8 0, .int .u8 0, .int .u8 0, .int .u8 0, .int .u8 0, .int .u8 0] 23)
  generalize (w.alloc _).alloc _ = w2 at hI hB ⊢
  with_reducible refine (hv w2).mono ?_
  rintro e' w3 ⟨rfl, hb3⟩
  have hB3 := hB.trans (hb3.mono hB.size)
  have hI3 := hI.below hb3 hI.lt
  clear hv hb3 hI hB
  cases b
  · have h0 : llA m s e = zeros 16 := HD.out
    go_wp2_with (with_reducible refine wpList_store_ip0 (op := ⟨none, _, _, _, _, _⟩) rfl (.tmp 2) (.tmp 13) rfl rfl rfl hI3 (length_zeros 16) w.heap.size w hB3 (by omega) ?_; intro w7 hR7 hB7)
    exact bodyPost_ret (results_ip2 rfl rfl hR7.out (length_zeros 16)) rfl ⟨by rw [h0]; rfl, hB7⟩
  · have h0 : llA m s e = beBytes llHalf 8 ++ beBytes x 8 := HD.out
    have hl16 : (beBytes llHalf 8 ++ beBytes x 8).length = 16 := by rw [List.length_append, length_beBytes, length_beBytes]
    go_wp2_with fail
    have hw := whole_any llHalf x (by decide) (by omega) w3
    rw [show ((llHalf : Nat) : Int) = 18338657682652659712 from rfl] at hw
    with_reducible refine hw.mono ?_
    rintro e' w4 ⟨rfl, hb4⟩
    have hB4 := hB3.trans (hb4.mono hB3.size)
    have hI4 := hI3.below hb4 hI3.lt
    go_wp2_with (with_reducible refine wpList_store_ip (op := ⟨none, _, _, _, _, _⟩) rfl (.tmp 2) (.tmp 15) rfl rfl rfl hI4 (length_zeros 16) hl16 w.heap.size w hB4 (by omega) ?_; intro w7 hR7 hB7)
    exact bodyPost_ret (results_ip2 rfl rfl hR7.out hl16) rfl ⟨by rw [h0]; rfl, hB7⟩
end Go.Proofs.YtogiignhjmhjnaaDoor
