/-
  Sum, Internet and Update.
-/
import Derived.Test.YtgacmiobfopoeaaParts
namespace Go.Proofs.Ytgacmiobfopoeaa
open Go.RowKit

theorem IsBB.below {w w' : World} {a : Option Addr} {len cap : Nat} {L : List (List UInt8)} (h : IsBB w a len cap L) (hb : Below w.heap.size w w') : IsBB w' a len cap L := by
  refine ⟨h.length, h.le, h.max, h.nil, fun x hx => ?_⟩
  obtain ⟨h1, h2⟩ := h.cells x hx
  refine ⟨h1, fun j hj => ?_⟩
  obtain ⟨c, m, k, h3, h4⟩ := h2 j hj
  refine ⟨c, m, k, ?_, h4.below hb⟩
  rw [hb.cell (p := ⟨x.block, x.off + j, none⟩) (block_lt_of_cell h3)]
  exact h3

/-- a new row of slices -/
theorem isBB_new (w : World) (A : Array Value) (n : Nat) (L : List (List UInt8)) (hA : A.size = n) (hL : L.length = n) (hn : n ≤ 281474976710656) (h : ∀ j, j < n → ∃ c m k, A[j]? = some (.slice c m k) ∧ IsB w c m k (L.getD j [])) :
    IsBB (w.alloc (.cells A 22)) (some ⟨w.heap.size, 0, none⟩) n n L := by
  have hrow : (w.alloc (.cells A 22)).heap[w.heap.size]? = some (.cells A 22 (0, 0)) := heap_alloc_new w _
  refine ⟨hL, Nat.le_refl _, hn, by simp, fun x hx => ?_⟩
  simp at hx; subst hx
  refine ⟨rfl, fun j hj => ?_⟩
  obtain ⟨c, m, k, h1, h2⟩ := h j hj
  refine ⟨c, m, k, ?_, h2.below ((Below.refl _ _).alloc (Nat.le_refl _) _)⟩
  show World.cell? _ ⟨w.heap.size, 0 + j, none⟩ = _
  rw [Nat.zero_add, cell_of_row _ _ j _ _ _ hrow]
  exact h1

theorem isBB_one {w : World} {a : Option Addr} {len cap : Nat} {l : List UInt8} (h : IsB w a len cap l) : IsBB (w.alloc (.cells #[.slice a len cap] 22)) (some ⟨w.heap.size, 0, none⟩) 1 1 [l] :=
  isBB_new w _ 1 [l] rfl rfl (by omega) fun j hj => by
    obtain rfl : j = 0 := by omega
    exact ⟨a, len, cap, rfl, h⟩

theorem isBB_two {w : World} {a b : Option Addr} {la ca lb cb : Nat} {l m : List UInt8} (h : IsB w a la ca l) (k : IsB w b lb cb m) : IsBB (w.alloc (.cells #[.slice a la ca, .slice b lb cb] 22)) (some ⟨w.heap.size, 0, none⟩) 2 2 [l, m] :=
  isBB_new w _ 2 [l, m] rfl rfl (by omega) fun j hj => by
    rcases (by omega : j = 0 ∨ j = 1) with rfl | rfl
    · exact ⟨a, la, ca, rfl, h⟩
    · exact ⟨b, lb, cb, rfl, k⟩

theorem isBB_three {w : World} {a b c : Option Addr} {la ca lb cb lc cc : Nat} {l m n : List UInt8} (h : IsB w a la ca l) (k : IsB w b lb cb m) (i : IsB w c lc cc n) : IsBB (w.alloc (.cells #[.slice a la ca, .slice b lb cb, .slice c lc cc] 22)) (some ⟨w.heap.size, 0, none⟩) 3 3 [l, m, n] :=
  isBB_new w _ 3 [l, m, n] rfl rfl (by omega) fun j hj => by
    rcases (by omega : j = 0 ∨ j = 1 ∨ j = 2) with rfl | rfl | rfl
    · exact ⟨a, la, ca, rfl, h⟩
    · exact ⟨b, lb, cb, rfl, k⟩
    · exact ⟨c, lc, cc, rfl, i⟩

theorem isBB_none (w : World) : IsBB w none 0 0 [] := ⟨rfl, Nat.le_refl _, by omega, fun _ => rfl, by simp⟩

theorem u64_bsum (p : Nat) (l : List UInt8) (h : l.length ≤ 281474976710656) : U64 ((bsum p l : Nat) : Int) := by
  have := bsum_le l p
  exact ⟨by omega, by omega⟩

/-- the folded sum of the words of l -/
def sumN (l : List UInt8) : Nat := foldN (bsum 0 l)
theorem sumN_le (l : List UInt8) : sumN l ≤ 65535 := foldN_le _

set_option maxHeartbeats 1000000 in
theorem sum_any (a : Option Addr) (len cap : Nat) (l : List UInt8) (w : World) (hb : IsB w a len cap l) :
    Calls Try.prog 12 #[.slice a len cap] w (RetS (.int .u16 ((sumN l : Nat) : Int)) w) := by
  have hle := hb.le
  have hmax := hb.max
  have hl := hb.length
  go_enter Try.func12, Try.ntmps12
  go_wp2_with fail
  refine (total_any _ 1 1 [l] _ (isBB_one hb) (by simp; omega)).mono ?_
  rintro e w' ⟨rfl, rfl⟩
  rw [show [l].flatten = l from by simp]
  go_wp2_with fail
  refine (fold_any (bsum 0 l) _ (u64_bsum _ _ (by omega))).mono ?_
  rintro e w' ⟨rfl, rfl⟩
  go_wp2
  go_ret
  exact ⟨rfl, (Below.refl _ _).alloc (Nat.le_refl _) _⟩

theorem u16_sub (n : Nat) (h : n ≤ 65535) : IntKind.u16.wrap (65535 - (n : Int)) = ((65535 - n : Nat) : Int) := by
  rw [IntKind.wrap_u16]; omega

set_option maxHeartbeats 1000000 in
theorem internet_any (a : Option Addr) (len cap : Nat) (L : List (List UInt8)) (w : World) (hb : IsBB w a len cap L) (hlen : L.flatten.length ≤ 281474976710656) :
    Calls Try.prog 14 #[.slice a len cap] w (Ret (.int .u16 ((65535 - sumN L.flatten : Nat) : Int)) w) := by
  have hs := sumN_le L.flatten
  go_enter Try.func14, Try.ntmps14
  go_wp2_with fail
  refine (total_any _ _ _ L _ hb hlen).mono ?_
  rintro e w' ⟨rfl, rfl⟩
  go_wp2_with fail
  refine (fold_any (bsum 0 L.flatten) _ (u64_bsum _ _ hlen)).mono ?_
  rintro e w' ⟨rfl, rfl⟩
  go_wp2
  go_ret
  refine ⟨ret_int ?_, rfl⟩
  exact u16_sub _ hs

/-- the updated checksum -/
def updN (s o n : Nat) : Nat := 65535 - foldN ((65535 - s) + (65535 - o) + n)

set_option maxHeartbeats 1000000 in
theorem update_any (s o n : Nat) (w : World) (hs : s < 65536) (ho : o < 65536) (hn : n < 65536) :
    Calls Try.prog 16 #[.int .u16 (s : Int), .int .u16 (o : Int), .int .u16 (n : Int)] w (Ret (.int .u16 ((updN s o n : Nat) : Int)) w) := by
  have hf := foldN_le ((65535 - s) + (65535 - o) + n)
  go_enter Try.func16, Try.ntmps16
  go_wp2_with fail
  rw [show (65535 - (s : Int) + (65535 - (o : Int)) + (n : Int)) = ((65535 - s + (65535 - o) + n : Nat) : Int) from by omega]
  refine (fold_any ((65535 - s) + (65535 - o) + n) _ ⟨by omega, by omega⟩).mono ?_
  rintro e w' ⟨rfl, rfl⟩
  go_wp2
  go_ret
  refine ⟨ret_int ?_, rfl⟩
  unfold updN; omega
end Go.Proofs.Ytgacmiobfopoeaa
