/-
  take, finish, begin.
-/
import Derived.Test.YtjlogmbgapnceaaRounds
import Derived.Test.YtjlogmbgapnceaaLe
import Derived.Test.YtjlogmbgapnceaaSlices
namespace Go.Proofs.Ytjlogmbgapnceaa
open Go.RowKit

/-- the state with a word taken in -/
def word (s : St) (m : UInt64) : St :=
  let t := rnds 2 ⟨s.a, s.b, s.c, xr s.d m⟩
  ⟨xr t.a m, t.b, t.c, t.d⟩
/-- the sum at the end -/
def fin (s : St) : UInt64 :=
  let t := rnds 4 ⟨s.a, s.b, xr s.c 255, s.d⟩
  xr (xr (xr t.a t.b) t.c) t.d

set_option maxHeartbeats 1000000 in
theorem take_any (g : Nat) (s : St) (m : UInt64) (w : World) (hs : Four w g s) :
    Calls Try.prog 21 #[.pointer (some ⟨g, 0, none⟩), .int .u64 (m.toNat : Int)] w fun e w' => e = .returned (.tuple #[]) ∧ Four w' g (word s m) ∧ Below g w w' := by
  obtain ⟨a, b, c, d⟩ := s
  have HS := hid hs
  have hB : Below g w w := Below.refl _ _
  obtain ⟨c0, c1, c2, c3⟩ := hs.cells
  obtain ⟨f0, f1, f2, f3⟩ := hs.free
  dsimp only at c0 c1 c2 c3
  clear hs
  go_enter Try.func21, Try.ntmps21
  go_wp2_with fail
  go_still_tail 8, (by kernel_rfl)
  go_wp2_with fail
  rw [xr_val]
  clear c0 c1 c2 c3 f0 f1 f2 f3
  obtain ⟨w1, e1, HS, hB, c0, c1, c2, c3, f0, f1, f2, f3⟩ := after3 HS hB (xr d m)
  rw [← e1]; clear e1
  refine (rounds_any g _ 2 _ HS.out (by decide)).mono ?_
  rintro e w2 ⟨rfl, hs2, hb2⟩
  clear c0 c1 c2 c3 f0 f1 f2 f3 HS
  have HW : Hid (word ⟨a, b, c, d⟩ m = ⟨xr (rnds 2 ⟨a, b, c, xr d m⟩).a m, (rnds 2 ⟨a, b, c, xr d m⟩).b, (rnds 2 ⟨a, b, c, xr d m⟩).c, (rnds 2 ⟨a, b, c, xr d m⟩).d⟩) := hid rfl
  generalize rnds 2 ⟨a, b, c, xr d m⟩ = t at *
  obtain ⟨a', b', c', d'⟩ := t
  have HS := hid hs2
  have hB := hB.trans hb2
  obtain ⟨c0, c1, c2, c3⟩ := hs2.cells
  obtain ⟨f0, f1, f2, f3⟩ := hs2.free
  dsimp only at c0 c1 c2 c3
  clear hs2 hb2
  go_wp2_with fail
  go_still_tail 8, (by kernel_rfl)
  go_wp2_with fail
  rw [xr_val]
  clear c0 c1 c2 c3 f0 f1 f2 f3
  obtain ⟨w3, e1, HS, hB, c0, c1, c2, c3, f0, f1, f2, f3⟩ := after0 HS hB (xr a' m)
  rw [← e1]; clear e1
  exact bodyPost_end (v := .tuple #[]) (by simp [results, Try.results21, go_sem]) rfl ⟨rfl, by rw [HW.out]; exact HS.out, hB⟩

set_option maxHeartbeats 1000000 in
theorem finish_any (g : Nat) (s : St) (w : World) (hs : Four w g s) :
    Calls Try.prog 23 #[.pointer (some ⟨g, 0, none⟩)] w fun e w' => e = .returned (.int .u64 ((fin s).toNat : Int)) ∧ Below g w w' := by
  obtain ⟨a, b, c, d⟩ := s
  have HS := hid hs
  have hB : Below g w w := Below.refl _ _
  obtain ⟨c0, c1, c2, c3⟩ := hs.cells
  obtain ⟨f0, f1, f2, f3⟩ := hs.free
  dsimp only at c0 c1 c2 c3
  clear hs
  have x255 := xr_val c 255
  go_enter Try.func23, Try.ntmps23
  go_wp2_with fail
  go_still_tail 7, (by kernel_rfl)
  go_wp2_with fail
  rw [show (255 : Int) = ((255 : UInt64).toNat : Int) from rfl, xr_val]
  clear c0 c1 c2 c3 f0 f1 f2 f3
  obtain ⟨w1, e1, HS, hB, c0, c1, c2, c3, f0, f1, f2, f3⟩ := after2 HS hB (xr c 255)
  rw [← e1]; clear e1
  refine (rounds_any g _ 4 _ HS.out (by decide)).mono ?_
  rintro e w2 ⟨rfl, hs2, hb2⟩
  clear c0 c1 c2 c3 f0 f1 f2 f3 HS
  have HW : Hid (fin ⟨a, b, c, d⟩ = xr (xr (xr (rnds 4 ⟨a, b, xr c 255, d⟩).a (rnds 4 ⟨a, b, xr c 255, d⟩).b) (rnds 4 ⟨a, b, xr c 255, d⟩).c) (rnds 4 ⟨a, b, xr c 255, d⟩).d) := hid rfl
  generalize rnds 4 ⟨a, b, xr c 255, d⟩ = t at *
  obtain ⟨a', b', c', d'⟩ := t
  have hB := hB.trans hb2
  obtain ⟨c0, c1, c2, c3⟩ := hs2.cells
  dsimp only at c0 c1 c2 c3
  clear hs2 hb2
  go_wp2_with fail
  go_quiet (fail)
  go_wp2_with fail
  go_ret
  exact ⟨ret_int (by rw [HW.out, xr_val, xr_val, xr_val]), below_drewN hB _⟩
end Go.Proofs.Ytjlogmbgapnceaa
