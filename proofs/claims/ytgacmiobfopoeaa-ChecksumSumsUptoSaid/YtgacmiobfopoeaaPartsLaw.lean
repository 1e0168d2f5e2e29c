import Derived.Test.YtgacmiobfopoeaaRefCheck
import Derived.Test.YtgacmiobfopoeaaSlices
import Derived.Test.YtgacmiobfopoeaaMod
import Derived.RegionTactic
import Derived.ChangeAlike
import Derived.Deep.RegionLaw
import Derived.Deep.RegionHeld3
namespace Go.Proofs.Ytgacmiobfopoeaa
open Go.RowKit

theorem parts_flat (l : List UInt8) (i k : Nat) (h : i ≤ k) : [l.take i, (l.drop i).take (k - i), l.drop k].flatten = l := by
  simp only [List.flatten_cons, List.flatten_nil, List.append_nil]
  have e : l.drop k = (l.drop i).drop (k - i) := by rw [List.drop_drop]; congr 1; omega
  rw [e, List.take_append_drop, List.take_append_drop]

theorem below_one {u v : World} (h : Below u.heap.size u v) : ∀ o, Below u.heap.size u (v.alloc o) := fun _ => h.alloc h.size _
theorem below_two {u v : World} (h : Below u.heap.size u v) : ∀ o o', Below u.heap.size u ((v.alloc o).alloc o') := fun _ _ => (h.alloc h.size _).alloc (Nat.le_trans h.size (by rw [World.size_alloc]; exact Nat.le_succ _)) _

/-- two new rows of slices, in either order -/
theorem rows_both {u : World} {A B : Array Value} {n m : Nat} {L M : List (List UInt8)} (hA : ∀ v, Below u.heap.size u v → IsBB (v.alloc (.cells A 22)) (some ⟨v.heap.size, 0, none⟩) n n L) (hB : ∀ v, Below u.heap.size u v → IsBB (v.alloc (.cells B 22)) (some ⟨v.heap.size, 0, none⟩) m m M) :
    IsBB (u.alloc (.cells A 22)) (some ⟨u.heap.size, 0, none⟩) n n L ∧ IsBB ((u.alloc (.cells A 22)).alloc (.cells B 22)) (some ⟨u.heap.size, 0, none⟩) n n L ∧
    IsBB ((u.alloc (.cells A 22)).alloc (.cells B 22)) (some ⟨u.heap.size + 1, 0, none⟩) m m M ∧ IsBB ((u.alloc (.cells B 22)).alloc (.cells A 22)) (some ⟨u.heap.size + 1, 0, none⟩) n n L ∧
    IsBB ((u.alloc (.cells B 22)).alloc (.cells A 22)) (some ⟨u.heap.size, 0, none⟩) m m M := by
  have a1 := hA u (Below.refl _ _)
  have b1 := hB u (Below.refl _ _)
  have a2 := hA (u.alloc (.cells B 22)) ((Below.refl _ _).alloc (Nat.le_refl _) _)
  have b2 := hB (u.alloc (.cells A 22)) ((Below.refl _ _).alloc (Nat.le_refl _) _)
  rw [World.size_alloc] at a2 b2
  exact ⟨a1, a1.below ((Below.refl _ _).alloc (Nat.le_refl _) _), b2, a2, b1.below ((Below.refl _ _).alloc (Nat.le_refl _) _)⟩

set_option maxHeartbeats 4000000 in
theorem parts_walk (a : Option Addr) (len cap : Nat) (l : List UInt8) (n m : Int) (w : World) (hb : IsB w a len cap l) (hcap : cap ≤ 140737488351232) (hn : I64 n) (hm : I64 m) :
    Calls Try.prog 7 #[.slice a len cap, .int .i64 n, .int .i64 m] w (RetS (.bool true) w) := by
  have hle := hb.le
  have hl := hid hb.length
  go_enter Try.func7, Try.ntmps7
  go_wp2_with fail
  refine (mod_some n ((len : Int) + 1) _ (by omega) (by omega) hn).mono ?_
  rintro e w' ⟨i, rfl, hi, rfl⟩
  go_wp2_with fail
  refine (mod_some m ((len : Int) - (i : Int) + 1) _ (by omega) (by omega) hm).mono ?_
  rintro e w' ⟨d, rfl, hd, rfl⟩
  go_wp2_with fail
  rw [show (i : Int) + (d : Int) = ((i + d : Nat) : Int) from by omega]
  have hbd : IsB w.drew a len cap l := hb.below ((Below.refl _ _).drew)
  obtain ⟨p1, hp1, K1⟩ := slice_head hbd i (by omega)
  obtain ⟨p2, hp2, K2⟩ := slice_mid hbd i (i + d) (by omega) (by omega)
  obtain ⟨p3, hp3, K3⟩ := slice_tail hbd (i + d) (by omega)
  have F3 : Hid ([l.take i, (l.drop i).take (i + d - i), l.drop (i + d)].flatten = l) := hid (parts_flat l i (i + d) (by omega))
  have F3l : Hid ([l.take i, (l.drop i).take (i + d - i), l.drop (i + d)].flatten.length ≤ 281474976710656) := hid (by rw [F3.out]; have := hl.out; omega)
  have F1 : Hid ([l].flatten = l) := hid (by simp)
  have F1l : Hid ([l].flatten.length ≤ 281474976710656) := hid (by rw [F1.out]; have := hl.out; omega)
  generalize l.take i = l1 at *
  generalize (l.drop i).take (i + d - i) = l2 at *
  generalize l.drop (i + d) = l3 at *
  generalize i + d - i = m2 at *
  generalize i + d = k at *
  have HH := hid hle
  clear hle hi hd
  go_region_held3 (fun w' => Below w.drew.heap.size w.drew w') (first | exact Below.refl _ _ | exact hB1 | exact hB2 _ | exact hB3 _ _) (first | (go_at_call 11; refine (known_any _).mono ?_; rintro e w1 ⟨rfl, hB1⟩; have K1' := K1.below hB1; have K2' := K2.below hB1; have K3' := K3.below hB1; have J' := hbd.below hB1; have hB2 := below_one hB1; have hB3 := below_two hB1; obtain ⟨r1, r2, r3, r4, r5⟩ := rows_both (fun v hv => isBB_three (K1'.below hv) (K2'.below hv) (K3'.below hv)) (fun v hv => isBB_one (J'.below hv))) | (refine (internet_any _ 3 3 [l1, l2, l3] _ r1 F3l.out).mono ?_; rintro e w2 ⟨rfl, rfl⟩; rw [F3.out]) | (refine (internet_any _ 3 3 [l1, l2, l3] _ r2 F3l.out).mono ?_; rintro e w2 ⟨rfl, rfl⟩; rw [F3.out]) | (refine (internet_any _ 3 3 [l1, l2, l3] _ r4 F3l.out).mono ?_; rintro e w2 ⟨rfl, rfl⟩; rw [F3.out]) | (refine (internet_any _ 1 1 [l] _ r3 F1l.out).mono ?_; rintro e w2 ⟨rfl, rfl⟩; rw [F1.out]) | (refine (internet_any _ 1 1 [l] _ r5 F1l.out).mono ?_; rintro e w2 ⟨rfl, rfl⟩; rw [F1.out]))
  all_goals
    go_wp2
    go_ret
    exact ⟨ret_bool (by simp), seq ((Below.refl _ _).drew) (hB3 _ _)⟩
end Go.Proofs.Ytgacmiobfopoeaa
