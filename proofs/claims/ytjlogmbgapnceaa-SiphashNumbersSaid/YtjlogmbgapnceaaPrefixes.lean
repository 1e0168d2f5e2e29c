import Derived.Test.YtjlogmbgapnceaaLow
import Derived.Test.YtjlogmbgapnceaaKnown
import Derived.Test.YtjlogmbgapnceaaMod
namespace Go.Proofs.Ytjlogmbgapnceaa
open Go.RowKit

theorem leB_head (v : UInt64) (n m : Nat) (h : n ≤ m) : (leB v n == (leB v m).take n) = true := by
  rw [leB_take v m n h]; simp

theorem tag_yes (k : List UInt8) (a : Option Addr) (len cap : Nat) (l : List UInt8) (n : Nat) (w : World) (hk : k.length = 16) (hb : IsB w a len cap l) (h1 : 1 ≤ n) (h8 : n ≤ 8) :
    Calls Try.prog 13 #[kv k, .slice a len cap, .int .i64 n] w fun e w' => ∃ g, e = .returned (.tuple #[.slice (some ⟨g, 0, none⟩) n n, .bool true]) ∧ w.heap.size ≤ g ∧ Own w' g (leB (sip k l) n) ∧ Below w.heap.size w w' :=
  (tag_any k a len cap l n w hk hb (show I64 (n : Int) from by unfold I64; omega)).mono fun e w' h => by
    rcases h with ⟨_, g, he, hg, hO, hB⟩ | ⟨h0, _⟩
    · exact ⟨g, he, hg, hO, hB⟩
    · omega

theorem tag_suc (k : List UInt8) (a : Option Addr) (len cap : Nat) (l : List UInt8) (j : Nat) (w : World) (hk : k.length = 16) (hb : IsB w a len cap l) (h8 : (j : Int) < 8) :
    Calls Try.prog 13 #[kv k, .slice a len cap, .int .i64 (1 + (j : Int))] w fun e w' => ∃ g, e = .returned (.tuple #[.slice (some ⟨g, 0, none⟩) (1 + j) (1 + j), .bool true]) ∧ w.heap.size ≤ g ∧ Own w' g (leB (sip k l) (1 + j)) ∧ Below w.heap.size w w' := by
  have h := tag_yes k a len cap l (1 + j) w hk hb (by omega) (by omega)
  rw [show ((1 + j : Nat) : Int) = 1 + (j : Int) from by omega] at h
  exact h

set_option maxHeartbeats 4000000 in
theorem prefixes_walk (k : List UInt8) (a : Option Addr) (len cap : Nat) (l : List UInt8) (n m : Int) (w : World) (hk : k.length = 16) (hb : IsB w a len cap l) (hcap : cap ≤ 140737488351232) (hn : I64 n) (hm : I64 m) :
    Calls Try.prog 6 #[kv k, .slice a len cap, .int .i64 n, .int .i64 m] w (RetS (.bool true) w) := by
  have hky := Ky.new w k
  have hB := (Below.refl w.heap.size w).alloc (Nat.le_refl _) (.cells (row k) 23)
  have hb1 := hb.below hB
  have hg := hB.size
  rw [kv]
  go_enter Try.func6, Try.ntmps6
  go_wp2_with fail
  generalize w.alloc (.cells (row k) 23) = w1 at *
  with_reducible refine (mod_some n 8 _ (by omega) (by omega) hn).mono ?_
  rintro e w' ⟨i, rfl, hi, rfl⟩
  go_wp2_with fail
  with_reducible refine (mod_some m 8 _ (by omega) (by omega) hm).mono ?_
  rintro e w' ⟨j, rfl, hj, rfl⟩
  rcases Nat.lt_or_ge j i with hij | hij
  all_goals
    go_wp2_with (with_reducible refine wpList_load_key (op := ⟨some 25, _, _, _, _, _⟩) rfl (.tmp 4) rfl rfl hky hk ?_)
    with_reducible refine (tag_suc k a len cap l _ _ hk hb1 (by assumption)).mono ?_
    rintro e w2 ⟨g1, rfl, hg1, hO1, hB2⟩
    have hky2 := hky.below hB2 hky.lt
    have hb2 := hb1.below hB2
    have B2 := hB.trans (hB2.mono hg)
    have hg2 := B2.size
    go_wp2_with (with_reducible refine wpList_load_key (op := ⟨some 32, _, _, _, _, _⟩) rfl (.tmp 4) rfl rfl hky2 hk ?_)
    with_reducible refine (tag_suc k a len cap l _ _ hk hb2 (by assumption)).mono ?_
    rintro e w3 ⟨g2, rfl, hg3, hO2, hB3⟩
    have hO3 := hO1.below hB3 hO1.lt
    have B3 := B2.trans (hB3.mono hg2)
    have J1 := hO3.isB (by rw [length_leB]; omega)
    have J2 := hO2.isB (by rw [length_leB]; omega)
    rw [length_leB] at J1 J2
    clear hky hky2 hb1 hb2 hB hB2 hB3 hO1 hO2 hO3 B2 hg hg1 hg2 hg3
    go_wp2_with fail
    with_reducible refine (known_any _).mono ?_
    rintro e w4 ⟨rfl, hb4⟩
    have K1 := J1.below hb4
    have K2 := J2.below hb4
    have B4 := B3.trans (hb4.mono B3.size)
    clear J1 J2 hb4 B3
    go_wp2_with fail
    with_reducible refine (same_any _ _ _ _ _ _ _ _ _ K1 (K2.take _ (by omega))).mono ?_
    rintro e w5 ⟨rfl, hb5⟩
    rw [leB_head _ _ _ (by omega)]
    go_wp2_with fail
    go_ret
    exact ⟨rfl, B4.trans (hb5.mono B4.size)⟩
end Go.Proofs.Ytjlogmbgapnceaa
