import Derived.Test.YtakandlbphjflaaTapeMore
import Derived.Test.YtakandlbphjflaaBox
import Derived.RegionTactic
import Derived.ChangeAlike
import Derived.Deep.RegionWith
namespace Go.Proofs.Ytakandlbphjflaa
open Go.RowKit

/-- the post of 'bits': a bit string of few bytes, in new memory -/
def RetMade (w : World) (e : Ending) (w' : World) : Prop :=
  ∃ g l n, e = .returned (.agg #[.slice (some ⟨g, 0, none⟩) l.length l.length, .int .i64 n]) ∧ w.heap.size ≤ g ∧ l.length ≤ 5 ∧ -10 ≤ n ∧ n ≤ 60 ∧ Own w' g l ∧ Below w.heap.size w w'

theorem Box.only {w w' : World} {g k : Nat} {a : Option Addr} {len cap : Nat} {n : Int} (h : Box w g a len cap n) (ho : Only k w w') (hk : g ≠ k) : Box w' g a len cap n := by
  unfold Box; rw [ho.block g h.lt hk]; exact h

set_option maxHeartbeats 4000000 in
theorem lawbits_any (a : Option Addr) (len cap : Nat) (w : World) (hI : IsI w a len cap) :
    Calls Try.prog 10 #[.slice a len cap] w (RetMade w) := by
  have hI0 := hI.below ((Below.refl _ _).alloc (Nat.le_refl _) (.cells #[.slice none 0 0, .int .i64 0] 24))
  go_enter Try.func10, Try.ntmps10
  go_wp2_with fail
  refine (new_any a len cap _ hI0).mono ?_
  rintro e w1 ⟨g, rfl, hg, hT1, hB1⟩
  have hR1 := (Box.new w none 0 0 0).below hB1 (by simp)
  have B1 : Below w.heap.size w w1 := seq ((Below.refl _ _).alloc (Nat.le_refl _) _) hB1
  simp only [World.size_alloc] at hg
  clear hB1 hI0 hI
  go_wp2_with fail
  refine (next_any g 40 _ hT1 (by decide) (by decide)).mono ?_
  rintro e w2 ⟨v, rfl, hv, hT2, hO2⟩
  have hR2 := hR1.only hO2 (by omega)
  have B2 := B1.trans (hO2.below (B := w.heap.size) (by omega) B1.size)
  have hgl := hT2.lt
  clear hT1 hO2 hR1 B1
  go_wp2_with fail
  have hS := Box.new w2 none 0 0 (v : Int)
  have hT3 := hT2.below ((Below.refl w2.heap.size w2).alloc (Nat.le_refl _) (.cells #[.slice none 0 0, .int .i64 (v : Int)] 24))
  have hR3 := hR2.below ((Below.refl w2.heap.size w2).alloc (Nat.le_refl _) (.cells #[.slice none 0 0, .int .i64 (v : Int)] 24)) hR2.lt
  have B3 := B2.alloc B2.size (.cells #[.slice none 0 0, .int .i64 (v : Int)] 24)
  refine (fill_any g (((v : Int) + 7) / 8) _ hT3 (by omega) (by omega)).mono ?_
  rintro e w4 ⟨k, l, rfl, hk, hl, hOw, hT4, hO4⟩
  simp only [World.size_alloc] at hk
  have hS4 := hS.only hO4 (by omega)
  have hR4 := hR3.only hO4 (by omega)
  have B4 := B3.trans (hO4.below (B := w.heap.size) (by omega) B3.size)
  obtain ⟨m, hm⟩ : ∃ m, l.length = m := ⟨_, rfl⟩
  rw [hm] at hl ⊢
  have hm5 : m ≤ 5 := by omega
  have HM := hid hm
  have HL : Hid ((m : Int) = ((v : Int) + 7) / 8) := hid (by omega)
  have hkl := hOw.lt
  clear hT2 hT3 hR2 hR3 B2 B3 hO4 hS hm hl
  have s0 := hS4.c0
  have s1 := hS4.c1
  have sf := hS4.frozen
  have hS5 := hS4.store0 (some ⟨k, 0, none⟩) m m
  have hR5 := hR4.set_other ⟨w2.heap.size, 0, none⟩ (.slice (some ⟨k, 0, none⟩) m m) (by simp; omega)
  have hOw5 := hOw.set_other ⟨w2.heap.size, 0, none⟩ (.slice (some ⟨k, 0, none⟩) m m) (by simp; omega)
  have hT5 := hT4.only (Only.set w2.heap.size 0 w4 (.slice (some ⟨k, 0, none⟩) m m)) hgl
  have B5 := B4.setCell (p := ⟨w2.heap.size, 0, none⟩) (by have := hR4.lt; simp; omega) (.slice (some ⟨k, 0, none⟩) m m)
  have hS4' := hid hS4
  clear hS4 hR4 hOw hT4 B4
  by_cases h8 : (v : Int) % 8 ≤ 0
  · go_wp2_with fail
    generalize w4.setCell _ _ = w5 at *
    clear s0 s1 sf hS4'
    obtain ⟨l', hl', hOx⟩ : ∃ l', l'.length = m ∧ Own w5 k l' := ⟨l, HM.out, hOw5⟩
    have hSx := hS5; have hRx := hR5; have hTx := hT5; have Bx := B5
    clear hOw5 hS5 hR5 hT5 B5
    refine (bool_any g 10 _ hTx (by decide) (by decide)).mono ?_
    rintro e w8 ⟨b, rfl, hT8, hO8⟩
    have hS8 := hSx.only hO8 (by omega)
    have hR8 := hRx.only hO8 (by omega)
    have hOw8 := hOx.only hO8 (by omega)
    have B8 := Bx.trans (hO8.below (B := w.heap.size) (by omega) Bx.size)
    clear hSx hRx hTx hOx hO8 Bx
    have s0 := hS8.c0
    have s1 := hS8.c1
    have r0 := hR8.c0
    have r1 := hR8.c1
    have rf := hR8.frozen
    cases b
    · go_wp2
      have e0 := (hR8.store0 (some ⟨k, 0, none⟩) m m).c0
      have e1 := (hR8.store (some ⟨k, 0, none⟩) m m (v : Int)).c1
      refine bodyPost_ret (v := .agg #[.slice (some ⟨k, 0, none⟩) m m, .int .i64 (v : Int)]) (by simp [results, Try.results10, go_sem, e0, e1]) rfl ?_
      exact ⟨k, l', v, by rw [hl'], by omega, by omega, by omega, by omega, (hOw8.set_other _ _ (by simp; omega)).set_other _ _ (by simp; omega), (B8.setCell (by simp) _).setCell (by simp) _⟩
    · have hTd : TapeAt w8.drew g := hT8.below ((Below.refl w8.heap.size w8).drew)
      have hSd : Box w8.drew w2.heap.size (some ⟨k, 0, none⟩) m m (v : Int) := hS8
      have hSh := hid hS8
      clear hS8
      go_wp2_with fail
      go_region_with ((go_at_call 28; refine (next_any g 20 _ hTd (by decide) (by decide)).mono ?_; rintro e w9 ⟨v9, rfl, hv9, hT9, hO9⟩; have s9 := (hSd.only hO9 (by omega)).c1; have f9 := (hSd.only hO9 (by omega)).frozen 1))
      all_goals
        have hS9 := hSd.only hO9 (by omega)
        have hR9 := (show Box w8.drew w.heap.size none 0 0 0 from hR8).only hO9 (by omega)
        have hO99 := (show Own w8.drew k l' from hOw8).only hO9 (by omega)
        have B9 := B8.drew.trans (hO9.below (B := w.heap.size) (by omega) B8.size)
        have t0 := hS9.c0
        have q0 := hR9.c0
        have q1 := hR9.c1
        have qf := hR9.frozen
        have hRW := hR9.set_other ⟨w2.heap.size, 1, none⟩ (.int .i64 ((v : Int) + ((v9 : Int) - 10))) (by simp; omega)
        have e0 := (hRW.store0 (some ⟨k, 0, none⟩) m m).c0
        have e1 := (hRW.store (some ⟨k, 0, none⟩) m m ((v : Int) + ((v9 : Int) - 10))).c1
        clear hS9 hR9 hRW hSd hTd hT9 hO9 hT8
        go_wp2
        refine bodyPost_ret (v := .agg #[.slice (some ⟨k, 0, none⟩) m m, .int .i64 ((v : Int) + ((v9 : Int) - 10))]) (by simp [results, Try.results10, go_sem, e0, e1]) rfl ?_
        exact ⟨k, l', _, by rw [hl'], by omega, by omega, by omega, by omega, ((hO99.set_other _ _ (by simp; omega)).set_other _ _ (by simp; omega)).set_other _ _ (by simp; omega), ((B9.setCell (by simp; omega) _).setCell (by simp) _).setCell (by simp) _⟩
  · have hm1 : 0 < m := by have := HL.out; omega
    go_wp2_with fail
    generalize w4.setCell _ _ = w5 at *
    clear s0 s1 sf hS4'
    refine (next_any g 8 _ hT5 (by decide) (by decide)).mono ?_
    rintro e w6 ⟨v6, rfl, hv6, hT6, hO6⟩
    have hS6 := hS5.only hO6 (by omega)
    have hR6 := hR5.only hO6 (by omega)
    have hOw6 := hOw5.only hO6 (by omega)
    have B6 := B5.trans (hO6.below (B := w.heap.size) (by omega) B5.size)
    clear hS5 hR5 hOw5 hT5 hO6 B5
    by_cases h6 : 0 < (v6 : Int)
    · have s0 := hS6.c0
      have d1 := hOw6.cell (m - 1) (by rw [HM.out]; omega)
      have d2 := hOw6.frozen (m - 1)
      have hOw6' := hid hOw6
      clear hOw6
      go_wp2
      go_region
      all_goals go_wp2_with fail
      have hv0 := bv_of (((l[m - 1]?.getD 0).toNat : Int) / 2 ^ (8 - v % 8) * 2 ^ (8 - v % 8) % 256) (by omega) (by omega)
      have hO7 : Only k w6 (w6.setCell ⟨k, m - 1, none⟩ (.int .u8 (((l[m - 1]?.getD 0).toNat : Int) / 2 ^ (8 - v % 8) * 2 ^ (8 - v % 8) % 256))).drew := (Only.set k (m - 1) w6 _).drewN 1
      obtain ⟨l', hl', hOx⟩ : ∃ l', l'.length = m ∧ Own (w6.setCell ⟨k, m - 1, none⟩ (.int .u8 (((l[m - 1]?.getD 0).toNat : Int) / 2 ^ (8 - v % 8) * 2 ^ (8 - v % 8) % 256))).drew k l' := ⟨_, by simpa using HM.out, hOw6'.out.set (m - 1) _ _ hv0⟩
      have hSx := hS6.only hO7 (by omega)
      have hRx := hR6.only hO7 (by omega)
      have hTx := hT6.only hO7 (by omega)
      have Bx := B6.trans (hO7.below (B := w.heap.size) (by omega) B6.size)
      clear hOw6' hS6 hR6 hT6 B6 hO7 hv0 s0 d1 d2
      generalize (w6.setCell _ _).drew = wx at *
      refine (bool_any g 10 _ hTx (by decide) (by decide)).mono ?_
      rintro e w8 ⟨b, rfl, hT8, hO8⟩
      have hS8 := hSx.only hO8 (by omega)
      have hR8 := hRx.only hO8 (by omega)
      have hOw8 := hOx.only hO8 (by omega)
      have B8 := Bx.trans (hO8.below (B := w.heap.size) (by omega) Bx.size)
      clear hSx hRx hTx hOx hO8 Bx
      have s0 := hS8.c0
      have s1 := hS8.c1
      have r0 := hR8.c0
      have r1 := hR8.c1
      have rf := hR8.frozen
      cases b
      · go_wp2
        have e0 := (hR8.store0 (some ⟨k, 0, none⟩) m m).c0
        have e1 := (hR8.store (some ⟨k, 0, none⟩) m m (v : Int)).c1
        refine bodyPost_ret (v := .agg #[.slice (some ⟨k, 0, none⟩) m m, .int .i64 (v : Int)]) (by simp [results, Try.results10, go_sem, e0, e1]) rfl ?_
        exact ⟨k, l', v, by rw [hl'], by omega, by omega, by omega, by omega, (hOw8.set_other _ _ (by simp; omega)).set_other _ _ (by simp; omega), (B8.setCell (by simp) _).setCell (by simp) _⟩
      · have hTd : TapeAt w8.drew g := hT8.below ((Below.refl w8.heap.size w8).drew)
        have hSd : Box w8.drew w2.heap.size (some ⟨k, 0, none⟩) m m (v : Int) := hS8
        have hSh := hid hS8
        clear hS8
        go_wp2_with fail
        go_region_with ((go_at_call 28; refine (next_any g 20 _ hTd (by decide) (by decide)).mono ?_; rintro e w9 ⟨v9, rfl, hv9, hT9, hO9⟩; have s9 := (hSd.only hO9 (by omega)).c1; have f9 := (hSd.only hO9 (by omega)).frozen 1))
        all_goals
          have hS9 := hSd.only hO9 (by omega)
          have hR9 := (show Box w8.drew w.heap.size none 0 0 0 from hR8).only hO9 (by omega)
          have hO99 := (show Own w8.drew k l' from hOw8).only hO9 (by omega)
          have B9 := B8.drew.trans (hO9.below (B := w.heap.size) (by omega) B8.size)
          have t0 := hS9.c0
          have q0 := hR9.c0
          have q1 := hR9.c1
          have qf := hR9.frozen
          have hRW := hR9.set_other ⟨w2.heap.size, 1, none⟩ (.int .i64 ((v : Int) + ((v9 : Int) - 10))) (by simp; omega)
          have e0 := (hRW.store0 (some ⟨k, 0, none⟩) m m).c0
          have e1 := (hRW.store (some ⟨k, 0, none⟩) m m ((v : Int) + ((v9 : Int) - 10))).c1
          clear hS9 hR9 hRW hSd hTd hT9 hO9 hT8
          go_wp2
          refine bodyPost_ret (v := .agg #[.slice (some ⟨k, 0, none⟩) m m, .int .i64 ((v : Int) + ((v9 : Int) - 10))]) (by simp [results, Try.results10, go_sem, e0, e1]) rfl ?_
          exact ⟨k, l', _, by rw [hl'], by omega, by omega, by omega, by omega, ((hO99.set_other _ _ (by simp; omega)).set_other _ _ (by simp; omega)).set_other _ _ (by simp; omega), ((B9.setCell (by simp; omega) _).setCell (by simp) _).setCell (by simp) _⟩
    · go_wp2_with fail
      obtain ⟨l', hl', hOx⟩ : ∃ l', l'.length = m ∧ Own w6 k l' := ⟨l, HM.out, hOw6⟩
      have hSx := hS6; have hRx := hR6; have hTx := hT6; have Bx := B6
      clear hOw6 hS6 hR6 hT6 B6
      refine (bool_any g 10 _ hTx (by decide) (by decide)).mono ?_
      rintro e w8 ⟨b, rfl, hT8, hO8⟩
      have hS8 := hSx.only hO8 (by omega)
      have hR8 := hRx.only hO8 (by omega)
      have hOw8 := hOx.only hO8 (by omega)
      have B8 := Bx.trans (hO8.below (B := w.heap.size) (by omega) Bx.size)
      clear hSx hRx hTx hOx hO8 Bx
      have s0 := hS8.c0
      have s1 := hS8.c1
      have r0 := hR8.c0
      have r1 := hR8.c1
      have rf := hR8.frozen
      cases b
      · go_wp2
        have e0 := (hR8.store0 (some ⟨k, 0, none⟩) m m).c0
        have e1 := (hR8.store (some ⟨k, 0, none⟩) m m (v : Int)).c1
        refine bodyPost_ret (v := .agg #[.slice (some ⟨k, 0, none⟩) m m, .int .i64 (v : Int)]) (by simp [results, Try.results10, go_sem, e0, e1]) rfl ?_
        exact ⟨k, l', v, by rw [hl'], by omega, by omega, by omega, by omega, (hOw8.set_other _ _ (by simp; omega)).set_other _ _ (by simp; omega), (B8.setCell (by simp) _).setCell (by simp) _⟩
      · have hTd : TapeAt w8.drew g := hT8.below ((Below.refl w8.heap.size w8).drew)
        have hSd : Box w8.drew w2.heap.size (some ⟨k, 0, none⟩) m m (v : Int) := hS8
        have hSh := hid hS8
        clear hS8
        go_wp2_with fail
        go_region_with ((go_at_call 28; refine (next_any g 20 _ hTd (by decide) (by decide)).mono ?_; rintro e w9 ⟨v9, rfl, hv9, hT9, hO9⟩; have s9 := (hSd.only hO9 (by omega)).c1; have f9 := (hSd.only hO9 (by omega)).frozen 1))
        all_goals
          have hS9 := hSd.only hO9 (by omega)
          have hR9 := (show Box w8.drew w.heap.size none 0 0 0 from hR8).only hO9 (by omega)
          have hO99 := (show Own w8.drew k l' from hOw8).only hO9 (by omega)
          have B9 := B8.drew.trans (hO9.below (B := w.heap.size) (by omega) B8.size)
          have t0 := hS9.c0
          have q0 := hR9.c0
          have q1 := hR9.c1
          have qf := hR9.frozen
          have hRW := hR9.set_other ⟨w2.heap.size, 1, none⟩ (.int .i64 ((v : Int) + ((v9 : Int) - 10))) (by simp; omega)
          have e0 := (hRW.store0 (some ⟨k, 0, none⟩) m m).c0
          have e1 := (hRW.store (some ⟨k, 0, none⟩) m m ((v : Int) + ((v9 : Int) - 10))).c1
          clear hS9 hR9 hRW hSd hTd hT9 hO9 hT8
          go_wp2
          refine bodyPost_ret (v := .agg #[.slice (some ⟨k, 0, none⟩) m m, .int .i64 ((v : Int) + ((v9 : Int) - 10))]) (by simp [results, Try.results10, go_sem, e0, e1]) rfl ?_
          exact ⟨k, l', _, by rw [hl'], by omega, by omega, by omega, by omega, ((hO99.set_other _ _ (by simp; omega)).set_other _ _ (by simp; omega)).set_other _ _ (by simp; omega), ((B9.setCell (by simp; omega) _).setCell (by simp) _).setCell (by simp) _⟩
end Go.Proofs.Ytakandlbphjflaa
