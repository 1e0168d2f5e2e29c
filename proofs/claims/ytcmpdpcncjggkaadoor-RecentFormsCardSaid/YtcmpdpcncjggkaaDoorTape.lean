/-
  The tape of numbers that the statements' inputs are made from: a number within its bounds is all that is known of each draw.
-/
import Derived.Test.YtcmpdpcncjggkaaDoorLib
import Derived.Deep.QuietTactic
import Derived.BigQuiet
namespace Go.Proofs.YtcmpdpcncjggkaaDoor
open Go.RowKit

/-- a slice of ints that came in -/
structure IsI (w : World) (a : Option Addr) (len cap : Nat) : Prop where
  le : len ≤ cap
  max : len ≤ 281474976710656
  capmax : cap ≤ 9223372036854775807
  nil : a = none → len = 0 ∧ cap = 0
  cells : ∀ x, a = some x → (0 < cap → x.spot = none ∧ x.block < w.heap.size) ∧ ∀ j, j < len → ∃ z, w.cell? ⟨x.block, x.off + j, none⟩ = some (.int .i64 z) ∧ I64 z

theorem IsI.below {w w' : World} {a : Option Addr} {len cap : Nat} (h : IsI w a len cap) (hb : Below w.heap.size w w') : IsI w' a len cap := by
  refine ⟨h.le, h.max, h.capmax, h.nil, fun x hx => ?_⟩
  obtain ⟨h1, h2⟩ := h.cells x hx
  refine ⟨fun hc => ⟨(h1 hc).1, Nat.lt_of_lt_of_le (h1 hc).2 hb.size⟩, fun j hj => ?_⟩
  obtain ⟨z, h3, h4⟩ := h2 j hj
  refine ⟨z, ?_, h4⟩
  rw [hb.cell (p := ⟨x.block, x.off + j, none⟩) (h1 (by have := h.le; omega)).2]
  exact h3

/-- w' is w but for block g, and new blocks -/
structure Only (g : Nat) (w w' : World) : Prop where
  os : w'.os = w.os
  tape : w'.tape = w.tape
  output : w'.output = w.output
  size : w.heap.size ≤ w'.heap.size
  block : ∀ k, k < w.heap.size → k ≠ g → w'.heap[k]? = w.heap[k]?

theorem Only.refl (g : Nat) (w : World) : Only g w w := ⟨rfl, rfl, rfl, Nat.le_refl _, fun _ _ _ => rfl⟩
theorem Only.trans {g : Nat} {a b c : World} (h : Only g a b) (k : Only g b c) : Only g a c :=
  ⟨k.os.trans h.os, k.tape.trans h.tape, k.output.trans h.output, Nat.le_trans h.size k.size, fun i hi hn => (k.block i (Nat.lt_of_lt_of_le hi h.size) hn).trans (h.block i hi hn)⟩
theorem Only.ofBelow {w w' : World} (g : Nat) (h : Below w.heap.size w w') : Only g w w' := ⟨h.os, h.tape, h.output, h.size, fun k hk _ => h.block k hk⟩
theorem Only.below {g B : Nat} {w w' : World} (h : Only g w w') (hg : B ≤ g) (hB : B ≤ w.heap.size) : Below B w w' :=
  ⟨h.os, h.tape, h.output, h.size, fun k hk => h.block k (by omega) (by omega)⟩
theorem Only.set (g j : Nat) (w : World) (v : Value) : Only g w (w.setCell ⟨g, j, none⟩ v) :=
  ⟨rfl, rfl, rfl, by simp [World.setCell], fun k _ hn => heap_setCell_other _ _ _ _ hn⟩
theorem Only.drewN {g : Nat} {w w' : World} (h : Only g w w') (n : Nat) : Only g w (w'.drewN n) := ⟨h.os, h.tape, h.output, h.size, h.block⟩
theorem Own.only {w w' : World} {k g : Nat} {l : List UInt8} (h : Own w k l) (ho : Only g w w') (hk : k ≠ g) : Own w' k l := by
  unfold Own; rw [ho.block k h.lt hk]; exact h

/-- block g is a tape -/
def TapeAt (w : World) (g : Nat) : Prop :=
  ∃ (a : Option Addr) (len cap i : Nat), IsI w a len cap ∧ len ≤ 400 ∧ i ≤ len ∧ w.heap[g]? = some (.cells #[.slice a len cap, .int .i64 i] 55 (0, 0)) ∧ (∀ x, a = some x → 0 < cap → x.block < g)

theorem TapeAt.lt {w : World} {g : Nat} (h : TapeAt w g) : g < w.heap.size := by
  obtain ⟨_, _, _, _, _, _, _, h, _⟩ := h
  exact (Array.getElem?_eq_some_iff.1 h).1

theorem TapeAt.below {w w' : World} {g : Nat} (h : TapeAt w g) (hb : Below w.heap.size w w') : TapeAt w' g := by
  have hlt := h.lt
  obtain ⟨a, len, cap, i, h1, h2, h3, h4, h5⟩ := h
  exact ⟨a, len, cap, i, h1.below hb, h2, h3, by rw [hb.block g hlt]; exact h4, h5⟩

theorem TapeAt.only {w w' : World} {g k : Nat} (h : TapeAt w g) (ho : Only k w w') (hk : g < k) : TapeAt w' g := by
  have hlt := h.lt
  obtain ⟨a, len, cap, i, h1, h2, h3, h4, h5⟩ := h
  refine ⟨a, len, cap, i, ⟨h1.le, h1.max, h1.capmax, h1.nil, fun x hx => ?_⟩, h2, h3, by rw [ho.block g hlt (by omega)]; exact h4, h5⟩
  obtain ⟨c1, c2⟩ := h1.cells x hx
  refine ⟨fun hc => ⟨(c1 hc).1, Nat.lt_of_lt_of_le (c1 hc).2 ho.size⟩, fun j hj => ?_⟩
  obtain ⟨z, h6, h7⟩ := c2 j hj
  have hc : 0 < cap := by have := h1.le; omega
  have hxg := h5 x hx hc
  refine ⟨z, ?_, h7⟩
  rw [← h6]
  exact World.cell?_of_block (a := ⟨x.block, x.off + j, none⟩) (ho.block x.block (c1 hc).2 (by omega))

/-- the post of a draw: a number from 0 to n - 1; the tape alone has changed -/
def RetN (g : Nat) (n : Int) (w : World) (e : Ending) (w' : World) : Prop :=
  ∃ v : Nat, e = .returned (.int .i64 v) ∧ (v : Int) < n ∧ TapeAt w' g ∧ Only g w w'

def NextFin (g : Nat) (n : Int) (w : World) (i : Nat) : Prop := ∀ (r r' : Int) (m1 m2 : Nat), r' = r → 0 ≤ r → r < n → RetN g n w (.returned (.int .i64 r')) (((w.drewN m1).setCell ⟨g, 1, none⟩ (.int .i64 ((i : Int) + 1))).drewN m2)

set_option maxHeartbeats 1000000 in
theorem next_any (g : Nat) (n : Int) (w : World) (hT : TapeAt w g) (h1 : 1 ≤ n) (h2 : n ≤ 1099511627776) :
    Calls Tryd.prog 11 #[.pointer (some ⟨g, 0, none⟩), .int .i64 n] w (RetN g n w) := by
  have hglt := hT.lt
  have hT0 := hid hT
  obtain ⟨a, len, cap, i, hI, hlen, hi, hrow, hblk⟩ := hT
  have hle := hI.le
  have hcm := hI.capmax
  have c0 : w.cell? ⟨g, 0, none⟩ = some (.slice a len cap) := by rw [cell_of_row w g 0 _ _ (0, 0) hrow]; rfl
  have c1 : w.cell? ⟨g, 1, none⟩ = some (.int .i64 i) := by rw [cell_of_row w g 1 _ _ (0, 0) hrow]; rfl
  have f1 : w.frozen? ⟨g, 1, none⟩ = false := frozen_of_row w g 1 _ _ hrow
  have HR := hid hrow
  clear hrow
  by_cases hlt : i < len
  · have hx : ∃ x, a = some x := by
      cases a with
      | none => have := hI.nil rfl; omega
      | some x => exact ⟨x, rfl⟩
    obtain ⟨⟨b, off, spot⟩, rfl⟩ := hx
    obtain ⟨d1, d2⟩ := hI.cells _ rfl
    obtain ⟨d3, d4⟩ := d1 (by omega)
    simp at d3 d4
    subst d3
    obtain ⟨z, hz, hz64⟩ := d2 i hlt
    have hbg : b < g := hblk _ rfl (by omega)
    have HI := hid hI
    have ht : z.tmod n = if 0 ≤ z then z % n else if z % n = 0 then 0 else z % n - n := by
      rw [Int.tmod_eq_emod]
      by_cases hh : 0 ≤ z
      · simp [hh]
      · by_cases hd : n ∣ z
        · have := Int.emod_eq_zero_of_dvd hd
          simp [hh, hd, this]
        · have : z % n ≠ 0 := fun e => hd (Int.dvd_of_emod_eq_zero e)
          simp [hh, hd, this]; omega
    have hm0 := Int.emod_nonneg z (show n ≠ 0 by omega)
    have hm1 := Int.emod_lt_of_pos z (show 0 < n by omega)
    have hb1 : -n < z.tmod n := by rw [ht]; split <;> (try split) <;> omega
    have hb2 : z.tmod n < n := by rw [ht]; split <;> (try split) <;> omega
    clear ht hm0 hm1 d1 d2 hI hblk hz64
    have HF : NextFin g n w i := by
      rintro r r' m1 m2 rfl hr0 hr1
      obtain ⟨r, rfl⟩ := Int.eq_ofNat_of_zero_le hr0
      have hO : Only g w (((w.drewN m1).setCell ⟨g, 1, none⟩ (.int .i64 ((i : Int) + 1))).drewN m2) := (((Only.refl g w).drewN m1).trans (Only.set g 1 _ _)).drewN m2
      refine ⟨r, rfl, hr1, ⟨some ⟨b, off, none⟩, len, cap, i + 1, ?_, hlen, by omega, ?_, fun x hx _ => by simp at hx; subst hx; exact hbg⟩, hO⟩
      · refine ⟨HI.out.le, HI.out.max, HI.out.capmax, HI.out.nil, fun x hx => ?_⟩
        obtain ⟨k1, k2⟩ := HI.out.cells x hx
        simp at hx; subst hx
        refine ⟨fun hc => ⟨(k1 hc).1, Nat.lt_of_lt_of_le (k1 hc).2 hO.size⟩, fun j hj => ?_⟩
        obtain ⟨z', h6, h7⟩ := k2 j hj
        refine ⟨z', ?_, h7⟩
        rw [← h6]
        exact World.cell?_of_block (a := ⟨b, off + j, none⟩) (hO.block b (by omega) (by omega))
      · have := heap_setCell_same (w.drewN m1) g 1 _ _ (.int .i64 ((i : Int) + 1)) HR.out
        rw [World.heap_drewN, this]
        simp
    go_enter Tryd.func11, Tryd.ntmps11
    go_wp2
    go_quiet (fail)
    go_wp2
    go_quiet (fail)
    go_wp2
    all_goals go_ret
    all_goals exact HF _ _ _ 0 rfl (by omega) (by omega)
  · obtain rfl : i = len := by omega
    go_enter Tryd.func11, Tryd.ntmps11
    go_wp2
    go_quiet (fail)
    go_wp2
    go_ret
    exact ⟨0, rfl, by omega, hT0.out.below (below_drewN (Below.refl _ _) _), (Only.refl g w).drewN _⟩
end Go.Proofs.YtcmpdpcncjggkaaDoor
