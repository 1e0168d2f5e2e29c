/-
  A new tape; a choice off it.
-/
import Derived.Test.YtcmpdpcncjggkaaDoorTape
namespace Go.Proofs.YtcmpdpcncjggkaaDoor
open Go.RowKit

/-- the post: a pointer to a new tape -/
def RetTape (w : World) (e : Ending) (w' : World) : Prop :=
  ∃ g, e = .returned (.pointer (some ⟨g, 0, none⟩)) ∧ w.heap.size ≤ g ∧ TapeAt w' g ∧ Below w.heap.size w w'

theorem IsI.short {w : World} {a : Option Addr} {len cap : Nat} (h : IsI w a len cap) (m : Nat) (hm : m ≤ len) : IsI w a m cap := by
  have hle := h.le
  have hmx := h.max
  exact ⟨by omega, by omega, h.capmax, fun hn => by have := h.nil hn; omega, fun x hx => ⟨(h.cells x hx).1, fun j hj => (h.cells x hx).2 j (by omega)⟩⟩

theorem tape_new (w : World) (a : Option Addr) (len cap : Nat) (h : IsI w a len cap) (hl : len ≤ 400) :
    TapeAt (w.alloc (.cells #[.slice a len cap, .int .i64 0] 55)) w.heap.size :=
  ⟨a, len, cap, 0, h.below ((Below.refl _ _).alloc (Nat.le_refl _) _), hl, Nat.zero_le _, heap_alloc_new w _, fun x hx hc => ((h.cells x hx).1 hc).2⟩

set_option maxHeartbeats 1000000 in
theorem new_any (a : Option Addr) (len cap : Nat) (w : World) (hI : IsI w a len cap) :
    Calls Tryd.prog 8 #[.slice a len cap] w (RetTape w) := by
  have hle := hI.le
  have hcm := hI.capmax
  by_cases h : 400 < len
  · have hn : ∃ x, a = some x := by
      cases a with
      | none => have := hI.nil rfl; omega
      | some x => exact ⟨x, rfl⟩
    obtain ⟨x, rfl⟩ := hn
    have ht := hid (tape_new w _ 400 cap (hI.short 400 (by omega)) (Nat.le_refl _))
    go_enter Tryd.func8, Tryd.ntmps8
    go_wp2
    go_ret
    exact ⟨_, rfl, Nat.le_refl _, ht.out, (Below.refl _ _).alloc (Nat.le_refl _) _⟩
  · have ht := hid (tape_new w a len cap hI (by omega))
    go_enter Tryd.func8, Tryd.ntmps8
    go_wp2
    go_ret
    exact ⟨_, rfl, Nat.le_refl _, ht.out, (Below.refl _ _).alloc (Nat.le_refl _) _⟩

/-- the post of Bool -/
def RetTB (g : Nat) (w : World) (e : Ending) (w' : World) : Prop :=
  ∃ b : Bool, e = .returned (.bool b) ∧ TapeAt w' g ∧ Only g w w'

set_option maxHeartbeats 1000000 in
theorem bool_any (g : Nat) (n : Int) (w : World) (hT : TapeAt w g) (h1 : 1 ≤ n) (h2 : n ≤ 1099511627776) :
    Calls Tryd.prog 23 #[.pointer (some ⟨g, 0, none⟩), .int .i64 n] w (RetTB g w) := by
  go_enter Tryd.func23, Tryd.ntmps23
  go_wp2_with fail
  refine (next_any g n w hT h1 h2).mono ?_
  rintro e w1 ⟨v, rfl, hv, hT1, hO1⟩
  go_wp2
  go_ret
  exact ⟨_, rfl, hT1, hO1⟩

end Go.Proofs.YtcmpdpcncjggkaaDoor
