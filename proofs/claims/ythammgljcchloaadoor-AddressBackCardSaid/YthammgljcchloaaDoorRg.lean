/-
  readGroup: a group's number.
-/
import Derived.Test.YthammgljcchloaaDoorPu16
import Derived.Deep.QuietTactic
import Derived.BigQuiet
namespace Go.Proofs.YthammgljcchloaaDoor
open Go.RowKit

set_option maxHeartbeats 1600000 in
set_option maxRecDepth 100000 in
theorem parse_hex0 (t : ByteArray) (w : World) (h0 : t.size = 0) :
    Calls Tryd.prog 92 #[.string t, .int .i64 16, .int .i64 16] w fun e w' => e = .returned (.tuple #[.int .u64 0, .iface 109 (.int .i64 2)]) ∧ w' = w := by
  have hemp : t.toList.isEmpty = true := by
    rw [← decide_eq_emptyBytes]
    refine decide_eq_true ?_
    obtain ⟨d⟩ := t
    have : d = #[] := Array.eq_empty_of_size_eq_zero h0
    subst this; rfl
  go_enter Tryd.func92, Tryd.ntmps92
  go_wp2
  go_ret2
  exact ⟨rfl, rfl⟩

def Rgp (s : ByteArray) (w : World) (bad : Value → Prop) (good : Value) (e : Ending) (w' : World) : Prop :=
  ((∃ n : Nat, rgroup s.data.toList = some n ∧ n < 65536 ∧ e = .returned (.tuple #[.int .u64 n, good])) ∨ (rgroup s.data.toList = none ∧ ∃ v, bad v ∧ e = .returned (.tuple #[.int .u64 0, v]))) ∧ Below w.heap.size w w'

theorem size_list (s : ByteArray) : s.data.toList.length = s.size := by rw [Array.length_toList]; rfl

set_option maxHeartbeats 1600000 in
set_option maxRecDepth 100000 in
theorem parse_uint (s : ByteArray) (w : World) (h4 : s.size ≤ 4) (G : GL w) :
    Calls Tryd.prog 75 #[.string s, .int .i64 16, .int .i64 16] w (Rgp s w (fun v => ∃ t p, v = .iface t p) .nilIface) := by
  have hin : Calls Tryd.prog 92 #[.string s, .int .i64 16, .int .i64 16] w (Rgp s w (fun v => v = .iface 109 (.int .i64 2)) .nilIface) := by
    by_cases h0 : s.size = 0
    · refine (parse_hex0 s w h0).mono ?_
      rintro e w' ⟨rfl, rfl⟩
      refine ⟨Or.inr ⟨?_, _, rfl, rfl⟩, Below.refl _ _⟩
      have : s.data.toList = [] := List.eq_nil_of_length_eq_zero (by rw [size_list]; exact h0)
      simp [rgroup, this]
    · have hn : s.data.toList ≠ [] := fun h => h0 (by rw [← size_list, h]; rfl)
      have hr : rgroup s.data.toList = hexl 0 s.data.toList := by
        unfold rgroup; rw [if_neg]; rw [size_list]; simp [hn]; omega
      refine (parse_hex s w h4 h0).mono ?_
      rintro e w' ⟨⟨n, h1, h2, rfl⟩ | ⟨h1, rfl⟩, hb⟩
      · exact ⟨Or.inl ⟨n, hr.trans h1, h2, rfl⟩, hb⟩
      · exact ⟨Or.inr ⟨hr.trans h1, _, rfl, rfl⟩, hb⟩
  go_enter Tryd.func75, Tryd.ntmps75
  go_wp2_with fail
  with_reducible refine hin.mono ?_
  rintro e w' ⟨⟨n, h1, h2, rfl⟩ | ⟨h1, v, rfl, rfl⟩, hb⟩
  · go_wp2
    go_ret2
    exact ⟨Or.inl ⟨n, h1, h2, rfl⟩, hb⟩
  · obtain ⟨te, pe, hs⟩ := (G.on hb).syn
    go_wp2_with fail
    with_reducible refine (Tryd.strconv_toError_syntax _ s 16 16 (.iface te pe) w' (by omega) hs (Or.inr ⟨_, _, rfl⟩)).mono ?_
    rintro e w2 ⟨N, rfl, -, -, hb2⟩
    go_wp2
    go_ret2
    exact ⟨Or.inr ⟨h1, _, ⟨_, _, rfl⟩, rfl⟩, seq hb hb2⟩

set_option maxHeartbeats 1600000 in
set_option maxRecDepth 100000 in
theorem read_group (s : ByteArray) (w : World) (hs : s.size ≤ 281474976710656) (G : GL w) :
    Calls Tryd.prog 62 #[.string s] w (fun e w' => ((∃ n : Nat, rgroup s.data.toList = some n ∧ n < 65536 ∧ e = .returned (.tuple #[.int .u64 n, .bool true])) ∨ (rgroup s.data.toList = none ∧ e = .returned (.tuple #[.int .u64 0, .bool false]))) ∧ Below w.heap.size w w') := by
  by_cases h4 : s.size ≤ 4
  · go_enter Tryd.func62, Tryd.ntmps62
    go_wp2_with fail
    with_reducible refine (parse_uint s w h4 G).mono ?_
    rintro e w' ⟨⟨n, h1, h2, rfl⟩ | ⟨h1, v, ⟨te, pe, rfl⟩, rfl⟩, hb⟩
    · go_wp2_with fail
      go_quiet (fail)
      go_wp2
      go_ret2
      exact ⟨Or.inl ⟨n, h1, h2, rfl⟩, below_drewN hb _⟩
    · go_wp2_with fail
      go_quiet (fail)
      go_wp2
      go_ret2
      exact ⟨Or.inr ⟨h1, rfl⟩, below_drewN hb _⟩
  · have hr : rgroup s.data.toList = none := by unfold rgroup; rw [if_pos]; right; rw [size_list]; omega
    go_enter Tryd.func62, Tryd.ntmps62
    go_wp2
    go_ret2
    exact ⟨Or.inr ⟨hr, rfl⟩, Below.refl _ _⟩
end Go.Proofs.YthammgljcchloaaDoor
