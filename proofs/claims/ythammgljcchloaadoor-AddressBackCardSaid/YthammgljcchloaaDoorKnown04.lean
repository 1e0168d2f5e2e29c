/-
  The sanity check that each law makes: an address is read and written.
-/
import Derived.Test.YthammgljcchloaaDoorPip
import Derived.Test.YthammgljcchloaaDoorFmt
import Derived.Test.YthammgljcchloaaDoorIpMore
namespace Go.Proofs.YthammgljcchloaaDoor
open Go.RowKit
set_option linter.unusedSimpArgs false
set_option linter.unusedVariables false

def hexF : Nat → Nat → List UInt8
  | 0, v => [hexD v]
  | k + 1, v => if v < 16 then [hexD v] else hexF k (v / 16) ++ [hexD (v % 16)]
theorem hexF_eq : ∀ (k v : Nat), v < 16 ^ (k + 1) → hexs v = hexF k v
  | 0, v, h => by rw [hexs_small v (by simpa using h)]; rfl
  | k + 1, v, h => by
    unfold hexF
    by_cases h1 : v < 16
    · rw [if_pos h1, hexs_small v h1]
    · rw [if_neg h1, hexs_big v h1, hexF_eq k (v / 16) (by rw [Nat.pow_succ] at h; omega)]
def gtextF (l : List (Nat × Nat)) : List UInt8 := l.flatMap fun x => (if 0 < x.1 then [58] else []) ++ hexF 3 x.2
theorem gtextF_eq : ∀ l : List GV, gtext (vals l) = gtextF (vals l)
  | [] => rfl
  | x :: l => by
    have ih := gtextF_eq l
    simp only [gtext, gtextF, vals, List.map_cons, List.flatMap_cons] at ih ⊢
    rw [ih, hexF_eq 3 x.1.2 (by have := x.2.1; simpa using this)]
def wtextF (zs : List UInt8) : List UInt8 := gtextF (vals (upto (grp zs) (zs.length / 2)))
theorem wtextF_eq (zs : List UInt8) : wtext zs = wtextF zs := gtextF_eq _
def fmtF (zs : List UInt8) : List UInt8 :=
  if (lzs (vals (upto (grp zs) 8))).2.1 < 2 then wtextF zs
  else wtextF (zs.take (2 * (lzs (vals (upto (grp zs) 8))).1.toNat)) ++ [58, 58] ++ wtextF (zs.drop (2 * ((lzs (vals (upto (grp zs) 8))).1.toNat + (lzs (vals (upto (grp zs) 8))).2.1.toNat)))
theorem fmtF_eq (zs : List UInt8) : fmtIP zs = fmtF zs := by
  unfold fmtIP fmtF
  rw [wtextF_eq, wtextF_eq, wtextF_eq]

def knownIP : List UInt8 := [32, 1, 13, 184, 0, 0, 0, 0, 0, 1, 0, 0, 0, 0, 0, 1]
set_option maxRecDepth 100000 in
theorem known_fmt : fmtIP knownIP = [50, 48, 48, 49, 58, 100, 98, 56, 58, 58, 49, 58, 48, 58, 48, 58, 49] := by
  rw [fmtF_eq]
  decide +kernel
set_option maxRecDepth 100000 in
theorem known_parse : parseIP ⟨#[50, 48, 48, 49, 58, 68, 66, 56, 58, 48, 58, 48, 58, 49, 58, 48, 58, 48, 58, 49]⟩ = some knownIP := by
  decide +kernel

set_option maxHeartbeats 1600000 in
set_option maxRecDepth 100000 in
theorem known_any (w : World) (G : GL w) : Calls Tryd.prog 12 #[] w (RetS (.bool true) w) := by
  go_enter Tryd.func12, Tryd.ntmps12
  go_wp2_with fail
  with_reducible refine (parse_ip _ w (by decide) G).mono ?_
  rintro e w1 ⟨⟨l, h1, h2, rfl⟩ | ⟨h1, rfl⟩, hb1⟩
  · rw [known_parse] at h1
    cases h1
    have h16 : (knownIP).length = 16 := rfl
    go_wp2_with (first
      | (with_reducible refine wpList_store_ip (op := ⟨none, _, _, _, _, _⟩) rfl (.tmp 1) (.tmp 5) rfl rfl rfl (Ik.lit w1) (length_zeros 16) h16 w1.heap.size w1 ((Below.refl _ _).alloc (Nat.le_refl _) _) (Nat.le_refl _) ?_; intro w2 hR2 hB2; have hR2o := hR2.out)
      | (refine wpList_load_ry_on (op := ⟨some 9, _, _, _, _, _⟩) (by rfl) (.tmp 1) rfl rfl hR2o h16 ?_))
    with_reducible refine (format_ip knownIP h16 w2 ((G.on hb1).on hB2)).mono ?_
    rintro e w3 ⟨rfl, hb3⟩
    rw [known_fmt]
    go_wp2
    go_ret
    exact ⟨rfl, seq (seq hb1 hB2) hb3⟩
  · rw [known_parse] at h1; cases h1
end Go.Proofs.YthammgljcchloaaDoor
