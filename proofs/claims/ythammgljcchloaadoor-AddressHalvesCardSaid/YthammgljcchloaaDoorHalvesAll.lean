/-
  Split, Join, Common, IsMulticast and Solicited against the reference: the slice of two prefixes, the tape's prefix, the reference's Solicited and Join, and the law's walk.
-/
import Derived.Test.YthammgljcchloaaDoorPfxOnly
import Derived.Great.BuildSlice
import Derived.Test.YthammgljcchloaaDoorRefMask
import Derived.Test.YthammgljcchloaaDoorRefOf
import Derived.Test.YthammgljcchloaaDoorTapeNew
import Derived.Test.YthammgljcchloaaDoorIpReg
import Derived.Test.YthammgljcchloaaDoorRefValid
import Derived.Test.YthammgljcchloaaDoorRefCommon
import Derived.Test.YthammgljcchloaaDoorRefHalf
import Derived.Test.YthammgljcchloaaDoorKnown04
import Derived.Test.YthammgljcchloaaDoorViewInts
import Derived.Test.YthammgljcchloaaDoorIpEq
namespace Go.Proofs.YthammgljcchloaaDoor
open Go.RowKit
set_option linter.unusedSimpArgs false
set_option linter.unusedVariables false


theorem fill_two (f : Nat → Value) (l m : List UInt8) (n k : Int) (hl : l.length = 16) (hm : m.length = 16) :
    Instr.fill (fun i => some (i * 17, 17)) ((Array.range (2 * 17)).map f) [(0, pv l n), (1, pv m k)] = some (pl l n ++ pl m k).toArray := by
  have c1 : (pv l n).cells = (pl l n).toArray := rfl
  have c2 : (pv m k).cells = (pl m k).toArray := rfl
  have h := Great.fill_whole (s := 17) (by decide) [pv l n, pv m k] ((Array.range (2 * 17)).map f) (by
    intro v hv
    rcases List.mem_cons.1 hv with rfl | hv
    · rw [c1]; simp [length_pl l n hl]
    · rcases List.mem_cons.1 hv with rfl | hv
      · rw [c2]; simp [length_pl m k hm]
      · cases hv) (by simp)
  simpa [c1, c2] using h

theorem step_build_two {ops : Array Oper} {o : Oper} {a : Act} {w : World} {K : Act → World → Prop} {Q : Exit → Act → World → Prop} {E : Prop} (hgd : o.guard = none) (x y : Operand) (ho : o.op = .buildSlice 40 2 #[(0, x), (1, y)])
    (l m : List UInt8) (n k : Int) (hx : a.eval x = pv l n) (hy : a.eval y = pv m k) (hl : l.length = 16) (hm : m.length = 16)
    (h : K (a.put o.dst (.slice (some ⟨w.heap.size, 0, none⟩) 2 2)) (w.alloc (.cells (pl l n ++ pl m k).toArray 35))) :
    if Region.wanted o (yielded ops a.tmps) = true then Oper.wp Tryd.prog o a w K Q else E := by
  rw [if_pos (by simp [Region.wanted, hgd])]
  have hsz : (Tryd.prog.info? 35).map (·.size) = some 17 := pfx_info
  have hz : ((Tryd.prog.info? 35).bind (·.zero)).isSome = true := by kernel_rfl
  cases hie : Tryd.prog.info? 35 with
  | none => rw [hie] at hsz; cases hsz
  | some ie =>
    simp only [hie, Option.map_some, Option.some.injEq, Option.bind_some] at hsz hz
    obtain ⟨z, hzz⟩ := Option.isSome_iff_exists.1 hz
    refine wp_buildSlice 40 35 2 #[(0, x), (1, y)] ho _ ie z Tryd.underlying40 hie hzz (by rw [hsz]; decide) (by rw [hsz]; decide) ?_ h
    rw [hsz]
    simp only [List.map_toArray, List.map_cons, List.map_nil, hx, hy]
    exact fill_two _ l m n k hl hm


theorem five (w : World) (B : Nat) (h : w.heap[B]? = some (.cells #[.int .u64 2306139568115548160, .int .u64 2306139568115613696, .int .u64 18338657682652659712, .int .u64 18230571291595767808, .int .u64 0] 48 (0, 0))) (v : Nat) (hv : v < 5) : ∃ x : Nat, x < 18446744073709551616 ∧ w.cell? ⟨B, v, none⟩ = some (.int .u64 (x : Int)) := by
  rcases (by omega : v = 0 ∨ v = 1 ∨ v = 2 ∨ v = 3 ∨ v = 4) with rfl | rfl | rfl | rfl | rfl
  · exact ⟨2306139568115548160, by decide, by rw [cell_of_row w B 0 _ _ _ h]; rfl⟩
  · exact ⟨2306139568115613696, by decide, by rw [cell_of_row w B 1 _ _ _ h]; rfl⟩
  · exact ⟨18338657682652659712, by decide, by rw [cell_of_row w B 2 _ _ _ h]; rfl⟩
  · exact ⟨18230571291595767808, by decide, by rw [cell_of_row w B 3 _ _ _ h]; rfl⟩
  · exact ⟨0, by decide, by rw [cell_of_row w B 4 _ _ _ h]; rfl⟩
theorem ten (w : World) (B : Nat) (h : w.heap[B]? = some (.cells #[.int .i64 0, .int .i64 10, .int .i64 16, .int .i64 32, .int .i64 48, .int .i64 64, .int .i64 64, .int .i64 64, .int .i64 65, .int .i64 128] 3 (0, 0))) (v : Nat) (hv : v < 10) : ∃ x : Int, I64 x ∧ w.cell? ⟨B, v, none⟩ = some (.int .i64 x) := by
  rcases (by omega : v = 0 ∨ v = 1 ∨ v = 2 ∨ v = 3 ∨ v = 4 ∨ v = 5 ∨ v = 6 ∨ v = 7 ∨ v = 8 ∨ v = 9) with rfl | rfl | rfl | rfl | rfl | rfl | rfl | rfl | rfl | rfl
  · exact ⟨0, by unfold I64; omega, by rw [cell_of_row w B 0 _ _ _ h]; rfl⟩
  · exact ⟨10, by unfold I64; omega, by rw [cell_of_row w B 1 _ _ _ h]; rfl⟩
  · exact ⟨16, by unfold I64; omega, by rw [cell_of_row w B 2 _ _ _ h]; rfl⟩
  · exact ⟨32, by unfold I64; omega, by rw [cell_of_row w B 3 _ _ _ h]; rfl⟩
  · exact ⟨48, by unfold I64; omega, by rw [cell_of_row w B 4 _ _ _ h]; rfl⟩
  · exact ⟨64, by unfold I64; omega, by rw [cell_of_row w B 5 _ _ _ h]; rfl⟩
  · exact ⟨64, by unfold I64; omega, by rw [cell_of_row w B 6 _ _ _ h]; rfl⟩
  · exact ⟨64, by unfold I64; omega, by rw [cell_of_row w B 7 _ _ _ h]; rfl⟩
  · exact ⟨65, by unfold I64; omega, by rw [cell_of_row w B 8 _ _ _ h]; rfl⟩
  · exact ⟨128, by unfold I64; omega, by rw [cell_of_row w B 9 _ _ _ h]; rfl⟩
theorem wpList_store_pfxO {ops : Array Oper} {rest : List Oper} {op : Oper} {a : Act} {w : World} {Q : Exit → Act → World → Prop} {g : Nat} {l0 l : List UInt8} {n0 n : Int} (hgd : op.guard = none) (x y : Operand) (ho : op.op = .store 35 x y)
    (hx : a.eval x = .pointer (some ⟨g, 0, none⟩)) (hy : a.eval y = pv l n) (hK : Pk w g l0 n0) (hl0 : l0.length = 16) (hl : l.length = 16)
    (h : ∀ w', Hid (Pr w' g l n) → Only g w w' → wpList Tryd.prog ops Q rest (a.put op.dst undef) w') : wpList Tryd.prog ops Q (op :: rest) a w := by
  have hlen := length_pl l0 n0 hl0
  have hth : w.there g 0 17 := fun j hj => ⟨by rw [Nat.zero_add, cell_of_row w g j _ _ _ hK]; simp; omega, frozen_of_row w g (0 + j) _ _ hK⟩
  have hsz : ((pl l n).toArray).size = 17 := by simp [length_pl l n hl]
  refine wpList_store_mid hgd 35 x y ho g 0 (pl l n).toArray hx (by rw [hy]; rfl) (by rw [hsz]; exact hth) (by rw [hsz]; exact pfx_info) (all_oneCell_toArray (fun v hv => by
    unfold pl at hv; simp at hv; rcases hv with ⟨b, _, rfl⟩ | rfl <;> rfl)) ?_
  refine h _ (hid ?_) (only_cellsP _ _ _ _ (Only.refl g w))
  exact World.rangeAt_setCells_same w g 0 _ (by rw [show (pl l n).toArray.toList.length = 17 from by simp [length_pl l n hl]]; exact hth)

/-- what the tape's Prefix answers -/
def RetPx (g : Nat) (w : World) (e : Ending) (w' : World) : Prop :=
  ∃ l n, e = .returned (pv l n) ∧ l.length = 16 ∧ I64 n ∧ TapeAt w' g ∧ Only g w w'

set_option maxHeartbeats 4000000 in
set_option maxRecDepth 100000 in
theorem tprefix_any (g : Nat) (w : World) (hT : TapeAt w g) :
    Calls Tryd.prog 15 #[.pointer (some ⟨g, 0, none⟩)] w (RetPx g w) := by
  have hg := hT.lt
  have hK := Pk.zero w
  have hBa := (Below.refl w.heap.size w).alloc (Nat.le_refl _) (.cells #[.int .u8 0, .int .u8 0, .int .u8 0, .int .u8 0, .int .u8 0, .int .u8 0, .int .u8 0, .int .u8 0, .int .u8 0, .int .u8 0, .int .u8 0, .int .u8 0, .int .u8 0, .int .u8 0, .int .u8 0, .int .u8 0, .int .i64 0] 35)
  have hr5 := heap_alloc_new (w.alloc (.cells #[.int .u8 0, .int .u8 0, .int .u8 0, .int .u8 0, .int .u8 0, .int .u8 0, .int .u8 0, .int .u8 0, .int .u8 0, .int .u8 0, .int .u8 0, .int .u8 0, .int .u8 0, .int .u8 0, .int .u8 0, .int .u8 0, .int .i64 0] 35)) (.cells #[.int .u64 2306139568115548160, .int .u64 2306139568115613696, .int .u64 18338657682652659712, .int .u64 18230571291595767808, .int .u64 0] 48)
  rw [World.size_alloc] at hr5
  have hxb := (Below.refl (w.heap.size + 1) (w.alloc (.cells #[.int .u8 0, .int .u8 0, .int .u8 0, .int .u8 0, .int .u8 0, .int .u8 0, .int .u8 0, .int .u8 0, .int .u8 0, .int .u8 0, .int .u8 0, .int .u8 0, .int .u8 0, .int .u8 0, .int .u8 0, .int .u8 0, .int .i64 0] 35))).alloc (by simp) (.cells #[.int .u64 2306139568115548160, .int .u64 2306139568115613696, .int .u64 18338657682652659712, .int .u64 18230571291595767808, .int .u64 0] 48)
  have hK := hK.below hxb (Nat.lt_succ_self _)
  have hBb := hBa.trans (hxb.mono (Nat.le_succ _))
  have hTb := hT.below hBb
  have hOb := Only.ofBelow g hBb
  have hsb : ((w.alloc (.cells #[.int .u8 0, .int .u8 0, .int .u8 0, .int .u8 0, .int .u8 0, .int .u8 0, .int .u8 0, .int .u8 0, .int .u8 0, .int .u8 0, .int .u8 0, .int .u8 0, .int .u8 0, .int .u8 0, .int .u8 0, .int .u8 0, .int .i64 0] 35)).alloc (.cells #[.int .u64 2306139568115548160, .int .u64 2306139568115613696, .int .u64 18338657682652659712, .int .u64 18230571291595767808, .int .u64 0] 48)).heap.size = w.heap.size + 2 := by simp
  clear hBa hxb
  go_enter Tryd.func15, Tryd.ntmps15
  go_wp2_with fail
  generalize (w.alloc _).alloc _ = wb at *
  with_reducible refine (next_any g 5 _ hTb (by omega) (by omega)).mono ?_
  rintro e1 w1 ⟨v, rfl, hv5, hT1, hO1⟩
  have hv5 : v < 5 := by omega
  have hr5 : w1.heap[w.heap.size + 1]? = _ := (hO1.block _ (by omega) (by omega)).trans hr5
  have hK := hK.only hO1 (by omega) (by omega)
  have hO := hOb.trans hO1
  have hs1 : w.heap.size + 2 ≤ w1.heap.size := by have := hO1.size; omega
  obtain ⟨x, hx, cx⟩ := five w1 _ hr5 v hv5
  have hv5i : (v : Int) < 5 := by omega
  clear hTb hOb hO1 hr5 hsb hBb
  go_wp2_with fail
  with_reducible refine (next_any g 2 _ hT1 (by omega) (by omega)).mono ?_
  rintro e2 w2 ⟨u, rfl, hu2, hT2, hO2⟩
  have hK := hK.only hO2 (by omega) (by omega)
  have hO := hO.trans hO2
  have hs2 : w.heap.size + 2 ≤ w2.heap.size := by have := hO2.size; omega
  have hwu : IntKind.u64.wrap (u : Int) = (u : Int) := by rw [IntKind.wrap_u64]; omega
  clear hT1 hO2 cx
  go_wp2_with fail
  with_reducible refine (of_any x u hx (by omega) _).mono ?_
  rintro e3 w3 ⟨rfl, hb3⟩
  have hT3 := hT2.below hb3
  have hK := hK.below hb3 hK.lt
  have hO := hO.trans (Only.ofBelow g hb3)
  have hs3 : w.heap.size + 2 ≤ w3.heap.size := Nat.le_trans hs2 hb3.size
  have hal : (beBytes x 8 ++ beBytes u 8).length = 16 := by rw [List.length_append, length_beBytes, length_beBytes]
  generalize beBytes x 8 ++ beBytes u 8 = A at *
  clear hT2 hb3 hwu hx
  have hr10 := heap_alloc_new w3 (.cells #[.int .i64 0, .int .i64 10, .int .i64 16, .int .i64 32, .int .i64 48, .int .i64 64, .int .i64 64, .int .i64 64, .int .i64 65, .int .i64 128] 3)
  have hx4 := (Below.refl w3.heap.size w3).alloc (Nat.le_refl _) (.cells #[.int .i64 0, .int .i64 10, .int .i64 16, .int .i64 32, .int .i64 48, .int .i64 64, .int .i64 64, .int .i64 64, .int .i64 65, .int .i64 128] 3)
  have hT4 := hT3.below hx4
  have hK := hK.below hx4 hK.lt
  have hO := hO.trans (Only.ofBelow g hx4)
  have hs4 : (w3.alloc (.cells #[.int .i64 0, .int .i64 10, .int .i64 16, .int .i64 32, .int .i64 48, .int .i64 64, .int .i64 64, .int .i64 64, .int .i64 65, .int .i64 128] 3)).heap.size = w3.heap.size + 1 := by simp
  go_wp2_with fail
  generalize w3.alloc _ = w4 at *
  with_reducible refine (next_any g 10 _ hT4 (by omega) (by omega)).mono ?_
  rintro e5 w5 ⟨r, rfl, hr, hT5, hO5⟩
  have hr10 : w5.heap[w3.heap.size]? = _ := (hO5.block _ (by omega) (by omega)).trans hr10
  have hK := hK.only hO5 (by omega) (by omega)
  have hO := hO.trans hO5
  have hs5 : w.heap.size + 2 ≤ w5.heap.size := by have := hO5.size; omega
  obtain ⟨z, hz, cz⟩ := ten w5 _ hr10 r (by omega)
  have hr10i : (r : Int) < 10 := hr
  clear hT4 hO5 hr10 hx4 hs4 hT3
  generalize w3.heap.size = b14 at *
  go_wp2_with fail
  with_reducible refine (rmask_any A hal z hz _).mono ?_
  rintro e6 w6 ⟨rfl, hb6⟩
  have hT6 := hT5.below hb6
  have hK := hK.below hb6 hK.lt
  have hO := hO.trans (Only.ofBelow g hb6)
  have hml : (mL A (clamp z)).length = 16 := length_mL A _
  have hcl : I64 ((clamp z : Nat) : Int) := by unfold I64 clamp; omega
  generalize mL A (clamp z) = ML at *
  generalize clamp z = cz' at *
  go_wp2_with ((with_reducible refine wpList_store_pfxO (op := ⟨none, _, _, _, _, _⟩) ?_ (.tmp 2) (.tmp 19) ?_ ?_ (l := ML) (n := (cz' : Int)) ?_ hK (length_zeros 16) hml ?_); (· exact rfl); (· exact rfl); (· exact rfl); (· exact rfl); intro wz hRz hOz)
  refine bodyPost_ret (results_pfx rfl rfl hRz.out hml) rfl ⟨_, _, rfl, hml, hcl, hT6.only hOz hg, ?_⟩
  exact ⟨hOz.os.trans hO.os, hOz.tape.trans hO.tape, hOz.output.trans hO.output, Nat.le_trans hO.size hOz.size, fun k hk hne => (hOz.block k (Nat.lt_of_lt_of_le hk hO.size) (by omega)).trans (hO.block k hk hne)⟩


def solH : List UInt8 := [255, 2, 0, 0, 0, 0, 0, 0, 0, 0, 0, 1, 255, 0, 0, 0]
/-- the address at which a node with the address l is asked for -/
def solV (l : List UInt8) : List UInt8 := splice solH 13 (l.drop 13)
theorem length_solV (l : List UInt8) (h : l.length = 16) : (solV l).length = 16 := by simp [solV, splice, solH, h]

set_option maxHeartbeats 3200000 in
set_option maxRecDepth 100000 in
theorem solic_any (l : List UInt8) (hl : l.length = 16) (w : World) :
    Calls Tryd.prog 36 #[iv l] w (RetS (iv (solV l)) w) := by
  have hI := Ik.new w l
  have hIz := Ik.lit (w.alloc (.cells (row l) 23))
  rw [World.size_alloc] at hIz
  have hB := two_below w (.cells (row l) 23) (.cells #[.int .u8 0, .int .u8 0, .int .u8 0, .int .u8 0, .int .u8 0, .int .u8 0, .int .u8 0, .int .u8 0, .int .u8 0, .int .u8 0, .int .u8 0, .int .u8 0, .int .u8 0, .int .u8 0, .int .u8 0, .int .u8 0] 23)
  have hI2 := hI.below ((Below.refl (w.heap.size + 1) _).alloc (by simp) (.cells #[.int .u8 0, .int .u8 0, .int .u8 0, .int .u8 0, .int .u8 0, .int .u8 0, .int .u8 0, .int .u8 0, .int .u8 0, .int .u8 0, .int .u8 0, .int .u8 0, .int .u8 0, .int .u8 0, .int .u8 0, .int .u8 0] 23)) (Nat.lt_succ_self _)
  rw [iv]
  go_enter Tryd.func36, Tryd.ntmps36
  go_wp2_with fail
  have hb3 := (Below.refl (w.heap.size + 1 + 1) ((w.alloc (.cells (row l) 23)).alloc (.cells #[.int .u8 0, .int .u8 0, .int .u8 0, .int .u8 0, .int .u8 0, .int .u8 0, .int .u8 0, .int .u8 0, .int .u8 0, .int .u8 0, .int .u8 0, .int .u8 0, .int .u8 0, .int .u8 0, .int .u8 0, .int .u8 0] 23))).alloc (by simp) (.cells #[.int .u8 255, .int .u8 2, .int .u8 0, .int .u8 0, .int .u8 0, .int .u8 0, .int .u8 0, .int .u8 0, .int .u8 0, .int .u8 0, .int .u8 0, .int .u8 1, .int .u8 255, .int .u8 0, .int .u8 0, .int .u8 0] 23)
  have hI3 := hI2.below hb3 (by omega)
  have hIz3 := hIz.below hb3 (by omega)
  have hT : Ik (((w.alloc (.cells (row l) 23)).alloc (.cells #[.int .u8 0, .int .u8 0, .int .u8 0, .int .u8 0, .int .u8 0, .int .u8 0, .int .u8 0, .int .u8 0, .int .u8 0, .int .u8 0, .int .u8 0, .int .u8 0, .int .u8 0, .int .u8 0, .int .u8 0, .int .u8 0] 23)).alloc (.cells #[.int .u8 255, .int .u8 2, .int .u8 0, .int .u8 0, .int .u8 0, .int .u8 0, .int .u8 0, .int .u8 0, .int .u8 0, .int .u8 0, .int .u8 0, .int .u8 1, .int .u8 255, .int .u8 0, .int .u8 0, .int .u8 0] 23)) (w.heap.size + 1 + 1) solH := by
    have h := heap_alloc_new ((w.alloc (.cells (row l) 23)).alloc (.cells #[.int .u8 0, .int .u8 0, .int .u8 0, .int .u8 0, .int .u8 0, .int .u8 0, .int .u8 0, .int .u8 0, .int .u8 0, .int .u8 0, .int .u8 0, .int .u8 0, .int .u8 0, .int .u8 0, .int .u8 0, .int .u8 0] 23)) (.cells #[.int .u8 255, .int .u8 2, .int .u8 0, .int .u8 0, .int .u8 0, .int .u8 0, .int .u8 0, .int .u8 0, .int .u8 0, .int .u8 0, .int .u8 0, .int .u8 1, .int .u8 255, .int .u8 0, .int .u8 0, .int .u8 0] 23)
    rw [World.size_alloc, World.size_alloc] at h
    exact h
  have hB3 := hB.alloc hB.size (.cells #[.int .u8 255, .int .u8 2, .int .u8 0, .int .u8 0, .int .u8 0, .int .u8 0, .int .u8 0, .int .u8 0, .int .u8 0, .int .u8 0, .int .u8 0, .int .u8 1, .int .u8 255, .int .u8 0, .int .u8 0, .int .u8 0] 23)
  clear hb3 hI hIz hB hI2
  generalize ((w.alloc _).alloc _).alloc _ = w3 at hI3 hIz3 hT hB3 ⊢
  have hsrc := hI3.drew.isB 13 3 3 (by omega) (by omega) (by omega) (by omega)
  rw [show (l.drop 13).take 3 = l.drop 13 from List.take_of_length_le (by simp; omega)] at hsrc
  refine wp_region_held_drew (S := fun w' => Below w.heap.size w w' ∧ Ik w' (w.heap.size + 1) (zeros 16)) (by kernel_rfl) (⟨below_drewN hB3 1, hIz3.drew⟩) (fun hHeld => ?_)
  refine wpAnyH_take (i := 0) (oi := ⟨some 6, _, _, _, _, _⟩) (v := ?_) rfl (by kernel_rfl) (by kernel_rfl) (by kernel_rfl) (fun _ _ _ h => h) (Or.inl ⟨by rfl, ?_⟩) hHeld ?_
  rotate_left
  · intro w hSw; go_simp; try with_reducible rfl
  try simp only [Act.put, List.setIfInBounds_toArray, List.set_cons_zero, List.set_cons_succ]
  refine wpAnyH_take (i := 1) (oi := ⟨some 7, _, _, _, _, _⟩) (v := ?_) rfl (by kernel_rfl) (by kernel_rfl) (by kernel_rfl) (fun _ _ _ h => h) (Or.inl ⟨by rfl, ?_⟩) hHeld ?_
  rotate_left
  · intro w hSw; go_simp; try with_reducible rfl
  try simp only [Act.put, List.setIfInBounds_toArray, List.set_cons_zero, List.set_cons_succ]
  refine wpAnyH_take (i := 2) (oi := ⟨some 8, _, _, _, _, _⟩) (v := ?_) rfl (by kernel_rfl) (by kernel_rfl) (by kernel_rfl) (fun _ _ _ h => h) (Or.inl ⟨by rfl, ?_⟩) hHeld ?_
  rotate_left
  · intro w hSw; go_simp; try with_reducible rfl
  try simp only [Act.put, List.setIfInBounds_toArray, List.set_cons_zero, List.set_cons_succ]
  refine wpAnyH_take (i := 3) (oi := ⟨some 9, _, _, _, _, _⟩) (v := ?_) rfl (by kernel_rfl) (by kernel_rfl) (by kernel_rfl) (fun _ _ _ h => h) (Or.inl ⟨by rfl, ?_⟩) hHeld ?_
  rotate_left
  · intro w hSw; go_simp; try with_reducible rfl
  try simp only [Act.put, List.setIfInBounds_toArray, List.set_cons_zero, List.set_cons_succ]
  refine wpAnyH_ready (rs := [4]) (by kernel_rfl) (by simp) ?_
  refine AllReadyH.cons (o := ⟨some 10, _, _, _, _, _⟩) rfl (fun K hK => ?_) AllReadyH.nil
  refine step_copy_ip rfl (.tmp 7) (.tmp 9) rfl (w.heap.size + 1 + 1) 13 3 3 (some ⟨w.heap.size, 13, none⟩) 3 3 (some ⟨w.heap.size + 1 + 1, 13, none⟩) rfl (fun _ => rfl) rfl solH (l.drop 13) hT.drew hsrc (by omega) (by decide) (w.heap.size + 1 + 1) w3.drew ((Below.refl w3.drew.heap.size w3.drew).mono (Nat.le_of_lt hT.drew.lt)) (Nat.le_refl _) ?_
  intro w5 hJ5 hb5
  have hS : Below w.heap.size w w5 ∧ Ik w5 (w.heap.size + 1) (zeros 16) := ⟨hHeld.1.trans (hb5.mono (by omega)), hHeld.2.below hb5 (by omega)⟩
  have hJ5 := hJ5.out
  clear hHeld
  refine hK.out _ _ (hS) (fun hHeld => ?_)
  clear hK K
  try simp only [Act.put, List.setIfInBounds_toArray, List.set_cons_zero, List.set_cons_succ]
  refine wpAnyH_done (by kernel_rfl) ?_ _
  have hJ5 := hJ5
  have hl5 := length_solV l hl
  have hsv : splice solH 13 (l.drop 13) = solV l := rfl
  rw [hsv] at hJ5
  generalize hV : solV l = V at hJ5 hl5 ⊢
  have HV := hid hV
  clear hV
  go_wp2_with (first
    | (with_reducible refine wpList_load_ip (op := ⟨some 11, _, _, _, _, _⟩) rfl (.tmp 3) rfl rfl hJ5 hl5 ?_)
    | (with_reducible refine wpList_store_ip (op := ⟨none, _, _, _, _, _⟩) rfl (.tmp 2) (.tmp 11) rfl rfl rfl hHeld.2 (length_zeros 16) hl5 w.heap.size w hHeld.1 (by omega) ?_; intro w7 hR7 hB7))
  exact bodyPost_ret (results_ip rfl rfl hR7.out hl5) rfl ⟨by rw [HV.out], hB7⟩


theorem sol_of : beBytes 18375249429625044992 8 ++ beBytes 8573157376 8 = solH := by decide
theorem sixteen (l : List UInt8) (hl : l.length = 16) : ∃ b0 b1 b2 b3 b4 b5 b6 b7 b8 b9 b10 b11 b12 b13 b14 b15, l = [b0, b1, b2, b3, b4, b5, b6, b7, b8, b9, b10, b11, b12, b13, b14, b15] := by
  match l, hl with
  | [b0, b1, b2, b3, b4, b5, b6, b7, b8, b9, b10, b11, b12, b13, b14, b15], _ => exact ⟨_, _, _, _, _, _, _, _, _, _, _, _, _, _, _, _, rfl⟩
theorem sol_set (l : List UInt8) (hl : l.length = 16) : ((solH.set 13 (l.getD 13 0)).set 14 (l.getD 14 0)).set 15 (l.getD 15 0) = solV l := by
  obtain ⟨b0, b1, b2, b3, b4, b5, b6, b7, b8, b9, b10, b11, b12, b13, b14, b15, rfl⟩ := sixteen l hl
  rfl
theorem Ik.store {w : World} {g : Nat} {l0 l : List UInt8} (h : Ik w g l0) (h0 : l0.length = 16) (hl : l.length = 16) : Ik (w.setCells g 0 (l.map bv)) g l := by
  obtain ⟨b0, b1, b2, b3, b4, b5, b6, b7, b8, b9, b10, b11, b12, b13, b14, b15, rfl⟩ := sixteen l hl
  obtain ⟨c0, c1, c2, c3, c4, c5, c6, c7, c8, c9, c10, c11, c12, c13, c14, c15, rfl⟩ := sixteen l0 h0
  exact ((((((((((((((((h.set 0 _ b0 rfl).set 1 _ b1 rfl).set 2 _ b2 rfl).set 3 _ b3 rfl).set 4 _ b4 rfl).set 5 _ b5 rfl).set 6 _ b6 rfl).set 7 _ b7 rfl).set 8 _ b8 rfl).set 9 _ b9 rfl).set 10 _ b10 rfl).set 11 _ b11 rfl).set 12 _ b12 rfl).set 13 _ b13 rfl).set 14 _ b14 rfl).set 15 _ b15 rfl)
theorem wpList_store_ik {ops : Array Oper} {rest : List Oper} {op : Oper} {a : Act} {w : World} {Q : Exit → Act → World → Prop} {g : Nat} {l0 l : List UInt8} (hgd : op.guard = none) (x y : Operand) (ho : op.op = .store 23 x y)
    (hx : a.eval x = .pointer (some ⟨g, 0, none⟩)) (hy : a.eval y = iv l) (hK : Ik w g l0) (hl0 : l0.length = 16) (hl : l.length = 16) (B : Nat) (w0 : World) (hB : Below B w0 w) (hg : B ≤ g)
    (h : ∀ w', Hid (Ik w' g l) → Below B w0 w' → wpList Tryd.prog ops Q rest (a.put op.dst undef) w') : wpList Tryd.prog ops Q (op :: rest) a w := by
  have hth : w.there g 0 16 := fun j hj => ⟨by rw [Nat.zero_add, hK.cell j (by omega)]; rfl, frozen_of_row w g (0 + j) _ _ hK⟩
  have hsz : ((l.map bv).toArray).size = 16 := by simp [hl]
  refine wpList_store_mid hgd 23 x y ho g 0 (l.map bv).toArray hx (by rw [hy]; rfl) (by rw [hsz]; exact hth) (by rw [hsz]; exact ip_info) (all_oneCell_toArray (fun v hv => by simp at hv; obtain ⟨b, _, rfl⟩ := hv; rfl)) ?_
  exact h _ (hid (hK.store hl0 hl)) (below_cells hg _ _ _ hB)
set_option maxHeartbeats 3200000 in
set_option maxRecDepth 100000 in
theorem rsolic_any (l : List UInt8) (hl : l.length = 16) (w : World) :
    Calls Tryd.prog 37 #[iv l] w (RetS (iv (solV l)) w) := by
  have hI := Ik.new w l
  have hIz := Ik.lit (w.alloc (.cells (row l) 23))
  rw [World.size_alloc] at hIz
  have hB := two_below w (.cells (row l) 23) (.cells #[.int .u8 0, .int .u8 0, .int .u8 0, .int .u8 0, .int .u8 0, .int .u8 0, .int .u8 0, .int .u8 0, .int .u8 0, .int .u8 0, .int .u8 0, .int .u8 0, .int .u8 0, .int .u8 0, .int .u8 0, .int .u8 0] 23)
  have hI2 := hI.below ((Below.refl (w.heap.size + 1) _).alloc (by simp) (.cells #[.int .u8 0, .int .u8 0, .int .u8 0, .int .u8 0, .int .u8 0, .int .u8 0, .int .u8 0, .int .u8 0, .int .u8 0, .int .u8 0, .int .u8 0, .int .u8 0, .int .u8 0, .int .u8 0, .int .u8 0, .int .u8 0] 23)) (Nat.lt_succ_self _)
  rw [iv]
  go_enter Tryd.func37, Tryd.ntmps37
  go_wp2_with fail
  clear hI
  generalize (w.alloc _).alloc _ = w2 at hI2 hIz hB ⊢
  have ho := of_any 18375249429625044992 8573157376 (by decide) (by decide) w2
  rw [sol_of, show ((18375249429625044992 : Nat) : Int) = 18375249429625044992 from rfl, show ((8573157376 : Nat) : Int) = 8573157376 from rfl] at ho
  with_reducible refine ho.mono ?_
  rintro e3 w3 ⟨rfl, hb3⟩
  have hI3 := hI2.below hb3 hI2.lt
  have hIz3 := hIz.below hb3 hIz.lt
  have hB3 := hB.trans (hb3.mono hB.size)
  clear hb3 hI2 hIz hB ho
  have hIk := Ik.lit w3
  have hBw := (Below.refl w3.heap.size w3).alloc (Nat.le_refl _) (.cells #[.int .u8 0, .int .u8 0, .int .u8 0, .int .u8 0, .int .u8 0, .int .u8 0, .int .u8 0, .int .u8 0, .int .u8 0, .int .u8 0, .int .u8 0, .int .u8 0, .int .u8 0, .int .u8 0, .int .u8 0, .int .u8 0] 23)
  have hg1 : w.heap.size + 1 < w3.heap.size := hIz3.lt
  go_wp2_with (with_reducible refine wpList_store_ik (op := ⟨none, _, _, _, _, _⟩) rfl (.tmp 3) (.tmp 4) rfl rfl rfl hIk (length_zeros 16) (by decide) w3.heap.size w3 hBw (Nat.le_refl _) ?_; intro w4 hR4 hb4)
  have hT := hR4.out
  have hI4 := hI3.below hb4 hI3.lt
  have hIz4 := hIz3.below hb4 hIz3.lt
  have hB4 := hB3.trans (hb4.mono hB3.size)
  clear hIk hBw hR4 hb4 hI3 hIz3 hB3
  generalize w3.heap.size = g at *
  have hT := hT.drew
  have Z13 : ∀ w', Ik w' w.heap.size l → w'.cell? ⟨w.heap.size, 13, none⟩ = some (.int .u8 (l.getD 13 0).toNat) := fun w' h => h.cell 13 (by omega)
  have Z14 : ∀ w', Ik w' w.heap.size l → w'.cell? ⟨w.heap.size, 14, none⟩ = some (.int .u8 (l.getD 14 0).toNat) := fun w' h => h.cell 14 (by omega)
  have Z15 : ∀ w', Ik w' w.heap.size l → w'.cell? ⟨w.heap.size, 15, none⟩ = some (.int .u8 (l.getD 15 0).toNat) := fun w' h => h.cell 15 (by omega)
  have hsol := sol_set l hl
  generalize l.getD 13 0 = x13 at Z13 hsol
  generalize l.getD 14 0 = x14 at Z14 hsol
  generalize l.getD 15 0 = x15 at Z15 hsol
  have HS := hid hsol
  clear hsol
  simp only [Act.put]
  refine wp_region_held_drew (S := fun w' => Below w.heap.size w w' ∧ Ik w' w.heap.size l ∧ Ik w' (w.heap.size + 1) (zeros 16)) (by kernel_rfl) (⟨below_drewN hB4 1, hI4.drew, hIz4.drew⟩) (fun hHeld => ?_)
  generalize w4.drew = v0 at hHeld hT ⊢
  refine wpAnyH_take (i := 0) (oi := ⟨some 5, _, _, _, _, _⟩) (v := ?_) rfl (by kernel_rfl) (by kernel_rfl) (by kernel_rfl) (fun _ _ _ h => h) (Or.inl ⟨by rfl, ?_⟩) hHeld ?_
  rotate_left
  · intro w hSw; go_simp; try with_reducible rfl
  try simp only [Act.put, List.setIfInBounds_toArray, List.set_cons_zero, List.set_cons_succ]
  refine wpAnyH_take (i := 1) (oi := ⟨some 6, _, _, _, _, _⟩) (v := ?_) rfl (by kernel_rfl) (by kernel_rfl) (by kernel_rfl) (fun _ _ _ h => h) (Or.inl ⟨by rfl, ?_⟩) hHeld ?_
  rotate_left
  · intro w hSw; have z13 := Z13 _ hSw.2.1; have z14 := Z14 _ hSw.2.1; have z15 := Z15 _ hSw.2.1; go_simp; try with_reducible rfl
  try simp only [Act.put, List.setIfInBounds_toArray, List.set_cons_zero, List.set_cons_succ]
  refine wpAnyH_take (i := 2) (oi := ⟨some 7, _, _, _, _, _⟩) (v := ?_) rfl (by kernel_rfl) (by kernel_rfl) (by kernel_rfl) (fun _ _ _ h => h) (Or.inl ⟨by rfl, ?_⟩) hHeld ?_
  rotate_left
  · intro w hSw; go_simp; try with_reducible rfl
  try simp only [Act.put, List.setIfInBounds_toArray, List.set_cons_zero, List.set_cons_succ]
  refine wpAnyH_take (i := 3) (oi := ⟨some 8, _, _, _, _, _⟩) (v := ?_) rfl (by kernel_rfl) (by kernel_rfl) (by kernel_rfl) (fun _ _ _ h => h) (Or.inl ⟨by rfl, ?_⟩) hHeld ?_
  rotate_left
  · intro w hSw; have z13 := Z13 _ hSw.2.1; have z14 := Z14 _ hSw.2.1; have z15 := Z15 _ hSw.2.1; go_simp; try with_reducible rfl
  try simp only [Act.put, List.setIfInBounds_toArray, List.set_cons_zero, List.set_cons_succ]
  refine wpAnyH_take (i := 4) (oi := ⟨some 9, _, _, _, _, _⟩) (v := ?_) rfl (by kernel_rfl) (by kernel_rfl) (by kernel_rfl) (fun _ _ _ h => h) (Or.inl ⟨by rfl, ?_⟩) hHeld ?_
  rotate_left
  · intro w hSw; go_simp; try with_reducible rfl
  try simp only [Act.put, List.setIfInBounds_toArray, List.set_cons_zero, List.set_cons_succ]
  refine wpAnyH_take (i := 5) (oi := ⟨some 10, _, _, _, _, _⟩) (v := ?_) rfl (by kernel_rfl) (by kernel_rfl) (by kernel_rfl) (fun _ _ _ h => h) (Or.inl ⟨by rfl, ?_⟩) hHeld ?_
  rotate_left
  · intro w hSw; have z13 := Z13 _ hSw.2.1; have z14 := Z14 _ hSw.2.1; have z15 := Z15 _ hSw.2.1; go_simp; try with_reducible rfl
  try simp only [Act.put, List.setIfInBounds_toArray, List.set_cons_zero, List.set_cons_succ]
  refine wpAnyH_take (i := 6) (oi := ⟨some 11, _, _, _, _, _⟩) (v := ?_) rfl (by kernel_rfl) (by kernel_rfl) (by kernel_rfl) (fun _ _ _ h => h) (Or.inl ⟨by rfl, ?_⟩) hHeld ?_
  rotate_left
  · intro w hSw; go_simp; try with_reducible rfl
  try simp only [Act.put, List.setIfInBounds_toArray, List.set_cons_zero, List.set_cons_succ]
  refine wpAnyH_ready (rs := [7]) (by kernel_rfl) (by simp) ?_
  refine AllReadyH.cons (o := ⟨none, _, _, _, _, _⟩) rfl (fun K hK => ?_) AllReadyH.nil
  have hP := hHeld
  have hc13 := hT.cell 13 (by simp [solH])
  have hf13 := hT.frozen 13
  go_simp
  have hT1 := hT.set 13 (.int .u8 x13.toNat) x13 rfl
  have hS : Below w.heap.size w (v0.setCell ⟨g, 13, none⟩ (.int .u8 x13.toNat)) ∧ Ik (v0.setCell ⟨g, 13, none⟩ (.int .u8 x13.toNat)) w.heap.size l ∧ Ik (v0.setCell ⟨g, 13, none⟩ (.int .u8 x13.toNat)) (w.heap.size + 1) (zeros 16) := ⟨hP.1.setCell (by simp; omega) _, by unfold Ik; rw [heap_setCell_other _ _ _ _ (by simp; omega)]; exact hP.2.1, by unfold Ik; rw [heap_setCell_other _ _ _ _ (by simp; omega)]; exact hP.2.2⟩
  clear hP hc13 hf13
  clear hHeld
  refine hK.out _ _ (hS) (fun hHeld => ?_)
  clear hK K
  try simp only [Act.put, List.setIfInBounds_toArray, List.set_cons_zero, List.set_cons_succ]
  refine wpAnyH_take (i := 8) (oi := ⟨some 12, _, _, _, _, _⟩) (v := ?_) rfl (by kernel_rfl) (by kernel_rfl) (by kernel_rfl) (fun _ _ _ h => h) (Or.inl ⟨by rfl, ?_⟩) hHeld ?_
  rotate_left
  · intro w hSw; go_simp; try with_reducible rfl
  try simp only [Act.put, List.setIfInBounds_toArray, List.set_cons_zero, List.set_cons_succ]
  refine wpAnyH_ready (rs := [9]) (by kernel_rfl) (by simp) ?_
  refine AllReadyH.cons (o := ⟨none, _, _, _, _, _⟩) rfl (fun K hK => ?_) AllReadyH.nil
  have hP := hHeld
  have hc14 := hT1.cell 14 (by simp [solH])
  have hf14 := hT1.frozen 14
  go_simp
  have hT2 := hT1.set 14 (.int .u8 x14.toNat) x14 rfl
  have hS : Below w.heap.size w ((v0.setCell ⟨g, 13, none⟩ (.int .u8 x13.toNat)).setCell ⟨g, 14, none⟩ (.int .u8 x14.toNat)) ∧ Ik ((v0.setCell ⟨g, 13, none⟩ (.int .u8 x13.toNat)).setCell ⟨g, 14, none⟩ (.int .u8 x14.toNat)) w.heap.size l ∧ Ik ((v0.setCell ⟨g, 13, none⟩ (.int .u8 x13.toNat)).setCell ⟨g, 14, none⟩ (.int .u8 x14.toNat)) (w.heap.size + 1) (zeros 16) := ⟨hP.1.setCell (by simp; omega) _, by unfold Ik; rw [heap_setCell_other _ _ _ _ (by simp; omega)]; exact hP.2.1, by unfold Ik; rw [heap_setCell_other _ _ _ _ (by simp; omega)]; exact hP.2.2⟩
  clear hP hc14 hf14
  clear hHeld
  refine hK.out _ _ (hS) (fun hHeld => ?_)
  clear hK K
  try simp only [Act.put, List.setIfInBounds_toArray, List.set_cons_zero, List.set_cons_succ]
  refine wpAnyH_take (i := 10) (oi := ⟨some 13, _, _, _, _, _⟩) (v := ?_) rfl (by kernel_rfl) (by kernel_rfl) (by kernel_rfl) (fun _ _ _ h => h) (Or.inl ⟨by rfl, ?_⟩) hHeld ?_
  rotate_left
  · intro w hSw; go_simp; try with_reducible rfl
  try simp only [Act.put, List.setIfInBounds_toArray, List.set_cons_zero, List.set_cons_succ]
  refine wpAnyH_ready (rs := [11]) (by kernel_rfl) (by simp) ?_
  refine AllReadyH.cons (o := ⟨none, _, _, _, _, _⟩) rfl (fun K hK => ?_) AllReadyH.nil
  have hP := hHeld
  have hc15 := hT2.cell 15 (by simp [solH])
  have hf15 := hT2.frozen 15
  go_simp
  have hT3 := hT2.set 15 (.int .u8 x15.toNat) x15 rfl
  have hS : Below w.heap.size w (((v0.setCell ⟨g, 13, none⟩ (.int .u8 x13.toNat)).setCell ⟨g, 14, none⟩ (.int .u8 x14.toNat)).setCell ⟨g, 15, none⟩ (.int .u8 x15.toNat)) ∧ Ik (((v0.setCell ⟨g, 13, none⟩ (.int .u8 x13.toNat)).setCell ⟨g, 14, none⟩ (.int .u8 x14.toNat)).setCell ⟨g, 15, none⟩ (.int .u8 x15.toNat)) w.heap.size l ∧ Ik (((v0.setCell ⟨g, 13, none⟩ (.int .u8 x13.toNat)).setCell ⟨g, 14, none⟩ (.int .u8 x14.toNat)).setCell ⟨g, 15, none⟩ (.int .u8 x15.toNat)) (w.heap.size + 1) (zeros 16) := ⟨hP.1.setCell (by simp; omega) _, by unfold Ik; rw [heap_setCell_other _ _ _ _ (by simp; omega)]; exact hP.2.1, by unfold Ik; rw [heap_setCell_other _ _ _ _ (by simp; omega)]; exact hP.2.2⟩
  clear hP hc15 hf15
  clear hHeld
  refine hK.out _ _ (hS) (fun hHeld => ?_)
  clear hK K
  try simp only [Act.put, List.setIfInBounds_toArray, List.set_cons_zero, List.set_cons_succ]
  refine wpAnyH_done (by kernel_rfl) ?_ _
  have hT4 := hT3
  rw [HS.out] at hT4
  have hl5 := length_solV l hl
  clear hT hT1 hT2 hT3
  generalize hV : solV l = V at hT4 hl5 ⊢
  have HV := hid hV
  clear hV
  generalize ((World.setCell _ _ _).setCell _ _).setCell _ _ = w5 at hT4 hHeld ⊢
  go_wp2_with (first
    | (with_reducible refine wpList_load_ip (op := ⟨some 14, _, _, _, _, _⟩) rfl (.tmp 3) rfl rfl hT4 hl5 ?_)
    | (with_reducible refine wpList_store_ip (op := ⟨none, _, _, _, _, _⟩) rfl (.tmp 2) (.tmp 14) rfl rfl rfl hHeld.2.2 (length_zeros 16) hl5 w.heap.size w hHeld.1 (by omega) ?_; intro w7 hR7 hB7))
  exact bodyPost_ret (results_ip rfl rfl hR7.out hl5) rfl ⟨by rw [HV.out], hB7⟩


set_option maxHeartbeats 3200000 in
set_option maxRecDepth 100000 in
theorem rjoin_any (l : List UInt8) (hl : l.length = 16) (n : Int) (hn : I64 n) (iid : Nat) (hi : iid < 18446744073709551616) (w : World) :
    Calls Tryd.prog 31 #[pv l n, .int .u64 iid] w (RetS (.tuple #[iv (joinL l n iid), .bool (joinOk l n)]) w) := by
  have hP := (Pk.new w l n).pr.below ((Below.refl (w.heap.size + 1) _).alloc (by simp) (.cells #[.int .u8 0, .int .u8 0, .int .u8 0, .int .u8 0, .int .u8 0, .int .u8 0, .int .u8 0, .int .u8 0, .int .u8 0, .int .u8 0, .int .u8 0, .int .u8 0, .int .u8 0, .int .u8 0, .int .u8 0, .int .u8 0] 23)) (Nat.lt_succ_self _)
  have hI := Ik.lit (w.alloc (.cells (pl l n).toArray 35))
  rw [World.size_alloc] at hI
  have hB := two_below w (.cells (pl l n).toArray 35) (.cells #[.int .u8 0, .int .u8 0, .int .u8 0, .int .u8 0, .int .u8 0, .int .u8 0, .int .u8 0, .int .u8 0, .int .u8 0, .int .u8 0, .int .u8 0, .int .u8 0, .int .u8 0, .int .u8 0, .int .u8 0, .int .u8 0] 23)
  have hv := fun w => rvalidp_any l hl n hn w
  have hs := fun w => rsplit_any l hl w
  have hhi : hiOf l < 18446744073709551616 := uint8_lt _ (by simp; omega)
  have hd1 : joinOk l n = (conP l n l && decide (n ≤ 64)) := rfl
  have hd2 : joinL l n iid = if joinOk l n = true then beBytes (hiOf l) 8 ++ beBytes iid 8 else zeros 16 := rfl
  have hl16 : (beBytes (hiOf l) 8 ++ beBytes iid 8).length = 16 := by rw [List.length_append, length_beBytes, length_beBytes]
  generalize conP l n l = b at hv hd1
  generalize hiOf l = H at *
  have H1 := hid hd1
  have H2 := hid hd2
  clear hd1 hd2
  rw [show pv l n = .agg (pl l n).toArray from rfl]
  go_enter Tryd.func31, Tryd.ntmps31
  go_wp2_with (with_reducible refine wpList_load_pfx (op := ⟨some 8, _, _, _, _, _⟩) rfl (.tmp 2) rfl rfl hP hl ?_)
  generalize (w.alloc _).alloc _ = w2 at hP hI hB ⊢
  with_reducible refine (hv _).mono ?_
  rintro e3 w3 ⟨rfl, hb3⟩
  have hP3 := hP.below hb3 (hP.lt hl)
  have hI3 := hI.below hb3 hI.lt
  have hB3 := hB.trans (hb3.mono hB.size)
  have z1 := hP3.bits hl
  clear hP hI hB hb3 hv
  have no : joinOk l n = false → joinL l n iid = zeros 16 := fun h => by rw [H2.out, h]; rfl
  have yes : joinOk l n = true → joinL l n iid = beBytes H 8 ++ beBytes iid 8 := fun h => by rw [H2.out, if_pos h]
  have no := hid no
  have yes := hid yes
  by_cases hq : b = true ∧ n ≤ 64
  · obtain ⟨rfl, h64⟩ := hq
    have hj : joinOk l n = true := by rw [H1.out]; simp [h64]
    have hj := hid hj
    go_wp2_with (with_reducible refine wpList_load_ry (op := ⟨some 19, _, _, _, _, _⟩) rfl (.tmp 18) rfl rfl hP3.ry hl ?_)
    with_reducible refine (hs _).mono ?_
    rintro e4 w4 ⟨rfl, hb4⟩
    have hI4 := hI3.below hb4 hI3.lt
    have hB4 := hB3.trans (hb4.mono hB3.size)
    go_wp2_with fail
    with_reducible refine (of_any H iid hhi hi _).mono ?_
    rintro e5 w5 ⟨rfl, hb5⟩
    have hI5 := hI4.below hb5 hI4.lt
    have hB5 := hB4.trans (hb5.mono hB4.size)
    go_wp2_with (with_reducible refine wpList_store_ip (op := ⟨none, _, _, _, _, _⟩) rfl (.tmp 4) (.tmp 25) rfl rfl rfl hI5 (length_zeros 16) hl16 w.heap.size w hB5 (by omega) ?_; intro w7 hR7 hB7)
    exact bodyPost_ret (results_ip2 rfl rfl hR7.out hl16) rfl ⟨by rw [yes.out hj.out, hj.out]; rfl, hB7⟩
  · have hj : joinOk l n = false := by rw [H1.out]; cases b <;> simp at hq ⊢; omega
    have hj := hid hj
    cases b
    · go_wp2_with (with_reducible refine wpList_store_ip0 (op := ⟨none, _, _, _, _, _⟩) rfl (.tmp 4) (.tmp 16) rfl rfl rfl hI3 (length_zeros 16) w.heap.size w hB3 (by omega) ?_; intro w7 hR7 hB7)
      exact bodyPost_ret (results_ip2 rfl rfl hR7.out (length_zeros 16)) rfl ⟨by rw [no.out hj.out, hj.out]; rfl, hB7⟩
    · have h64 : ¬ n ≤ 64 := fun h => hq ⟨rfl, h⟩
      go_wp2_with (with_reducible refine wpList_store_ip0 (op := ⟨none, _, _, _, _, _⟩) rfl (.tmp 4) (.tmp 16) rfl rfl rfl hI3 (length_zeros 16) w.heap.size w hB3 (by omega) ?_; intro w7 hR7 hB7)
      exact bodyPost_ret (results_ip2 rfl rfl hR7.out (length_zeros 16)) rfl ⟨by rw [no.out hj.out, hj.out]; rfl, hB7⟩


theorem ip_neq (l m : List UInt8) (hl : l.length = 16) (hm : m.length = 16) (w : World) :
    (binOp .neq 23 (iv l) (iv m)).run Tryd.prog w = .ok (.bool (!(l == m))) w := by
  have h := ip_equal l m hl hm w
  unfold iv at h ⊢
  simp [binOp, h]

theorem two_range {w : World} {g : Nat} {l l2 : List UInt8} {n n2 : Int} (h : w.heap[g]? = some (.cells (pl l n ++ pl l2 n2).toArray 35 (0, 0))) (hl : l.length = 16) : w.rangeAt g 0 (pl l n) ∧ w.rangeAt g 17 (pl l2 n2) := by
  have hln := length_pl l n hl
  constructor
  · intro j v hj
    have hj17 := (List.getElem?_eq_some_iff.1 hj).1
    rw [Nat.zero_add, cell_of_row w g j _ _ _ h]
    rw [List.getElem?_toArray, List.getElem?_append_left hj17]; exact hj
  · intro j v hj
    rw [cell_of_row w g (17 + j) _ _ _ h]
    rw [List.getElem?_toArray, List.getElem?_append_right (by omega), hln]
    rw [show 17 + j - 17 = j from by omega]; exact hj
theorem wpList_load_pfx_at {ops : Array Oper} {rest : List Oper} {op : Oper} {a : Act} {w : World} {Q : Exit → Act → World → Prop} {l : List UInt8} {n : Int} (hgd : op.guard = none) (x : Operand) (ho : op.op = .load 35 x) (g o : Nat)
    (hx : a.eval x = .pointer (some ⟨g, o, none⟩)) (hK : w.rangeAt g o (pl l n)) (hl : l.length = 16)
    (h : wpList Tryd.prog ops Q rest (a.put op.dst (pv l n)) w) : wpList Tryd.prog ops Q (op :: rest) a w :=
  wpList_load_mid hgd 35 x ho g o hx (pl l n) _ hK Tryd.underlying35 rfl (by rw [length_pl l n hl]; exact pfx_info) h

set_option maxHeartbeats 8000000 in
set_option maxRecDepth 100000 in
theorem halves_walk (a b l : List UInt8) (n : Int) (ta : Option Addr) (tlen tcap : Nat) (iid : Int) (w : World) (ha : a.length = 16) (hbl : b.length = 16) (hl : l.length = 16) (hn : I64 n) (hI : IsI w ta tlen tcap) (hi : U64 iid) (G : GL w) :
    Calls Tryd.prog 5 #[iv a, iv b, pv l n, .slice ta tlen tcap, .int .u64 iid] w (RetS (.bool true) w) := by
  have hx1 := (Below.refl (w.heap.size + 1) (w.alloc (.cells (row a) 23))).alloc (by simp) (.cells (row b) 23)
  have hx2 := (Below.refl (w.heap.size + 2) ((w.alloc (.cells (row a) 23)).alloc (.cells (row b) 23))).alloc (by simp) (.cells (pl l n).toArray 35)
  have hRa : Ry (((w.alloc (.cells (row a) 23)).alloc (.cells (row b) 23)).alloc (.cells (pl l n).toArray 35)) w.heap.size a := ((Ik.new w a).ry.below hx1 (Nat.lt_succ_self _)).below hx2 (by omega)
  have hRb : Ry (((w.alloc (.cells (row a) 23)).alloc (.cells (row b) 23)).alloc (.cells (pl l n).toArray 35)) (w.heap.size + 1) b := by
    have := (Ik.new (w.alloc (.cells (row a) 23)) b).ry
    rw [World.size_alloc] at this
    exact this.below hx2 (by omega)
  have hP : Pr (((w.alloc (.cells (row a) 23)).alloc (.cells (row b) 23)).alloc (.cells (pl l n).toArray 35)) (w.heap.size + 2) l n := by
    have := (Pk.new ((w.alloc (.cells (row a) 23)).alloc (.cells (row b) 23)) l n).pr
    rw [World.size_alloc, World.size_alloc] at this
    exact this
  have hB : Below w.heap.size w (((w.alloc (.cells (row a) 23)).alloc (.cells (row b) 23)).alloc (.cells (pl l n).toArray 35)) := (two_below w (.cells (row a) 23) (.cells (row b) 23)).alloc (by simp; omega) (.cells (pl l n).toArray 35)
  have hI := hI.below hB
  have G := G.on hB
  clear hx1 hx2
  obtain ⟨iid, rfl⟩ := Int.eq_ofNat_of_zero_le hi.1
  have hiN : iid < 18446744073709551616 := by unfold U64 at hi; omega
  have s1 := fun w => split_any a ha w
  have s2 := fun w => rsplit_any a ha w
  generalize hiOf a = ah at *
  generalize loOf a = al at *
  rw [iv, iv, show pv l n = .agg (pl l n).toArray from rfl]
  go_enter Tryd.func5, Tryd.ntmps5
  go_wp2_with ((with_reducible refine wpList_load_ry (op := ⟨some 22, _, _, _, _, _⟩) ?_ (.tmp 5) ?_ ?_ hRa ha ?_); (· exact rfl); (· exact rfl); (· exact rfl))
  generalize ((w.alloc _).alloc _).alloc _ = w0 at *
  with_reducible refine (s1 _).mono ?_
  rintro e1 w0' ⟨rfl, hb1⟩
  have hRa := hRa.below hb1 (hRa.lt ha)
  have hRb := hRb.below hb1 (hRb.lt hbl)
  have hP := hP.below hb1 (hP.lt hl)
  have hI := hI.below hb1
  have G := G.on hb1
  have hB := hB.trans (hb1.mono hB.size)
  clear hb1
  go_wp2_with ((with_reducible refine wpList_load_ry (op := ⟨some 27, _, _, _, _, _⟩) ?_ (.tmp 5) ?_ ?_ hRa ha ?_); (· exact rfl); (· exact rfl); (· exact rfl))
  with_reducible refine (s2 _).mono ?_
  rintro e2 w1 ⟨rfl, hb1⟩
  have hRa := hRa.below hb1 (hRa.lt ha)
  have hRb := hRb.below hb1 (hRb.lt hbl)
  have hP := hP.below hb1 (hP.lt hl)
  have hI := hI.below hb1
  have G := G.on hb1
  have hB := hB.trans (hb1.mono hB.size)
  clear hb1 s1 s2
  go_upto_region 3 with (fail)
  refine wp_region_held_drew (S := fun w' => Below w1.heap.size w1 w') (by kernel_rfl) (below_drewN (Below.refl _ _) 1) (fun hHeld => ?_)
  refine wpAnyH_pfx (g := w.heap.size + 2) (l := l) (n := n) (i := 0) (oi := ⟨some 31, _, _, _, _, _⟩) rfl (by kernel_rfl) (by kernel_rfl) (by kernel_rfl) (fun _ _ _ h => h) (by rfl) (.tmp 7) rfl rfl hl (fun _ h => hP.below h (hP.lt hl)) hHeld ?_
  try simp only [Act.put, List.setIfInBounds_toArray, List.set_cons_zero, List.set_cons_succ]
  refine wpAnyH_take (i := 1) (oi := ⟨some 32, _, _, _, _, _⟩) (v := ?_) rfl (by kernel_rfl) (by kernel_rfl) (by kernel_rfl) (fun _ _ _ h => h) (Or.inl ⟨by rfl, ?_⟩) hHeld ?_
  rotate_left
  · intro w hSw; go_simp; try with_reducible rfl
  try simp only [Act.put, List.setIfInBounds_toArray, List.set_cons_zero, List.set_cons_succ]
  refine wpAnyH_ready (rs := [2]) (by kernel_rfl) (by simp) ?_
  refine AllReadyH.cons (o := ⟨some 33, _, _, _, _, _⟩) rfl (fun K hK => ?_) AllReadyH.nil
  go_simp
  with_reducible refine (new_any ta tlen tcap _ (hI.below hHeld)).mono ?_
  rintro e4 w4 ⟨g, rfl, hg, hT4, hb4⟩
  have hs4 := hHeld.size
  have hB4 := hHeld.trans (hb4.mono hHeld.size)
  have hg1 := Nat.le_trans hs4 hg
  go_wp2_with fail
  clear hHeld
  refine hK.out _ _ (hB4) (fun hHeld => ?_)
  clear hK K
  try simp only [Act.put, List.setIfInBounds_toArray, List.set_cons_zero, List.set_cons_succ]
  refine wpAnyH_ready (rs := [3]) (by kernel_rfl) (by simp) ?_
  refine AllReadyH.cons (o := ⟨some 34, _, _, _, _, _⟩) rfl (fun K hK => ?_) AllReadyH.nil
  go_simp
  with_reducible refine (tprefix_any g _ hT4).mono ?_
  rintro e5 w5 ⟨l2, n2, rfl, hl2, hn2, hT5, hO5⟩
  have hB5 := hB4.trans (hO5.below hg1 hB4.size)
  go_wp2_with fail
  clear hHeld
  refine hK.out _ _ (hB5) (fun hHeld => ?_)
  clear hK K
  try simp only [Act.put, List.setIfInBounds_toArray, List.set_cons_zero, List.set_cons_succ]
  refine wpAnyH_ready (rs := [4]) (by kernel_rfl) (by simp) ?_
  refine AllReadyH.cons (o := ⟨some 35, _, _, _, _, _⟩) rfl (fun K hK => ?_) AllReadyH.nil
  refine step_build_two rfl (.tmp 31) (.tmp 34) rfl l l2 n n2 rfl rfl hl hl2 ?_
  have hsz5 := hB5.size
  have hcl := heap_alloc_new w5 (.cells (pl l n ++ pl l2 n2).toArray 35)
  have hB6 := hB5.alloc hsz5 (.cells (pl l n ++ pl l2 n2).toArray 35)
  have hbs6 : (w5.alloc (.cells (pl l n ++ pl l2 n2).toArray 35)).heap.size = w5.heap.size + 1 := by simp
  clear hHeld
  refine hK.out _ _ (hB6) (fun hHeld => ?_)
  clear hK K
  try simp only [Act.put, List.setIfInBounds_toArray, List.set_cons_zero, List.set_cons_succ]
  refine wpAnyH_take (i := 5) (oi := ⟨some 15, _, _, _, _, _⟩) (v := ?_) rfl (by kernel_rfl) (by kernel_rfl) (by kernel_rfl) (fun _ _ _ h => h) (Or.inl ⟨by rfl, ?_⟩) hHeld ?_
  rotate_left
  · intro w hSw; go_simp; try with_reducible rfl
  try simp only [Act.put, List.setIfInBounds_toArray, List.set_cons_zero, List.set_cons_succ]
  refine wpAnyH_done (by kernel_rfl) ?_ _
  clear hHeld
  have hA0 := hid (two_range hcl hl).1
  have hB0 := hid (two_range hcl hl).2
  have hRa7 := hRa.below hB6 (hRa.lt ha)
  have hRb7 := hRb.below hB6 (hRb.lt hbl)
  have G7 := G.on hB6
  have hBw7 := hB.trans (hB6.mono hB.size)
  have hblt : w5.heap.size < (w5.alloc (.cells (pl l n ++ pl l2 n2).toArray 35)).heap.size := by omega
  have hB7' := hB6
  clear hcl hB6 hB5 hB4 hT4 hT5 hO5 hb4 hbs6 hsz5 hs4 hg1
  generalize w5.alloc _ = w7 at *
  generalize w5.heap.size = bl at *
  go_wp2_with fail
  clear hRa hRb hP hI hB
  have hs7 := hB7'.size
  go_loopw [16] (fun i wr => (i = .int .i64 0 ∨ i = .int .i64 1 ∨ i = .int .i64 2) ∧ Below w7.heap.size w7 wr) (fun i _ => 3 - (intOf i).toNat)
  case atStart => exact ⟨Or.inl rfl, Below.refl _ _⟩
  case round =>
    obtain ⟨hi7, hBr⟩ := hrel
    rcases hi7 with rfl | rfl | rfl
    · have hr0 := hA0.out
      have hrg : wr.rangeAt bl 0 (pl l n) := fun j v hj => by rw [hBr.cell (p := ⟨bl, 0 + j, none⟩) hblt]; exact hr0 j v hj
      have j1 := fun w => join_any l hl n hn iid hiN w
      have j2 := fun w => rjoin_any l hl n hn iid hiN w
      have hJ := length_joinL l n iid
      generalize joinL l n iid = J at *
      generalize joinOk l n = ok at *
      have qn := fun w => ip_neq J J hJ hJ w
      have qg := fun op x y w => ip_guarded op x y J J w
      have hjj : (J == J) = true := by simp
      rw [hjj] at qn
      clear hjj
      go_wp2_with ((with_reducible refine wpList_load_pfx_at (op := ⟨some 44, _, _, _, _, _⟩) ?_ (.tmp 43) ?_ bl 0 ?_ hrg hl ?_); (· exact rfl); (· exact rfl); (· exact rfl))
      with_reducible refine (j1 _).mono ?_
      rintro e wz ⟨rfl, hbz⟩
      have hBz := hBr.trans (hbz.mono hBr.size)
      have hxz := (Below.refl wz.heap.size wz).alloc (Nat.le_refl _) (.cells #[.int .u8 0, .int .u8 0, .int .u8 0, .int .u8 0, .int .u8 0, .int .u8 0, .int .u8 0, .int .u8 0, .int .u8 0, .int .u8 0, .int .u8 0, .int .u8 0, .int .u8 0, .int .u8 0, .int .u8 0, .int .u8 0] 23)
      have hIk := Ik.lit wz
      go_upto_region 8 with (((with_reducible refine wpList_store_ip (op := ⟨none, _, _, _, _, _⟩) ?_ (.tmp 17) (.tmp 47) ?_ ?_ (l := J) ?_ hIk (length_zeros 16) hJ wz.heap.size wz (by exact hxz) (Nat.le_refl _) ?_); (· exact rfl); (· exact rfl); (· exact rfl); (· exact rfl); intro w7 hR7 hb7))
      have hR7 := hR7.out
      have hB7 := hBz.trans (hb7.mono hBz.size)
      have hrg : w7.rangeAt bl 0 (pl l n) := fun j v hj => by rw [hB7.cell (p := ⟨bl, 0 + j, none⟩) hblt]; exact hr0 j v hj
      have h17 := hR7.lt hJ
      clear hxz hIk hbz hb7 j1
      generalize wz.heap.size = b17 at *
      go_wp2_with ((with_reducible refine wpList_load_pfx_at (op := ⟨some 53, _, _, _, _, _⟩) ?_ (.tmp 52) ?_ bl 0 ?_ hrg hl ?_); (· exact rfl); (· exact rfl); (· exact rfl))
      with_reducible refine (j2 _).mono ?_
      rintro e wz ⟨rfl, hbz⟩
      have hR7 := hR7.below hbz h17
      have hBz := hB7.trans (hbz.mono hB7.size)
      have hxz := (Below.refl wz.heap.size wz).alloc (Nat.le_refl _) (.cells #[.int .u8 0, .int .u8 0, .int .u8 0, .int .u8 0, .int .u8 0, .int .u8 0, .int .u8 0, .int .u8 0, .int .u8 0, .int .u8 0, .int .u8 0, .int .u8 0, .int .u8 0, .int .u8 0, .int .u8 0, .int .u8 0] 23)
      have hIk := Ik.lit wz
      have h17 := hR7.lt hJ
      go_upto_region 9 with (((with_reducible refine wpList_store_ip (op := ⟨none, _, _, _, _, _⟩) ?_ (.tmp 19) (.tmp 56) ?_ ?_ (l := J) ?_ hIk (length_zeros 16) hJ wz.heap.size wz (by exact hxz) (Nat.le_refl _) ?_); (· exact rfl); (· exact rfl); (· exact rfl); (· exact rfl); intro w9 hR9 hb9))
      have hR9 := hR9.out
      have hR7 := hR7.below hb9 h17
      have hB9 := hBz.trans (hb9.mono hBz.size)
      clear hxz hIk hbz hb9 j2
      generalize wz.heap.size = b19 at *
      go_wp2_with (first | ((with_reducible refine wpList_load_ry (op := ⟨some 58, _, _, _, _, _⟩) ?_ (.tmp 17) ?_ ?_ hR7 hJ ?_); (· exact rfl); (· exact rfl); (· exact rfl)) | ((with_reducible refine wpList_load_ry (op := ⟨some 59, _, _, _, _, _⟩) ?_ (.tmp 19) ?_ ?_ hR9 hJ ?_); (· exact rfl); (· exact rfl); (· exact rfl)))
      go_roundw
      case rel => exact ⟨Or.inr (Or.inl (by go_num)), hB9⟩
      case measure => simp [intOf]
    · have hr0 := hB0.out
      have hrg : wr.rangeAt bl 17 (pl l2 n2) := fun j v hj => by rw [hBr.cell (p := ⟨bl, 17 + j, none⟩) hblt]; exact hr0 j v hj
      have j1 := fun w => join_any l2 hl2 n2 hn2 iid hiN w
      have j2 := fun w => rjoin_any l2 hl2 n2 hn2 iid hiN w
      have hJ := length_joinL l2 n2 iid
      generalize joinL l2 n2 iid = J at *
      generalize joinOk l2 n2 = ok at *
      have qn := fun w => ip_neq J J hJ hJ w
      have qg := fun op x y w => ip_guarded op x y J J w
      have hjj : (J == J) = true := by simp
      rw [hjj] at qn
      clear hjj
      go_wp2_with ((with_reducible refine wpList_load_pfx_at (op := ⟨some 44, _, _, _, _, _⟩) ?_ (.tmp 43) ?_ bl 17 ?_ hrg hl2 ?_); (· exact rfl); (· exact rfl); (· exact rfl))
      with_reducible refine (j1 _).mono ?_
      rintro e wz ⟨rfl, hbz⟩
      have hBz := hBr.trans (hbz.mono hBr.size)
      have hxz := (Below.refl wz.heap.size wz).alloc (Nat.le_refl _) (.cells #[.int .u8 0, .int .u8 0, .int .u8 0, .int .u8 0, .int .u8 0, .int .u8 0, .int .u8 0, .int .u8 0, .int .u8 0, .int .u8 0, .int .u8 0, .int .u8 0, .int .u8 0, .int .u8 0, .int .u8 0, .int .u8 0] 23)
      have hIk := Ik.lit wz
      go_upto_region 8 with (((with_reducible refine wpList_store_ip (op := ⟨none, _, _, _, _, _⟩) ?_ (.tmp 17) (.tmp 47) ?_ ?_ (l := J) ?_ hIk (length_zeros 16) hJ wz.heap.size wz (by exact hxz) (Nat.le_refl _) ?_); (· exact rfl); (· exact rfl); (· exact rfl); (· exact rfl); intro w7 hR7 hb7))
      have hR7 := hR7.out
      have hB7 := hBz.trans (hb7.mono hBz.size)
      have hrg : w7.rangeAt bl 17 (pl l2 n2) := fun j v hj => by rw [hB7.cell (p := ⟨bl, 17 + j, none⟩) hblt]; exact hr0 j v hj
      have h17 := hR7.lt hJ
      clear hxz hIk hbz hb7 j1
      generalize wz.heap.size = b17 at *
      go_wp2_with ((with_reducible refine wpList_load_pfx_at (op := ⟨some 53, _, _, _, _, _⟩) ?_ (.tmp 52) ?_ bl 17 ?_ hrg hl2 ?_); (· exact rfl); (· exact rfl); (· exact rfl))
      with_reducible refine (j2 _).mono ?_
      rintro e wz ⟨rfl, hbz⟩
      have hR7 := hR7.below hbz h17
      have hBz := hB7.trans (hbz.mono hB7.size)
      have hxz := (Below.refl wz.heap.size wz).alloc (Nat.le_refl _) (.cells #[.int .u8 0, .int .u8 0, .int .u8 0, .int .u8 0, .int .u8 0, .int .u8 0, .int .u8 0, .int .u8 0, .int .u8 0, .int .u8 0, .int .u8 0, .int .u8 0, .int .u8 0, .int .u8 0, .int .u8 0, .int .u8 0] 23)
      have hIk := Ik.lit wz
      have h17 := hR7.lt hJ
      go_upto_region 9 with (((with_reducible refine wpList_store_ip (op := ⟨none, _, _, _, _, _⟩) ?_ (.tmp 19) (.tmp 56) ?_ ?_ (l := J) ?_ hIk (length_zeros 16) hJ wz.heap.size wz (by exact hxz) (Nat.le_refl _) ?_); (· exact rfl); (· exact rfl); (· exact rfl); (· exact rfl); intro w9 hR9 hb9))
      have hR9 := hR9.out
      have hR7 := hR7.below hb9 h17
      have hB9 := hBz.trans (hb9.mono hBz.size)
      clear hxz hIk hbz hb9 j2
      generalize wz.heap.size = b19 at *
      go_wp2_with (first | ((with_reducible refine wpList_load_ry (op := ⟨some 58, _, _, _, _, _⟩) ?_ (.tmp 17) ?_ ?_ hR7 hJ ?_); (· exact rfl); (· exact rfl); (· exact rfl)) | ((with_reducible refine wpList_load_ry (op := ⟨some 59, _, _, _, _, _⟩) ?_ (.tmp 19) ?_ ?_ hR9 hJ ?_); (· exact rfl); (· exact rfl); (· exact rfl)))
      go_roundw
      case rel => exact ⟨Or.inr (Or.inr (by go_num)), hB9⟩
      case measure => simp [intOf]
    · have hBw := hBw7.trans (hBr.mono hBw7.size)
      have hA := hRa7.below hBr (hRa7.lt ha)
      have hBq := hRb7.below hBr (hRb7.lt hbl)
      have GW := G7.on hBr
      have c1 := fun w => common_any a b ha hbl w
      have c2 := fun w => rcommon_any a b ha hbl w
      have m1 := fun w => multi_any a ha w
      have m2 := fun w => rmulti_any a ha w
      have s1 := fun w => solic_any a ha w
      have s2 := fun w => rsolic_any a ha w
      have hS := length_solV a ha
      generalize solV a = SV at *
      generalize comV a b = cv at *
      generalize mcV a = mv at *
      go_wp2_with fail
      refine wp_region_held_drew (S := fun w' => Below wr.heap.size wr w') (by kernel_rfl) (below_drewN (Below.refl _ _) 1) (fun hHeld => ?_)
      refine wpAnyH_ready (rs := [0]) (by kernel_rfl) (by simp) ?_
      refine AllReadyH.cons (o := ⟨some 66, _, _, _, _, _⟩) rfl (fun K hK => ?_) AllReadyH.nil
      go_simp
      with_reducible refine (known_any _ (GW.on hHeld)).mono ?_
      rintro e u0 ⟨rfl, hb0⟩
      have hq0 := hHeld.trans (hb0.mono hHeld.size)
      go_wp2_with fail
      clear hHeld
      refine hK.out _ _ (hq0) (fun hHeld => ?_)
      clear hK K
      try simp only [Act.put, List.setIfInBounds_toArray, List.set_cons_zero, List.set_cons_succ]
      refine wpAnyH_take (i := 1) (oi := ⟨some 67, _, _, _, _, _⟩) (v := ?_) rfl (by kernel_rfl) (by kernel_rfl) (by kernel_rfl) (fun _ _ _ h => h) (Or.inl ⟨by rfl, ?_⟩) hHeld ?_
      rotate_left
      · intro w hSw; go_simp; first | with_reducible rfl | (simp [ip_guarded, ip_eql _ _ hS hS]; try exact rfl)
      try simp only [Act.put, List.setIfInBounds_toArray, List.set_cons_zero, List.set_cons_succ]
      refine wpAnyH_take (i := 2) (oi := ⟨some 68, _, _, _, _, _⟩) (v := ?_) rfl (by kernel_rfl) (by kernel_rfl) (by kernel_rfl) (fun _ _ _ h => h) (Or.inl ⟨by rfl, ?_⟩) hHeld ?_
      rotate_left
      · intro w hSw; go_simp; first | with_reducible rfl | (simp [ip_guarded, ip_eql _ _ hS hS]; try exact rfl)
      try simp only [Act.put, List.setIfInBounds_toArray, List.set_cons_zero, List.set_cons_succ]
      refine wpAnyH_take (i := 3) (oi := ⟨some 69, _, _, _, _, _⟩) (v := ?_) rfl (by kernel_rfl) (by kernel_rfl) (by kernel_rfl) (fun _ _ _ h => h) (Or.inl ⟨by rfl, ?_⟩) hHeld ?_
      rotate_left
      · intro w hSw; go_simp; first | with_reducible rfl | (simp [ip_guarded, ip_eql _ _ hS hS]; try exact rfl)
      try simp only [Act.put, List.setIfInBounds_toArray, List.set_cons_zero, List.set_cons_succ]
      refine wpAnyH_take (i := 4) (oi := ⟨some 70, _, _, _, _, _⟩) (v := ?_) rfl (by kernel_rfl) (by kernel_rfl) (by kernel_rfl) (fun _ _ _ h => h) (Or.inl ⟨by rfl, ?_⟩) hHeld ?_
      rotate_left
      · intro w hSw; go_simp; first | with_reducible rfl | (simp [ip_guarded, ip_eql _ _ hS hS]; try exact rfl)
      try simp only [Act.put, List.setIfInBounds_toArray, List.set_cons_zero, List.set_cons_succ]
      refine wpAnyH_take (i := 5) (oi := ⟨some 71, _, _, _, _, _⟩) (v := ?_) rfl (by kernel_rfl) (by kernel_rfl) (by kernel_rfl) (fun _ _ _ h => h) (Or.inl ⟨by rfl, ?_⟩) hHeld ?_
      rotate_left
      · intro w hSw; go_simp; first | with_reducible rfl | (simp [ip_guarded, ip_eql _ _ hS hS]; try exact rfl)
      try simp only [Act.put, List.setIfInBounds_toArray, List.set_cons_zero, List.set_cons_succ]
      refine wpAnyH_take (i := 6) (oi := ⟨some 72, _, _, _, _, _⟩) (v := ?_) rfl (by kernel_rfl) (by kernel_rfl) (by kernel_rfl) (fun _ _ _ h => h) (Or.inl ⟨by rfl, ?_⟩) hHeld ?_
      rotate_left
      · intro w hSw; go_simp; first | with_reducible rfl | (simp [ip_guarded, ip_eql _ _ hS hS]; try exact rfl)
      try simp only [Act.put, List.setIfInBounds_toArray, List.set_cons_zero, List.set_cons_succ]
      refine wpAnyH_take (i := 7) (oi := ⟨some 73, _, _, _, _, _⟩) (v := ?_) rfl (by kernel_rfl) (by kernel_rfl) (by kernel_rfl) (fun _ _ _ h => h) (Or.inl ⟨by rfl, ?_⟩) hHeld ?_
      rotate_left
      · intro w hSw; go_simp; first | with_reducible rfl | (simp [ip_guarded, ip_eql _ _ hS hS]; try exact rfl)
      try simp only [Act.put, List.setIfInBounds_toArray, List.set_cons_zero, List.set_cons_succ]
      refine wpAnyH_take (i := 8) (oi := ⟨some 74, _, _, _, _, _⟩) (v := ?_) rfl (by kernel_rfl) (by kernel_rfl) (by kernel_rfl) (fun _ _ _ h => h) (Or.inl ⟨by rfl, ?_⟩) hHeld ?_
      rotate_left
      · intro w hSw; go_simp; first | with_reducible rfl | (simp [ip_guarded, ip_eql _ _ hS hS]; try exact rfl)
      try simp only [Act.put, List.setIfInBounds_toArray, List.set_cons_zero, List.set_cons_succ]
      refine wpAnyH_take (i := 9) (oi := ⟨some 75, _, _, _, _, _⟩) (v := ?_) rfl (by kernel_rfl) (by kernel_rfl) (by kernel_rfl) (fun _ _ _ h => h) (Or.inl ⟨by rfl, ?_⟩) hHeld ?_
      rotate_left
      · intro w hSw; go_simp; first | with_reducible rfl | (simp [ip_guarded, ip_eql _ _ hS hS]; try exact rfl)
      try simp only [Act.put, List.setIfInBounds_toArray, List.set_cons_zero, List.set_cons_succ]
      refine wpAnyH_take (i := 10) (oi := ⟨some 76, _, _, _, _, _⟩) (v := ?_) rfl (by kernel_rfl) (by kernel_rfl) (by kernel_rfl) (fun _ _ _ h => h) (Or.inl ⟨by rfl, ?_⟩) hHeld ?_
      rotate_left
      · intro w hSw; go_simp; first | with_reducible rfl | (simp [ip_guarded, ip_eql _ _ hS hS]; try exact rfl)
      try simp only [Act.put, List.setIfInBounds_toArray, List.set_cons_zero, List.set_cons_succ]
      refine wpAnyH_take (i := 11) (oi := ⟨some 77, _, _, _, _, _⟩) (v := ?_) rfl (by kernel_rfl) (by kernel_rfl) (by kernel_rfl) (fun _ _ _ h => h) (Or.inl ⟨by rfl, ?_⟩) hHeld ?_
      rotate_left
      · intro w hSw; go_simp; first | with_reducible rfl | (simp [ip_guarded, ip_eql _ _ hS hS]; try exact rfl)
      try simp only [Act.put, List.setIfInBounds_toArray, List.set_cons_zero, List.set_cons_succ]
      refine wpAnyH_ip (g := w.heap.size) (l := a) (i := 12) (oi := ⟨some 78, _, _, _, _, _⟩) rfl (by kernel_rfl) (by kernel_rfl) (by kernel_rfl) (fun _ _ _ h => h) (by rfl) (.tmp 5) rfl rfl ha (fun _ h => hA.below h (hA.lt ha)) hHeld ?_
      try simp only [Act.put, List.setIfInBounds_toArray, List.set_cons_zero, List.set_cons_succ]
      refine wpAnyH_ip (g := w.heap.size + 1) (l := b) (i := 13) (oi := ⟨some 79, _, _, _, _, _⟩) rfl (by kernel_rfl) (by kernel_rfl) (by kernel_rfl) (fun _ _ _ h => h) (by rfl) (.tmp 6) rfl rfl hbl (fun _ h => hBq.below h (hBq.lt hbl)) hHeld ?_
      try simp only [Act.put, List.setIfInBounds_toArray, List.set_cons_zero, List.set_cons_succ]
      refine wpAnyH_ip (g := w.heap.size) (l := a) (i := 15) (oi := ⟨some 81, _, _, _, _, _⟩) rfl (by kernel_rfl) (by kernel_rfl) (by kernel_rfl) (fun _ _ _ h => h) (by rfl) (.tmp 5) rfl rfl ha (fun _ h => hA.below h (hA.lt ha)) hHeld ?_
      try simp only [Act.put, List.setIfInBounds_toArray, List.set_cons_zero, List.set_cons_succ]
      refine wpAnyH_ip (g := w.heap.size + 1) (l := b) (i := 16) (oi := ⟨some 82, _, _, _, _, _⟩) rfl (by kernel_rfl) (by kernel_rfl) (by kernel_rfl) (fun _ _ _ h => h) (by rfl) (.tmp 6) rfl rfl hbl (fun _ h => hBq.below h (hBq.lt hbl)) hHeld ?_
      try simp only [Act.put, List.setIfInBounds_toArray, List.set_cons_zero, List.set_cons_succ]
      refine wpAnyH_ready (rs := [14]) (by kernel_rfl) (by simp) ?_
      refine AllReadyH.cons (o := ⟨some 80, _, _, _, _, _⟩) rfl (fun K hK => ?_) AllReadyH.nil
      go_simp
      with_reducible refine (c1 _).mono ?_
      rintro e u14 ⟨rfl, hb14⟩
      have hq14 := hHeld.trans (hb14.mono hHeld.size)
      go_wp2_with fail
      clear hHeld
      refine hK.out _ _ (hq14) (fun hHeld => ?_)
      clear hK K
      try simp only [Act.put, List.setIfInBounds_toArray, List.set_cons_zero, List.set_cons_succ]
      refine wpAnyH_ready (rs := [17]) (by kernel_rfl) (by simp) ?_
      refine AllReadyH.cons (o := ⟨some 83, _, _, _, _, _⟩) rfl (fun K hK => ?_) AllReadyH.nil
      go_simp
      with_reducible refine (c2 _).mono ?_
      rintro e u17 ⟨rfl, hb17⟩
      have hq17 := hHeld.trans (hb17.mono hHeld.size)
      go_wp2_with fail
      clear hHeld
      refine hK.out _ _ (hq17) (fun hHeld => ?_)
      clear hK K
      try simp only [Act.put, List.setIfInBounds_toArray, List.set_cons_zero, List.set_cons_succ]
      refine wpAnyH_take (i := 18) (oi := ⟨some 84, _, _, _, _, _⟩) (v := ?_) rfl (by kernel_rfl) (by kernel_rfl) (by kernel_rfl) (fun _ _ _ h => h) (Or.inl ⟨by rfl, ?_⟩) hHeld ?_
      rotate_left
      · intro w hSw; go_simp; first | with_reducible rfl | (simp [ip_guarded, ip_eql _ _ hS hS]; try exact rfl)
      try simp only [Act.put, List.setIfInBounds_toArray, List.set_cons_zero, List.set_cons_succ]
      refine wpAnyH_take (i := 19) (oi := ⟨some 85, _, _, _, _, _⟩) (v := ?_) rfl (by kernel_rfl) (by kernel_rfl) (by kernel_rfl) (fun _ _ _ h => h) (Or.inl ⟨by rfl, ?_⟩) hHeld ?_
      rotate_left
      · intro w hSw; go_simp; first | with_reducible rfl | (simp [ip_guarded, ip_eql _ _ hS hS]; try exact rfl)
      try simp only [Act.put, List.setIfInBounds_toArray, List.set_cons_zero, List.set_cons_succ]
      refine wpAnyH_take (i := 20) (oi := ⟨some 86, _, _, _, _, _⟩) (v := ?_) rfl (by kernel_rfl) (by kernel_rfl) (by kernel_rfl) (fun _ _ _ h => h) (Or.inl ⟨by rfl, ?_⟩) hHeld ?_
      rotate_left
      · intro w hSw; go_simp; first | with_reducible rfl | (simp [ip_guarded, ip_eql _ _ hS hS]; try exact rfl)
      try simp only [Act.put, List.setIfInBounds_toArray, List.set_cons_zero, List.set_cons_succ]
      refine wpAnyH_ip (g := w.heap.size) (l := a) (i := 21) (oi := ⟨some 87, _, _, _, _, _⟩) rfl (by kernel_rfl) (by kernel_rfl) (by kernel_rfl) (fun _ _ _ h => h) (by rfl) (.tmp 5) rfl rfl ha (fun _ h => hA.below h (hA.lt ha)) hHeld ?_
      try simp only [Act.put, List.setIfInBounds_toArray, List.set_cons_zero, List.set_cons_succ]
      refine wpAnyH_ip (g := w.heap.size) (l := a) (i := 23) (oi := ⟨some 89, _, _, _, _, _⟩) rfl (by kernel_rfl) (by kernel_rfl) (by kernel_rfl) (fun _ _ _ h => h) (by rfl) (.tmp 5) rfl rfl ha (fun _ h => hA.below h (hA.lt ha)) hHeld ?_
      try simp only [Act.put, List.setIfInBounds_toArray, List.set_cons_zero, List.set_cons_succ]
      refine wpAnyH_ready (rs := [22]) (by kernel_rfl) (by simp) ?_
      refine AllReadyH.cons (o := ⟨some 88, _, _, _, _, _⟩) rfl (fun K hK => ?_) AllReadyH.nil
      go_simp
      with_reducible refine (m1 _).mono ?_
      rintro e u22 ⟨rfl, hb22⟩
      have hq22 := hHeld.trans (hb22.mono hHeld.size)
      go_wp2_with fail
      clear hHeld
      refine hK.out _ _ (hq22) (fun hHeld => ?_)
      clear hK K
      try simp only [Act.put, List.setIfInBounds_toArray, List.set_cons_zero, List.set_cons_succ]
      refine wpAnyH_ready (rs := [24]) (by kernel_rfl) (by simp) ?_
      refine AllReadyH.cons (o := ⟨some 90, _, _, _, _, _⟩) rfl (fun K hK => ?_) AllReadyH.nil
      go_simp
      with_reducible refine (m2 _).mono ?_
      rintro e u24 ⟨rfl, hb24⟩
      have hq24 := hHeld.trans (hb24.mono hHeld.size)
      go_wp2_with fail
      clear hHeld
      refine hK.out _ _ (hq24) (fun hHeld => ?_)
      clear hK K
      try simp only [Act.put, List.setIfInBounds_toArray, List.set_cons_zero, List.set_cons_succ]
      refine wpAnyH_take (i := 25) (oi := ⟨some 91, _, _, _, _, _⟩) (v := ?_) rfl (by kernel_rfl) (by kernel_rfl) (by kernel_rfl) (fun _ _ _ h => h) (Or.inl ⟨by rfl, ?_⟩) hHeld ?_
      rotate_left
      · intro w hSw; go_simp; first | with_reducible rfl | (simp [ip_guarded, ip_eql _ _ hS hS]; try exact rfl)
      try simp only [Act.put, List.setIfInBounds_toArray, List.set_cons_zero, List.set_cons_succ]
      refine wpAnyH_take (i := 26) (oi := ⟨some 92, _, _, _, _, _⟩) (v := ?_) rfl (by kernel_rfl) (by kernel_rfl) (by kernel_rfl) (fun _ _ _ h => h) (Or.inl ⟨by rfl, ?_⟩) hHeld ?_
      rotate_left
      · intro w hSw; go_simp; first | with_reducible rfl | (simp [ip_guarded, ip_eql _ _ hS hS]; try exact rfl)
      try simp only [Act.put, List.setIfInBounds_toArray, List.set_cons_zero, List.set_cons_succ]
      refine wpAnyH_take (i := 27) (oi := ⟨some 93, _, _, _, _, _⟩) (v := ?_) rfl (by kernel_rfl) (by kernel_rfl) (by kernel_rfl) (fun _ _ _ h => h) (Or.inl ⟨by rfl, ?_⟩) hHeld ?_
      rotate_left
      · intro w hSw; go_simp; first | with_reducible rfl | (simp [ip_guarded, ip_eql _ _ hS hS]; try exact rfl)
      try simp only [Act.put, List.setIfInBounds_toArray, List.set_cons_zero, List.set_cons_succ]
      refine wpAnyH_ip (g := w.heap.size) (l := a) (i := 28) (oi := ⟨some 94, _, _, _, _, _⟩) rfl (by kernel_rfl) (by kernel_rfl) (by kernel_rfl) (fun _ _ _ h => h) (by rfl) (.tmp 5) rfl rfl ha (fun _ h => hA.below h (hA.lt ha)) hHeld ?_
      try simp only [Act.put, List.setIfInBounds_toArray, List.set_cons_zero, List.set_cons_succ]
      refine wpAnyH_ip (g := w.heap.size) (l := a) (i := 30) (oi := ⟨some 96, _, _, _, _, _⟩) rfl (by kernel_rfl) (by kernel_rfl) (by kernel_rfl) (fun _ _ _ h => h) (by rfl) (.tmp 5) rfl rfl ha (fun _ h => hA.below h (hA.lt ha)) hHeld ?_
      try simp only [Act.put, List.setIfInBounds_toArray, List.set_cons_zero, List.set_cons_succ]
      refine wpAnyH_ready (rs := [29]) (by kernel_rfl) (by simp) ?_
      refine AllReadyH.cons (o := ⟨some 95, _, _, _, _, _⟩) rfl (fun K hK => ?_) AllReadyH.nil
      go_simp
      with_reducible refine (s1 _).mono ?_
      rintro e u29 ⟨rfl, hb29⟩
      have hq29 := hHeld.trans (hb29.mono hHeld.size)
      go_wp2_with fail
      clear hHeld
      refine hK.out _ _ (hq29) (fun hHeld => ?_)
      clear hK K
      try simp only [Act.put, List.setIfInBounds_toArray, List.set_cons_zero, List.set_cons_succ]
      refine wpAnyH_ready (rs := [31]) (by kernel_rfl) (by simp) ?_
      refine AllReadyH.cons (o := ⟨some 97, _, _, _, _, _⟩) rfl (fun K hK => ?_) AllReadyH.nil
      go_simp
      with_reducible refine (s2 _).mono ?_
      rintro e u31 ⟨rfl, hb31⟩
      have hq31 := hHeld.trans (hb31.mono hHeld.size)
      go_wp2_with fail
      clear hHeld
      refine hK.out _ _ (hq31) (fun hHeld => ?_)
      clear hK K
      try simp only [Act.put, List.setIfInBounds_toArray, List.set_cons_zero, List.set_cons_succ]
      refine wpAnyH_take (i := 32) (oi := ⟨some 98, _, _, _, _, _⟩) (v := ?_) rfl (by kernel_rfl) (by kernel_rfl) (by kernel_rfl) (fun _ _ _ h => h) (Or.inl ⟨by rfl, ?_⟩) hHeld ?_
      rotate_left
      · intro w hSw; go_simp; first | with_reducible rfl | (simp [ip_guarded, ip_eql _ _ hS hS]; try exact rfl)
      try simp only [Act.put, List.setIfInBounds_toArray, List.set_cons_zero, List.set_cons_succ]
      refine wpAnyH_take (i := 33) (oi := ⟨some 99, _, _, _, _, _⟩) (v := ?_) rfl (by kernel_rfl) (by kernel_rfl) (by kernel_rfl) (fun _ _ _ h => h) (Or.inl ⟨by rfl, ?_⟩) hHeld ?_
      rotate_left
      · intro w hSw; go_simp; first | with_reducible rfl | (simp [ip_guarded, ip_eql _ _ hS hS]; try exact rfl)
      try simp only [Act.put, List.setIfInBounds_toArray, List.set_cons_zero, List.set_cons_succ]
      refine wpAnyH_take (i := 34) (oi := ⟨some 10, _, _, _, _, _⟩) (v := ?_) rfl (by kernel_rfl) (by kernel_rfl) (by kernel_rfl) (fun _ _ _ h => h) (Or.inl ⟨by rfl, ?_⟩) hHeld ?_
      rotate_left
      · intro w hSw; go_simp; first | with_reducible rfl | (simp [ip_guarded, ip_eql _ _ hS hS]; try exact rfl)
      try simp only [Act.put, List.setIfInBounds_toArray, List.set_cons_zero, List.set_cons_succ]
      refine wpAnyH_done (by kernel_rfl) ?_ _
      go_wp2_with fail
      go_ret
      exact ⟨rfl, hBw.trans (hHeld.mono hBw.size)⟩
end Go.Proofs.YthammgljcchloaaDoor
