/-
  Join, IsMulticast.
-/
import Derived.Test.YthammgljcchloaaDoorContains
import Derived.Test.YthammgljcchloaaDoorRefHalf
namespace Go.Proofs.YthammgljcchloaaDoor
open Go.RowKit
set_option linter.unusedSimpArgs false
set_option linter.unusedVariables false

set_option maxHeartbeats 1600000 in
set_option maxRecDepth 100000 in
theorem multi_any (l : List UInt8) (hz : l.length = 16) (w : World) :
    Calls Tryd.prog 34 #[iv l] w (RetS (.bool (mcV l)) w) := by
  have hI := Ik.new w l
  have hB := (Below.refl w.heap.size w).alloc (Nat.le_refl _) (.cells (row l) 23)
  have z1 := hI.cell 0 (by omega)
  rw [iv]
  go_enter Tryd.func34, Tryd.ntmps34
  go_wp2_with fail
  all_goals go_ret
  all_goals refine ⟨ret_bool ?_, hB⟩
  all_goals simp [mcV, List.getD_eq_getElem?_getD, hz]

def joinOk (l : List UInt8) (n : Int) : Bool := conP l n l && decide (n ≤ 64)
def joinL (l : List UInt8) (n : Int) (iid : Nat) : List UInt8 := if joinOk l n = true then beBytes (hiOf l) 8 ++ beBytes iid 8 else zeros 16
theorem length_joinL (l : List UInt8) (n : Int) (iid : Nat) : (joinL l n iid).length = 16 := by
  unfold joinL; split
  · rw [List.length_append, length_beBytes, length_beBytes]
  · exact length_zeros 16

set_option maxHeartbeats 3200000 in
set_option maxRecDepth 100000 in
theorem join_any (l : List UInt8) (hl : l.length = 16) (n : Int) (hn : I64 n) (iid : Nat) (hi : iid < 18446744073709551616) (w : World) :
    Calls Tryd.prog 30 #[pv l n, .int .u64 iid] w (RetS (.tuple #[iv (joinL l n iid), .bool (joinOk l n)]) w) := by
  have hP := (Pk.new w l n).pr.below ((Below.refl (w.heap.size + 1) _).alloc (by simp) (.cells #[.int .u8 0, .int .u8 0, .int .u8 0, .int .u8 0, .int .u8 0, .int .u8 0, .int .u8 0, .int .u8 0, .int .u8 0, .int .u8 0, .int .u8 0, .int .u8 0, .int .u8 0, .int .u8 0, .int .u8 0, .int .u8 0] 23)) (Nat.lt_succ_self _)
  have hI := Ik.lit (w.alloc (.cells (pl l n).toArray 35))
  rw [World.size_alloc] at hI
  have hB := two_below w (.cells (pl l n).toArray 35) (.cells #[.int .u8 0, .int .u8 0, .int .u8 0, .int .u8 0, .int .u8 0, .int .u8 0, .int .u8 0, .int .u8 0, .int .u8 0, .int .u8 0, .int .u8 0, .int .u8 0, .int .u8 0, .int .u8 0, .int .u8 0, .int .u8 0] 23)
  have hv := fun w => validp_any l hl n hn w
  have hs := fun w => split_any l hl w
  have hhi : hiOf l < 18446744073709551616 := uint8_lt _ (by simp; omega)
  have hd1 : joinOk l n = (conP l n l && decide (n ≤ 64)) := rfl
  have hd2 : joinL l n iid = if joinOk l n = true then beBytes (hiOf l) 8 ++ beBytes iid 8 else zeros 16 := rfl
  have hl16 : (beBytes (hiOf l) 8 ++ beBytes iid 8).length = 16 := by rw [List.length_append, length_beBytes, length_beBytes]
  generalize conP l n l = b at hv hd1
  generalize hiOf l = H at *
  have H1 := hid hd1
  have H2 := hid hd2
  clear hd1 hd2
  rw [show pv l n = .agg (pl l n).toArray from rfl]
  go_enter Tryd.func30, Tryd.ntmps30
  go_wp2_with (with_reducible refine wpList_load_pfx (op := ⟨some 8, _, _, _, _, _⟩) rfl (.tmp 2) rfl rfl hP hl ?_)
  generalize (w.alloc _).alloc _ = w2 at hP hI hB ⊢
  with_reducible refine (hv _).mono ?_
  rintro e3 w3 ⟨rfl, hb3⟩
  have hP3 := hP.below hb3 (hP.lt hl)
  have hI3 := hI.below hb3 hI.lt
  have hB3 := hB.trans (hb3.mono hB.size)
  have z1 := hP3.bits hl
  clear hP hI hB hb3 hv
  have no : joinOk l n = false → joinL l n iid = zeros 16 := fun h => by rw [H2.out, h]; rfl
  have yes : joinOk l n = true → joinL l n iid = beBytes H 8 ++ beBytes iid 8 := fun h => by rw [H2.out, if_pos h]
  have no := hid no
  have yes := hid yes
  by_cases hq : b = true ∧ n ≤ 64
  · obtain ⟨rfl, h64⟩ := hq
    have hj : joinOk l n = true := by rw [H1.out]; simp [h64]
    have hj := hid hj
    go_wp2_with (with_reducible refine wpList_load_ry (op := ⟨some 19, _, _, _, _, _⟩) rfl (.tmp 18) rfl rfl hP3.ry hl ?_)
    with_reducible refine (hs _).mono ?_
    rintro e4 w4 ⟨rfl, hb4⟩
    have hI4 := hI3.below hb4 hI3.lt
    have hB4 := hB3.trans (hb4.mono hB3.size)
    go_wp2_with fail
    with_reducible refine (whole_any H iid hhi hi _).mono ?_
    rintro e5 w5 ⟨rfl, hb5⟩
    have hI5 := hI4.below hb5 hI4.lt
    have hB5 := hB4.trans (hb5.mono hB4.size)
    go_wp2_with (with_reducible refine wpList_store_ip (op := ⟨none, _, _, _, _, _⟩) rfl (.tmp 4) (.tmp 25) rfl rfl rfl hI5 (length_zeros 16) hl16 w.heap.size w hB5 (by omega) ?_; intro w7 hR7 hB7)
    exact bodyPost_ret (results_ip2 rfl rfl hR7.out hl16) rfl ⟨by rw [yes.out hj.out, hj.out]; rfl, hB7⟩
  · have hj : joinOk l n = false := by rw [H1.out]; cases b <;> simp at hq ⊢; omega
    have hj := hid hj
    cases b
    · go_wp2_with (with_reducible refine wpList_store_ip0 (op := ⟨none, _, _, _, _, _⟩) rfl (.tmp 4) (.tmp 16) rfl rfl rfl hI3 (length_zeros 16) w.heap.size w hB3 (by omega) ?_; intro w7 hR7 hB7)
      exact bodyPost_ret (results_ip2 rfl rfl hR7.out (length_zeros 16)) rfl ⟨by rw [no.out hj.out, hj.out]; rfl, hB7⟩
    · have h64 : ¬ n ≤ 64 := fun h => hq ⟨rfl, h⟩
      go_wp2_with (with_reducible refine wpList_store_ip0 (op := ⟨none, _, _, _, _, _⟩) rfl (.tmp 4) (.tmp 16) rfl rfl rfl hI3 (length_zeros 16) w.heap.size w hB3 (by omega) ?_; intro w7 hR7 hB7)
      exact bodyPost_ret (results_ip2 rfl rfl hR7.out (length_zeros 16)) rfl ⟨by rw [no.out hj.out, hj.out]; rfl, hB7⟩
end Go.Proofs.YthammgljcchloaaDoor
