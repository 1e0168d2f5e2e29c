/-
  lowBytes, Tag, Verify; the reference's Tag, Verify.
-/
import Derived.Test.YtjlogmbgapnceaaRefSip
import Derived.Test.YtjlogmbgapnceaaSame
import Derived.Test.YtjlogmbgapnceaaGrowMore
import Derived.Laws.BytesArg
import Derived.Laws.IdiomStrings
namespace Go.Proofs.Ytjlogmbgapnceaa
open Go.RowKit

def leByte (v : UInt64) (i : Nat) : UInt8 := UInt8.ofNat (v.toNat / 2 ^ (8 * i))
/-- the n least significant bytes of v, the least significant one first -/
def leB (v : UInt64) (n : Nat) : List UInt8 := (List.range n).map (leByte v)
theorem length_leB (v : UInt64) (n : Nat) : (leB v n).length = n := by simp [leB]
theorem leB_succ (v : UInt64) (n : Nat) : leB v (n + 1) = leB v n ++ [leByte v n] := by simp [leB, List.range_succ]
theorem leB_take (v : UInt64) (n k : Nat) (h : k ≤ n) : (leB v n).take k = leB v k := by
  simp only [leB, ← List.map_take, List.take_range, Nat.min_eq_left h]
theorem leB_getD (v : UInt64) (n k : Nat) (h : k < n) : (leB v n).getD k 0 = leByte v k := by
  simp [leB, List.getD_eq_getElem?_getD, h]

theorem le_value (v : UInt64) (i : Nat) : Value.int .u8 ((v.toNat : Int) / 2 ^ (8 * i) % 256) = bv (leByte v i) := by
  simp only [bv, leByte, UInt8.toNat_ofNat']
  congr 1

set_option maxHeartbeats 1000000 in
theorem lowBytes_any (v : UInt64) (n : Nat) (w : World) (hn : n ≤ 8) :
    Calls Try.prog 27 #[.int .u64 (v.toNat : Int), .int .i64 n] w (RetB (leB v n) w) := by
  have hmk := fun u => run_make_bytes (n : Int) n rfl (by omega) u
  go_enter Try.func27, Try.ntmps27
  go_wp2
  have HO : Own (w.alloc (.cells (row (zeros n)) 5)) w.heap.size (zeros n) := Own.new _ _
  have hB : Below w.heap.size w (w.alloc (.cells (row (zeros n)) 5)) := (Below.refl _ _).alloc (Nat.le_refl _) _
  generalize w.alloc (.cells (row (zeros n)) 5) = w1 at *
  clear hmk
  go_loopw [10] (fun i wr => ∃ k : Nat, k ≤ n ∧ i = .int .i64 k ∧ Own wr w.heap.size ((leB v n).take k ++ zeros (n - k)) ∧ Below w.heap.size w wr) (fun i _ => n - (intOf i).toNat)
  case atStart => exact ⟨0, Nat.zero_le _, rfl, by simpa using HO, hB⟩
  case round =>
    obtain ⟨k, hk, rfl, hO, hBr⟩ := hrel
    clear HO hB
    by_cases hlt : k < n
    · have hcell := hO.cell k (by simp [length_zeros, length_leB]; omega)
      have hfr := hO.frozen k
      have HOw := hid hO
      clear hO
      go_wp2
      go_roundw
      case rel =>
        refine ⟨k + 1, by omega, by go_num, ?_, hBr.setCell (Nat.le_refl _) _⟩
        have h2 := HOw.out.set k _ _ (le_value v k)
        rw [← leB_getD v n k hlt] at h2
        have h3 := set_fill [] (leB v n) n k (length_leB v n) hlt
        simp only [List.nil_append, List.length_nil, Nat.zero_add] at h3
        rw [h3] at h2
        exact h2
      case measure => simp [intOf]; omega
    · obtain rfl : k = n := by omega
      go_wp2
      go_ret
      refine ⟨w.heap.size, ?_, Nat.le_refl _, ?_, hBr⟩
      · simp [length_leB]
      · have := hO
        rw [List.take_of_length_le (by rw [length_leB]; omega), Nat.sub_self] at this
        simpa [zeros] using this

/-- what Tag returns -/
def TagR (k l : List UInt8) (n : Int) (w : World) (e : Ending) (w' : World) : Prop :=
  ((1 ≤ n ∧ n ≤ 8) ∧ ∃ g, e = .returned (.tuple #[.slice (some ⟨g, 0, none⟩) n.toNat n.toNat, .bool true]) ∧ w.heap.size ≤ g ∧ Own w' g (leB (sip k l) n.toNat) ∧ Below w.heap.size w w') ∨
  (¬ (1 ≤ n ∧ n ≤ 8) ∧ e = .returned (.tuple #[.slice none 0 0, .bool false]) ∧ Below w.heap.size w w')

set_option maxHeartbeats 1000000 in
theorem tag_any (k : List UInt8) (a : Option Addr) (len cap : Nat) (l : List UInt8) (n : Int) (w : World) (hk : k.length = 16) (hb : IsB w a len cap l) (hn : I64 n) :
    Calls Try.prog 13 #[kv k, .slice a len cap, .int .i64 n] w (TagR k l n w) := by
  have hky := Ky.new w k
  have hB := (Below.refl w.heap.size w).alloc (Nat.le_refl _) (.cells (row k) 23)
  by_cases h1 : 1 ≤ n
  · by_cases h8 : n ≤ 8
    · obtain ⟨m, rfl⟩ := Int.eq_ofNat_of_zero_le (show 0 ≤ n by omega)
      rw [kv]
      go_enter Try.func13, Try.ntmps13
      go_wp2_with (with_reducible refine wpList_load_key (op := ⟨some 14, _, _, _, _, _⟩) rfl (.tmp 3) rfl rfl hky hk ?_)
      with_reducible refine (sum_any k a len cap l _ hk (hb.below hB)).mono ?_
      rintro e w1 ⟨rfl, hB1⟩
      go_wp2_with fail
      with_reducible refine (lowBytes_any _ m _ (by omega)).mono ?_
      rintro e w2 ⟨g, rfl, hg, hO, hB2⟩
      rw [length_leB]
      have hB3 := seq hB (seq hB1 hB2)
      go_wp2_with fail
      go_ret2
      exact .inl ⟨⟨h1, h8⟩, g, rfl, Nat.le_trans (Nat.le_trans hB.size hB1.size) hg, hO, hB3⟩
    · rw [kv]
      have h8' : 8 < n := by omega
      go_enter Try.func13, Try.ntmps13
      go_wp2_with fail
      go_ret2
      exact .inr ⟨by omega, rfl, hB⟩
  · rw [kv]
    have h1' : n < 1 := by omega
    go_enter Try.func13, Try.ntmps13
    go_wp2_with fail
    go_ret2
    exact .inr ⟨by omega, rfl, hB⟩

theorem IsB.string {w : World} {a : Option Addr} {len cap : Nat} {l : List UInt8} (h : IsB w a len cap l) :
    (convert 24 9 (.slice a len cap)).run Try.prog w = .ok (.string ⟨l.toArray⟩) w := by
  have hl := h.length
  cases a with
  | none =>
    obtain ⟨rfl, rfl⟩ := h.nil rfl
    have : l = [] := List.eq_nil_of_length_eq_zero hl
    subst this
    exact run_convert_bytes_nil w 24 5 Try.underlying24 Try.underlying5 0 0 9 Try.underlying9
  | some x =>
    obtain ⟨h1, h2⟩ := h.cells x rfl
    subst hl
    refine run_convert_bytes_back w 24 9 5 x cap l Try.underlying24 Try.underlying5 Try.underlying9 fun j hj => ?_
    have h3 := (h1 (by have := h.le; omega)).1
    obtain ⟨b, off, spot⟩ := x
    simp at h3; subst h3
    have := h2 j hj
    rw [List.getD_eq_getElem?_getD, List.getElem?_eq_getElem hj, Option.getD_some] at this
    by_cases h0 : j = 0
    · subst h0; simpa [Addr.add] using this
    · simpa [Addr.add, h0] using this

set_option maxHeartbeats 400000 in
theorem equal_any (a : Option Addr) (la ca : Nat) (l : List UInt8) (b : Option Addr) (lb cb : Nat) (m : List UInt8) (w : World) (ha : IsB w a la ca l) (hb : IsB w b lb cb m) :
    Calls Try.prog 28 #[.slice a la ca, .slice b lb cb] w (Ret (.bool (l == m)) w) := by
  have h1 := ha.string
  have h2 := hb.string
  go_enter Try.func28, Try.ntmps28
  go_wp2
  go_ret
  exact ⟨rfl, rfl⟩

/-- what Verify says -/
def verB (k l t : List UInt8) : Bool := decide (1 ≤ t.length ∧ t.length ≤ 8) && (t == leB (sip k l) t.length)

set_option maxHeartbeats 1000000 in
theorem verify_any (k : List UInt8) (a : Option Addr) (len cap : Nat) (l : List UInt8) (b : Option Addr) (lb cb : Nat) (m : List UInt8) (w : World) (hk : k.length = 16) (hb : IsB w a len cap l) (ht : IsB w b lb cb m) :
    Calls Try.prog 15 #[kv k, .slice a len cap, .slice b lb cb] w (RetS (.bool (verB k l m)) w) := by
  have hky := Ky.new w k
  have hB := (Below.refl w.heap.size w).alloc (Nat.le_refl _) (.cells (row k) 23)
  have hmax := ht.max
  have HM := hid ht.length
  rw [kv]
  go_enter Try.func15, Try.ntmps15
  go_wp2_with (with_reducible refine wpList_load_key (op := ⟨some 10, _, _, _, _, _⟩) rfl (.tmp 3) rfl rfl hky hk ?_)
  with_reducible refine (tag_any k a len cap l lb _ hk (hb.below hB) (show I64 (lb : Int) from by unfold I64; omega)).mono ?_
  rintro e w1 (⟨⟨h1, h8⟩, g, rfl, hg, hO, hB1⟩ | ⟨h0, rfl, hB1⟩)
  · have J1 := hO.isB (by rw [length_leB]; omega)
    rw [length_leB] at J1
    have ht1 := (ht.below hB).below hB1
    have hB2 := seq hB hB1
    clear hO hg
    rw [Int.toNat_natCast] at J1 ⊢
    have HV : Hid (verB k l m = (m == leB (sip k l) lb)) := hid (by unfold verB; rw [HM.out]; simp; omega)
    go_wp2_with fail
    with_reducible refine (equal_any _ _ _ _ _ _ _ _ _ ht1 J1).mono ?_
    rintro e w2 ⟨rfl, rfl⟩
    rw [← HV.out]
    go_wp2_with fail
    go_ret
    exact ⟨rfl, hB2⟩
  · have HV : Hid (verB k l m = false) := hid (by unfold verB; rw [HM.out]; simp; omega)
    have hB2 := seq hB hB1
    go_wp2_with fail
    go_ret
    exact ⟨ret_bool HV.out.symm, hB2⟩

/-- what the reference's Tag returns -/
def TagF (k l : List UInt8) (n : Int) (w : World) (e : Ending) (w' : World) : Prop :=
  ((1 ≤ n ∧ n ≤ 8) ∧ ∃ v, e = .returned (.tuple #[v, .bool true]) ∧ Gr w' w.heap.size v (leB (sip k l) n.toNat) ∧ Below w.heap.size w w') ∨
  (¬ (1 ≤ n ∧ n ≤ 8) ∧ e = .returned (.tuple #[.slice none 0 0, .bool false]) ∧ Below w.heap.size w w')

theorem le_cells (y : Nat) : #[Value.int .u8 ((y : Int) % 256)] = row [UInt8.ofNat y] := by
  simp [row, bv, UInt8.toNat_ofNat']

set_option maxHeartbeats 1000000 in
theorem refTag_any (k : List UInt8) (a : Option Addr) (len cap : Nat) (l : List UInt8) (n : Int) (w : World) (hk : k.length = 16) (hb : IsB w a len cap l) (hn : I64 n) :
    Calls Try.prog 11 #[kv k, .slice a len cap, .int .i64 n] w (TagF k l n w) := by
  have hky := Ky.new w k
  have hB := (Below.refl w.heap.size w).alloc (Nat.le_refl _) (.cells (row k) 23)
  by_cases h1 : 1 ≤ n
  · by_cases h8 : n ≤ 8
    · obtain ⟨m, rfl⟩ := Int.eq_ofNat_of_zero_le (show 0 ≤ n by omega)
      rw [kv]
      go_enter Try.func11, Try.ntmps11
      go_wp2_with (with_reducible refine wpList_load_key (op := ⟨some 17, _, _, _, _, _⟩) rfl (.tmp 3) rfl rfl hky hk ?_)
      with_reducible refine (refSum_any k a len cap l _ hk (hb.below hB)).mono ?_
      rintro e w1 ⟨rfl, hB1⟩
      have hB2 := seq hB hB1
      clear hB hB1 hky
      obtain ⟨v, Hv⟩ : ∃ v, Hid (sip k l = v) := ⟨_, hid rfl⟩
      rw [Hv.out]
      go_wp2_with fail
      go_loopw [8, 9, 10] (fun s o i wr => ∃ (j y : Nat) (x : Value), x = o ∧ j ≤ m ∧ i = .int .i64 j ∧ s = .int .u64 y ∧ Hid (y = v.toNat / 2 ^ (8 * j)) ∧ Gr wr w.heap.size x (leB v j) ∧ Below w.heap.size w wr) (fun _ _ i _ => m - (intOf i).toNat)
      case atStart => exact ⟨0, v.toNat, _, rfl, Nat.zero_le _, rfl, rfl, hid (by simp), Gr.nil _ _, hB2⟩
      case round =>
        obtain ⟨j, y, x, rfl, hk, rfl, rfl, HY, hG, hBr⟩ := hrel
        clear hB2
        have HG := hid hG
        clear hG
        by_cases hlt : j < m
        · have HA := hid (leB_succ v j)
          have HV := hid (le_cells y)
          have HL : Hid (leByte v j = UInt8.ofNat y) := hid (by rw [HY.out]; rfl)
          have JJ : Hid (IsB (wr.alloc (.cells (row [UInt8.ofNat y]) 5)) (some ⟨wr.heap.size, 0, none⟩) 1 1 [UInt8.ofNat y]) := hid ((Own.new wr [UInt8.ofNat y]).isB (by simp))
          have GG := hid (HG.out.below ((Below.refl _ _).alloc (Nat.le_refl _) (.cells (row [UInt8.ofNat y]) 5)))
          have BB := hid (hBr.alloc hBr.size (.cells (row [UInt8.ofNat y]) 5))
          have SS := hid (BB.out.size)
          have LL : Hid ((leB v j).length + 1 ≤ 140737488355328) := hid (by rw [length_leB]; omega)
          have HY2 : Hid (y / 256 = v.toNat / 2 ^ (8 * (j + 1))) := hid (by
            rw [HY.out, Nat.div_div_eq_div_mul, show 8 * (j + 1) = 8 * j + 8 from by omega, Nat.pow_add])
          rw [← HV.out] at JJ GG BB SS
          go_wp2_with (with_reducible refine wpList_append_bytes (o := ⟨some 29, _, _, _, _, _⟩) rfl (.tmp 25) (.tmp 28) rfl x rfl (some ⟨wr.heap.size, 0, none⟩) 1 1 rfl w.heap.size (leB v j) [UInt8.ofNat y] GG.out JJ.out LL.out w BB.out SS.out ?_; intro v' w2 hG2 hB3 _)
          go_roundw
          case rel => exact ⟨j + 1, y / 256, v', rfl, by omega, by go_num, by simp, HY2, by rw [HA.out, HL.out]; exact hG2.out, hB3⟩
          case measure => simp [intOf]; omega
        · obtain rfl : j = m := by omega
          go_wp2_with fail
          go_ret2
          exact .inl ⟨⟨h1, h8⟩, x, rfl, by rw [Int.toNat_natCast, Hv.out]; exact HG.out, hBr⟩
    · rw [kv]
      have h8' : 8 < n := by omega
      go_enter Try.func11, Try.ntmps11
      go_wp2_with fail
      go_ret2
      exact .inr ⟨by omega, rfl, hB⟩
  · rw [kv]
    have h1' : n < 1 := by omega
    go_enter Try.func11, Try.ntmps11
    go_wp2_with fail
    go_ret2
    exact .inr ⟨by omega, rfl, hB⟩

set_option maxHeartbeats 1000000 in
theorem refVerify_any (k : List UInt8) (a : Option Addr) (len cap : Nat) (l : List UInt8) (b : Option Addr) (lb cb : Nat) (m : List UInt8) (w : World) (hk : k.length = 16) (hb : IsB w a len cap l) (ht : IsB w b lb cb m) :
    Calls Try.prog 16 #[kv k, .slice a len cap, .slice b lb cb] w (RetS (.bool (verB k l m)) w) := by
  have hky := Ky.new w k
  have hB := (Below.refl w.heap.size w).alloc (Nat.le_refl _) (.cells (row k) 23)
  have hmax := ht.max
  have HM := hid ht.length
  rw [kv]
  go_enter Try.func16, Try.ntmps16
  go_wp2_with (with_reducible refine wpList_load_key (op := ⟨some 10, _, _, _, _, _⟩) rfl (.tmp 3) rfl rfl hky hk ?_)
  with_reducible refine (refTag_any k a len cap l lb _ hk (hb.below hB) (show I64 (lb : Int) from by unfold I64; omega)).mono ?_
  rintro e w1 (⟨⟨h1, h8⟩, v, rfl, hG, hB1⟩ | ⟨h0, rfl, hB1⟩)
  · rw [Int.toNat_natCast] at hG
    obtain ⟨p, c, rfl, J1⟩ := hG.isB (by rw [length_leB]; omega)
    rw [length_leB] at J1 ⊢
    have ht1 := (ht.below hB).below hB1
    have hB2 := seq hB hB1
    clear hG
    have HV : Hid (verB k l m = (leB (sip k l) lb == m)) := hid (by
      unfold verB; rw [HM.out, decide_eq_true (⟨by omega, by omega⟩ : 1 ≤ lb ∧ lb ≤ 8), Bool.true_and, Bool.eq_iff_iff, beq_iff_eq, beq_iff_eq]; exact eq_comm)
    go_wp2_with fail
    with_reducible refine (same_any _ _ _ _ _ _ _ _ _ J1 ht1).mono ?_
    rintro e w2 ⟨rfl, hb2⟩
    rw [← HV.out]
    go_wp2_with fail
    go_ret
    exact ⟨rfl, seq hB2 hb2⟩
  · have HV : Hid (verB k l m = false) := hid (by unfold verB; rw [HM.out]; simp; omega)
    have hB2 := seq hB hB1
    go_wp2_with fail
    go_ret
    exact ⟨ret_bool HV.out.symm, hB2⟩
end Go.Proofs.Ytjlogmbgapnceaa
