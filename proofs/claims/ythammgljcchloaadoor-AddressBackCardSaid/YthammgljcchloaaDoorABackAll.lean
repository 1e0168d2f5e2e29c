/-
  ParseIP undoes FormatIP and ParsePrefix undoes FormatPrefix: the texts of addresses and prefixes, the address that the tape gives, and the walk of the law.
-/
import Derived.Test.YthammgljcchloaaDoorFmt
import Derived.Test.YthammgljcchloaaDoorPip
import Derived.Test.YthammgljcchloaaDoorRefBit
import Derived.Test.YthammgljcchloaaDoorContains
import Derived.Lib.AppendIntMem
import Derived.Lib.ItoaLen
import Derived.Test.YthammgljcchloaaDoorPfxOnly
import Derived.Test.YthammgljcchloaaDoorMask
import Derived.Test.YthammgljcchloaaDoorRefOf
import Derived.Test.YthammgljcchloaaDoorTapeNew
import Derived.Test.YthammgljcchloaaDoorSolic
import Derived.Test.YthammgljcchloaaDoorMaskMath
import Derived.Test.YthammgljcchloaaDoorMod
import Derived.Test.YthammgljcchloaaDoorViewInts
import Derived.Test.YthammgljcchloaaDoorIpEq
import Derived.Test.YthammgljcchloaaDoorKnown04
import Derived.Great.BuildSlice
namespace Go.Proofs.YthammgljcchloaaDoor
open Go.RowKit
set_option linter.unusedSimpArgs false
set_option linter.unusedVariables false


/-! one digit, one group -/
theorem hexv_hexD (d : Nat) (h : d < 16) : hexv (hexD d) = some d := by
  have : ∀ d : Fin 16, hexv (hexD d.val) = some d.val := by decide +kernel
  exact this ⟨d, h⟩
theorem hexD_ne (d : Nat) (h : d < 16) : hexD d ≠ 58 := by
  have : ∀ d : Fin 16, hexD d.val ≠ 58 := by decide +kernel
  exact this ⟨d, h⟩
theorem hexl_app : ∀ (l m : List UInt8) (a v : Nat), hexl a l = some v → hexl a (l ++ m) = hexl v m
  | [], m, a, v, h => by simp only [hexl, Option.some.injEq] at h; subst h; rfl
  | c :: l, m, a, v, h => by
    simp only [hexl, List.cons_append] at h ⊢
    cases hc : hexv c with
    | none => rw [hc] at h; cases h
    | some d => rw [hc] at h; exact hexl_app l m _ v h
theorem hexl_hexs (v : Nat) : hexl 0 (hexs v) = some v := by
  induction v using Nat.strongRecOn with
  | _ v ih =>
    by_cases h : v < 16
    · rw [hexs_small v h]; simp [hexl, hexv_hexD v h]
    · rw [hexs_big v h, hexl_app _ _ _ _ (ih (v / 16) (by omega))]
      simp only [hexl, hexv_hexD (v % 16) (by omega), Option.some.injEq]
      omega
theorem rgroup_hexs (v : Nat) (h : v < 65536) : rgroup (hexs v) = some v := by
  have hl := length_hexs v h
  unfold rgroup
  rw [if_neg, hexl_hexs]
  rintro (h0 | h4)
  · rw [h0] at hl; simp at hl
  · omega
theorem hexs_no (v : Nat) : ∀ x ∈ hexs v, x ≠ 58 := by
  induction v using Nat.strongRecOn with
  | _ v ih =>
    by_cases h : v < 16
    · rw [hexs_small v h]; intro x hx; rw [List.mem_singleton] at hx; subst hx; exact hexD_ne v h
    · rw [hexs_big v h]
      intro x hx
      rcases List.mem_append.1 hx with hx | hx
      · exact ih (v / 16) (by omega) x hx
      · rw [List.mem_singleton] at hx; subst hx; exact hexD_ne _ (by omega)
theorem hexs_cons (v : Nat) : ∃ c r, hexs v = c :: r ∧ c ≠ 58 := by
  cases h : hexs v with
  | nil =>
    exfalso
    by_cases h1 : v < 16
    · rw [hexs_small v h1] at h; cases h
    · rw [hexs_big v h1] at h; simp at h
  | cons c r => exact ⟨c, r, rfl, hexs_no v c (by rw [h]; exact List.mem_cons_self)⟩

/-! the groups side by side -/
def jt : List Nat → List UInt8
  | [] => []
  | [v] => hexs v
  | v :: u :: r => hexs v ++ 58 :: jt (u :: r)
theorem jt_cons (v : Nat) (r : List Nat) (hr : r ≠ []) : jt (v :: r) = hexs v ++ 58 :: jt r := by
  cases r with
  | nil => exact absurd rfl hr
  | cons u r => rfl
theorem jt_head (v : Nat) (r : List Nat) : ∃ c m, jt (v :: r) = c :: m ∧ c ≠ 58 := by
  obtain ⟨c, m, h, hc⟩ := hexs_cons v
  cases r with
  | nil => exact ⟨c, m, h, hc⟩
  | cons u r => exact ⟨c, m ++ 58 :: jt (u :: r), by rw [jt, h]; rfl, hc⟩
theorem jt_snoc : ∀ (l : List Nat) (v : Nat), l ≠ [] → jt (l ++ [v]) = jt l ++ 58 :: hexs v
  | [], _, h => absurd rfl h
  | [u], v, _ => rfl
  | u :: w :: r, v, _ => by
    rw [List.cons_append, jt_cons _ _ (by simp), jt_snoc (w :: r) v (by simp), jt_cons u (w :: r) (by simp)]
    simp
theorem gtext_jt (zs : List UInt8) : ∀ k, k ≤ 8 → gtext (vals (upto (grp zs) k)) = jt (upto (gval zs) k)
  | 0, _ => by simp [upto, vals, gtext, jt]
  | k + 1, h => by
    have ih := gtext_jt zs k (by omega)
    rw [upto_succ, upto_succ, show vals (upto (grp zs) k ++ [grp zs k]) = vals (upto (grp zs) k) ++ [(grp zs k).1] by simp [vals], gtext_snoc, ih]
    have e1 : (grp zs k).1 = (k, gval zs k) := by show (min k 8, gval zs k) = _; rw [Nat.min_eq_left (by omega)]
    rw [e1]
    cases k with
    | zero => simp [upto, jt]
    | succ k =>
      rw [jt_snoc _ _ (by intro h0; have := congrArg List.length h0; rw [upto_length] at this; simp at this)]
      simp
theorem length_jt : ∀ l : List Nat, l.length ≤ (jt l).length
  | [] => by simp [jt]
  | [v] => by obtain ⟨c, m, h, _⟩ := hexs_cons v; simp [jt, h]
  | v :: u :: r => by
    have := length_jt (u :: r)
    rw [jt_cons v (u :: r) (by simp)]
    simp only [List.length_append, List.length_cons] at this ⊢
    omega

/-! where a colon stands -/
theorem index_no : ∀ (x : List UInt8) (l sub : List UInt8) (t : List UInt8), sub = 58 :: t → (∀ c ∈ x, c ≠ 58) → Lib.index (x ++ l) sub = if Lib.index l sub = -1 then -1 else Lib.index l sub + x.length
  | [], l, sub, t, hs, _ => by
    by_cases h : Lib.index l sub = -1
    · rw [if_pos h]; exact h
    · rw [if_neg h]; simp
  | c :: x, l, sub, t, hs, hx => by
    have ih := index_no x l sub t hs (fun d hd => hx d (List.mem_cons_of_mem _ hd))
    have hc : c ≠ 58 := hx c List.mem_cons_self
    rw [List.cons_append, Lib.index]
    have hp : sub.isPrefixOf (c :: (x ++ l)) = false := by
      subst hs; simp [List.isPrefixOf]; intro h; exact absurd h.symm hc
    rw [hp, ih]
    have hge := Lib.index_ge l sub
    by_cases h : Lib.index l sub = -1
    · rw [if_pos h, if_pos h]; simp
    · rw [if_neg h, if_neg h]
      have : ¬(Lib.index l sub + (x.length : Int) == -1) = true := by simp; omega
      rw [if_neg (by simp), if_neg this]
      simp; omega
theorem index_one (x r : List UInt8) (hx : ∀ c ∈ x, c ≠ 58) : Lib.index (x ++ 58 :: r) [58] = x.length := by
  have h0 : Lib.index (58 :: r) [58] = 0 := by rw [Lib.index]; simp [List.isPrefixOf]
  rw [index_no x _ [58] [] rfl hx, h0]; simp
theorem index_one_none (x : List UInt8) (hx : ∀ c ∈ x, c ≠ 58) : Lib.index x [58] = -1 := by
  have h0 : Lib.index ([] : List UInt8) [58] = -1 := rfl
  have := index_no x [] [58] [] rfl hx
  rw [List.append_nil, h0, if_pos rfl] at this
  exact this

/-! the groups are read -/
def rallL : List UInt8 → List (List UInt8) → Option (List UInt8)
  | acc, [] => some acc
  | acc, p :: r => match rgroup p with | none => none | some n => rallL (acc ++ beBytes n 2) r
theorem rall_list : ∀ (ps : List ByteArray) (acc : List UInt8), rall acc ps = rallL acc (ps.map (·.data.toList))
  | [], acc => rfl
  | p :: r, acc => by
    simp only [rall, rallL, List.map_cons]
    cases rgroup p.data.toList with
    | none => rfl
    | some n => exact rall_list r _
theorem rallL_jt : ∀ (vs : List Nat) (acc : List UInt8) (n : Nat), vs ≠ [] → vs.length ≤ n + 1 → (∀ v ∈ vs, v < 65536) →
    rallL acc (Lib.splitK [58] 0 n (jt vs)) = some (acc ++ vs.flatMap fun v => beBytes v 2)
  | [], _, _, h, _, _ => absurd rfl h
  | [v], acc, n, _, _, hv => by
    have hs : Lib.splitK [58] 0 n (jt [v]) = [hexs v] := by
      cases n with
      | zero => rfl
      | succ n => unfold Lib.splitK; rw [show jt [v] = hexs v from rfl, index_one_none _ (hexs_no v)]; rfl
    rw [hs]
    simp [rallL, rgroup_hexs v (hv v List.mem_cons_self)]
  | v :: u :: r, acc, n, _, hl, hv => by
    obtain ⟨n, rfl⟩ : ∃ k, n = k + 1 := ⟨n - 1, by simp at hl; omega⟩
    have ih := rallL_jt (u :: r) (acc ++ beBytes v 2) n (by simp) (by simp at hl ⊢; omega) (fun x hx => hv x (List.mem_cons_of_mem _ hx))
    have hs : Lib.splitK [58] 0 (n + 1) (jt (v :: u :: r)) = hexs v :: Lib.splitK [58] 0 n (jt (u :: r)) := by
      rw [Lib.splitK, jt_cons v (u :: r) (by simp), index_one _ _ (hexs_no v)]
      rw [if_neg (by simp)]
      simp
    rw [hs]
    simp only [rallL, rgroup_hexs v (hv v List.mem_cons_self)]
    rw [ih]
    simp
theorem rgs_jt (vs : List Nat) (hl : vs.length ≤ 8) (hv : ∀ v ∈ vs, v < 65536) : rgs ⟨(jt vs).toArray⟩ = some (vs.flatMap fun v => beBytes v 2) := by
  unfold rgs
  have hsz : (⟨(jt vs).toArray⟩ : ByteArray).size = (jt vs).length := by simp [ByteArray.size]
  cases hvs : vs with
  | nil => rw [if_pos (by rw [← hvs] ; rw [hsz, hvs]; rfl)]; rfl
  | cons v r =>
    rw [← hvs]
    have h1 := length_jt vs
    have h2 : 1 ≤ vs.length := by rw [hvs]; simp
    rw [if_neg (by rw [hsz]; omega), rall_list, Lib.splitB_data, hsz]
    have := rallL_jt vs [] (min 8 ((jt vs).length + 1) - 1) (by rw [hvs]; simp) (by omega) hv
    simpa using this


theorem be_two (x y : UInt8) : beBytes (uintOf [x, y]) 2 = [x, y] := be_uint [x, y]
theorem take_two (zs : List UInt8) (j : Nat) (h : 2 * j + 2 ≤ zs.length) : ∃ x y, (zs.drop (2 * j)).take 2 = [x, y] := by
  cases h1 : (zs.drop (2 * j)).take 2 with
  | nil => have := congrArg List.length h1; rw [List.length_take, List.length_drop] at this; simp at this; omega
  | cons x r =>
    cases r with
    | nil => have := congrArg List.length h1; rw [List.length_take, List.length_drop] at this; simp at this; omega
    | cons y r =>
      cases r with
      | nil => exact ⟨x, y, rfl⟩
      | cons z r => have := congrArg List.length h1; rw [List.length_take, List.length_drop] at this; simp at this; omega
theorem be_gval (zs : List UInt8) (j : Nat) (h : 2 * j + 2 ≤ zs.length) : beBytes (gval zs j) 2 = (zs.drop (2 * j)).take 2 := by
  obtain ⟨x, y, e⟩ := take_two zs j h
  unfold gval; rw [e, be_two]
theorem take_groups (zs : List UInt8) : ∀ k, 2 * k ≤ zs.length → ((upto (gval zs) k).flatMap fun v => beBytes v 2) = zs.take (2 * k)
  | 0, _ => by simp [upto]
  | k + 1, h => by
    rw [upto_succ, List.flatMap_append, take_groups zs k (by omega)]
    simp only [List.flatMap_cons, List.flatMap_nil, List.append_nil]
    rw [be_gval zs k (by omega), show 2 * (k + 1) = 2 * k + 2 by omega, List.take_add]
theorem gval_all (zs : List UInt8) (k : Nat) : ∀ v ∈ upto (gval zs) k, v < 65536 := by
  intro v hv
  unfold upto at hv
  obtain ⟨j, _, rfl⟩ := List.mem_map.1 hv
  exact gval_lt zs j
theorem rgs_wtext (zs : List UInt8) (m : Nat) (h : zs.length = 2 * m) (h8 : m ≤ 8) : wtext zs = jt (upto (gval zs) m) ∧ rgs ⟨(wtext zs).toArray⟩ = some zs := by
  have e : wtext zs = jt (upto (gval zs) m) := by
    unfold wtext; rw [show zs.length / 2 = m by omega]; exact gtext_jt zs m h8
  refine ⟨e, ?_⟩
  rw [e, rgs_jt _ (by rw [upto_length]; exact h8) (gval_all zs m), take_groups zs m (by omega), List.take_of_length_le (by omega)]

theorem idx_colon (c : UInt8) (m : List UInt8) (hc : c ≠ 58) : Lib.index (58 :: c :: m) [58, 58] = if Lib.index (c :: m) [58, 58] = -1 then -1 else Lib.index (c :: m) [58, 58] + 1 := by
  rw [Lib.index]
  have hp : ([58, 58] : List UInt8).isPrefixOf (58 :: c :: m) = false := by
    simp [List.isPrefixOf]; exact fun h => hc h.symm
  rw [hp]
  by_cases h : Lib.index (c :: m) [58, 58] = -1
  · rw [if_pos h]; simp [h]
  · rw [if_neg h, if_neg (by simp), if_neg (by simp [h])]
theorem index_two : ∀ vs : List Nat, Lib.index (jt vs) [58, 58] = -1 ∧ ∀ r, Lib.index (jt vs ++ 58 :: 58 :: r) [58, 58] = (jt vs).length
  | [] => ⟨rfl, fun r => by show Lib.index (58 :: 58 :: r) [58, 58] = 0; rw [Lib.index]; simp [List.isPrefixOf]⟩
  | [v] => by
    have h0 : Lib.index ([] : List UInt8) [58, 58] = -1 := rfl
    constructor
    · have := index_no (hexs v) [] [58, 58] [58] rfl (hexs_no v)
      rw [List.append_nil, h0, if_pos rfl] at this
      exact this
    · intro r
      have h1 : Lib.index (58 :: 58 :: r) [58, 58] = 0 := by rw [Lib.index]; simp [List.isPrefixOf]
      have := index_no (hexs v) (58 :: 58 :: r) [58, 58] [58] rfl (hexs_no v)
      rw [h1, if_neg (by decide)] at this
      rw [show jt [v] = hexs v from rfl, this]; simp
  | v :: u :: r => by
    obtain ⟨i1, i2⟩ := index_two (u :: r)
    obtain ⟨c, m, hj, hc⟩ := jt_head u r
    rw [jt_cons v (u :: r) (by simp)]
    constructor
    · rw [index_no (hexs v) _ [58, 58] [58] rfl (hexs_no v), hj, idx_colon c m hc, ← hj, i1]; rfl
    · intro t
      have i2 := i2 t
      have e : hexs v ++ 58 :: jt (u :: r) ++ 58 :: 58 :: t = hexs v ++ 58 :: c :: (m ++ 58 :: 58 :: t) := by rw [hj]; simp
      have hj2 : c :: (m ++ 58 :: 58 :: t) = jt (u :: r) ++ 58 :: 58 :: t := by rw [hj]; rfl
      rw [e, index_no (hexs v) _ [58, 58] [58] rfl (hexs_no v), idx_colon c _ hc, hj2, i2]
      have : ¬((jt (u :: r)).length : Int) = -1 := by omega
      rw [if_neg this, if_neg (by omega)]
      simp only [List.length_append, List.length_cons]
      omega

theorem lz_zero (zs : List UInt8) : ∀ k, k ≤ 8 →
    (∀ j : Nat, (lzs (vals (upto (grp zs) k))).1 ≤ j → (j : Int) < (lzs (vals (upto (grp zs) k))).1 + (lzs (vals (upto (grp zs) k))).2.1 → gval zs j = 0) ∧
    (∀ j : Nat, (k : Int) - (lzs (vals (upto (grp zs) k))).2.2 ≤ j → j < k → gval zs j = 0)
  | 0, _ => by
    constructor
    · intro j h1 h2; simp [upto, vals, lzs] at h1 h2; omega
    · intro j h1 h2; omega
  | k + 1, h => by
    obtain ⟨ih1, ih2⟩ := lz_zero zs k (by omega)
    have e : lzs (vals (upto (grp zs) (k + 1))) = lzStep (lzs (vals (upto (grp zs) k))) (grp zs k).1 := by
      rw [upto_succ, show vals (upto (grp zs) k ++ [grp zs k]) = vals (upto (grp zs) k) ++ [(grp zs k).1] by simp [vals], lzs_snoc]
    have e1 : (grp zs k).1 = (k, gval zs k) := by show (min k 8, gval zs k) = _; rw [Nat.min_eq_left (by omega)]
    rw [e, e1]
    generalize lzs (vals (upto (grp zs) k)) = s at *
    unfold lzStep
    by_cases hz : gval zs k = 0
    · have h2' : ∀ j : Nat, ((k + 1 : Nat) : Int) - (s.2.2 + 1) ≤ j → j < k + 1 → gval zs j = 0 := by
        intro j h1 h2
        by_cases hj : j = k
        · subst hj; exact hz
        · exact ih2 j (by omega) (by omega)
      rw [if_neg (by simp [hz])]
      split
      · refine ⟨fun j h1 h2 => ?_, h2'⟩
        simp only at h1 h2
        exact h2' j (by omega) (by omega)
      · exact ⟨ih1, h2'⟩
    · rw [if_pos hz]
      refine ⟨ih1, fun j h1 h2 => ?_⟩
      simp only at h1
      omega

theorem zeros_mid (zs : List UInt8) (a n : Nat) (h : 2 * (a + n) ≤ zs.length) (hz : ∀ j, a ≤ j → j < a + n → gval zs j = 0) : (zs.drop (2 * a)).take (2 * n) = zeros (2 * n) := by
  induction n with
  | zero => simp [zeros]
  | succ n ih =>
    have ih := ih (by omega) (fun j h1 h2 => hz j h1 (by omega))
    have hb := be_gval zs (a + n) (by omega)
    rw [hz (a + n) (by omega) (by omega)] at hb
    rw [show 2 * (n + 1) = 2 * n + 2 by omega, List.take_add, ih, List.drop_drop, show 2 * a + 2 * n = 2 * (a + n) by omega, ← hb]
    have : beBytes 0 2 = [0, 0] := by decide
    rw [this]
    unfold zeros
    rw [show [(0 : UInt8), 0] = List.replicate 2 0 from rfl, List.replicate_append_replicate]

theorem toArray_list (l : List UInt8) : (⟨l.toArray⟩ : ByteArray).data.toList = l := by simp

/-- the text of an address is read as that address -/
theorem parse_fmt (zs : List UInt8) (h16 : zs.length = 16) : parseIP ⟨(fmtIP zs).toArray⟩ = some zs := by
  obtain ⟨i1, i2, i3, -, -⟩ := lz_inv zs 8 (by omega)
  obtain ⟨z1, -⟩ := lz_zero zs 8 (by omega)
  unfold parseIP
  rw [toArray_list]
  unfold fmtIP
  generalize lzs (vals (upto (grp zs) 8)) = s at *
  have hr0 : rgs ⟨#[]⟩ = some [] := rfl
  split
  · obtain ⟨w1, w2⟩ := rgs_wtext zs 8 (by omega) (by omega)
    have hi := (index_two (upto (gval zs) 8)).1
    rw [← w1] at hi
    have hc : Lib.cut (wtext zs) [58, 58] = (wtext zs, [], false) := by unfold Lib.cut; rw [hi]; rfl
    rw [hc]
    show joinIP false (rgs ⟨(wtext zs).toArray⟩) (rgs ⟨#[]⟩) = _
    rw [w2, hr0, join_good _ _ _ (by simp [h16])]
    simp [h16, zeros]
  · rename_i hn
    obtain ⟨a, ha⟩ := Int.eq_ofNat_of_zero_le i1
    obtain ⟨n, hn2⟩ := Int.eq_ofNat_of_zero_le i2
    rw [ha, hn2] at z1 i3
    rw [hn2] at hn
    rw [ha, hn2]
    simp only [Int.toNat_natCast]
    have h2 : 2 ≤ n := by omega
    have han : a + n ≤ 8 := by omega
    have l1 : (zs.take (2 * a)).length = 2 * a := by rw [List.length_take]; omega
    have l2 : (zs.drop (2 * (a + n))).length = 2 * (8 - (a + n)) := by rw [List.length_drop]; omega
    obtain ⟨w1, w2⟩ := rgs_wtext (zs.take (2 * a)) a l1 (by omega)
    obtain ⟨w3, w4⟩ := rgs_wtext (zs.drop (2 * (a + n))) (8 - (a + n)) l2 (by omega)
    have hi := (index_two (upto (gval (zs.take (2 * a))) a)).2 (wtext (zs.drop (2 * (a + n))))
    rw [← w1] at hi
    generalize hA : wtext (zs.take (2 * a)) = A at *
    generalize hB : wtext (zs.drop (2 * (a + n))) = B at *
    have hc : Lib.cut (A ++ [58, 58] ++ B) [58, 58] = (A, B, true) := by
      unfold Lib.cut
      rw [show A ++ [58, 58] ++ B = A ++ 58 :: 58 :: B by simp, hi, if_pos (by omega)]
      simp
    rw [hc]
    show joinIP true (rgs ⟨A.toArray⟩) (rgs ⟨B.toArray⟩) = _
    rw [w2, w4, join_good _ _ _ (by rw [l1, l2]; simp; omega), l1, l2]
    have hmid := zeros_mid zs a n (by omega) (fun j h1 h2 => z1 j (by omega) (by omega))
    rw [show 16 - 2 * a - 2 * (8 - (a + n)) = 2 * n by omega, ← hmid]
    congr 1
    rw [List.append_assoc]
    have e1 : zs.drop (2 * (a + n)) = (zs.drop (2 * a)).drop (2 * n) := by rw [List.drop_drop]; congr 1; omega
    rw [e1, List.take_append_drop, List.take_append_drop]


/-- the text of a prefix -/
def fmtP (l : List UInt8) (n : Int) : List UInt8 := fmtIP l ++ [47] ++ Lib.itoa n
theorem con_range {l : List UInt8} {n : Int} (h : conP l n l = true) : 0 ≤ n ∧ n ≤ 128 := by
  unfold conP at h
  rw [Bool.and_eq_true, beq_iff_eq, beq_iff_eq] at h
  have := h.2
  unfold clamp at this
  omega
theorem itoa_g (n : Int) (h0 : 0 ≤ n) (h1 : n ≤ 128) (w : World) (G : GL w) :
    Calls Tryd.prog 52 #[.int .i64 n] w (RetS (.string ⟨(Lib.itoa n).toArray⟩) w) := by
  refine (Tryd.strconv_Itoa n (by omega) (by omega) w G.pow).mono ?_
  rintro e w' ⟨rfl, k, os, rfl⟩
  exact ⟨rfl, Lib.below_grow _ w (Nat.le_refl _) k os⟩

set_option maxHeartbeats 4000000 in
set_option maxRecDepth 100000 in
theorem format_prefix (l : List UInt8) (hl : l.length = 16) (n : Int) (hn : I64 n) (hv : conP l n l = true) (w : World) (G : GL w) :
    Calls Tryd.prog 20 #[pv l n] w (RetS (.string ⟨(fmtP l n).toArray⟩) w) := by
  obtain ⟨hn0, hn1⟩ := con_range hv
  have hP := (Pk.new w l n).pr
  have hB := (Below.refl w.heap.size w).alloc (Nat.le_refl _) (.cells (pl l n).toArray 35)
  have G := G.on hB
  have jV := fun w => validp_any l hl n hn w
  rw [hv] at jV
  have jF := fun w G => format_ip l hl w G
  have jI := fun w G => itoa_g n hn0 hn1 w G
  obtain ⟨F, hF⟩ : ∃ F, F = fmtP l n := ⟨_, rfl⟩
  obtain ⟨U, hU⟩ : ∃ U, U = fmtIP l ++ [47] := ⟨_, rfl⟩
  have ba : (⟨(fmtIP l).toArray⟩ : ByteArray) ++ ⟨#[47]⟩ = ⟨U.toArray⟩ := by rw [hU]; exact bytes_append (fmtIP l) [47]
  have bb : (⟨U.toArray⟩ : ByteArray) ++ ⟨(Lib.itoa n).toArray⟩ = ⟨F.toArray⟩ := by rw [hF, hU]; exact bytes_append (fmtIP l ++ [47]) (Lib.itoa n)
  have k1 : ¬ 9223372036854775807 < (fmtIP l).length + 1 := by have := length_fmtIP l hl; omega
  have k2 : ¬ 9223372036854775807 < U.length + (Lib.itoa n).length := by
    have := length_fmtIP l hl
    have := Lib.itoa_length_le n (by omega) (by omega)
    rw [hU, List.length_append]; simp; omega
  rw [← hF]
  clear hF hU
  generalize fmtIP l = T1 at *
  generalize Lib.itoa n = T2 at *
  rw [show pv l n = .agg (pl l n).toArray from rfl]
  go_enter Tryd.func20, Tryd.ntmps20
  go_wp2_with (with_reducible refine wpList_load_pfx (op := ⟨some 3, _, _, _, _, _⟩) rfl (.tmp 1) rfl rfl hP hl ?_)
  generalize w.alloc _ = w1 at *
  with_reducible refine (jV _).mono ?_
  rintro e w2 ⟨rfl, hb⟩
  have hP := hP.below hb (hP.lt hl)
  have hB := hB.trans (hb.mono hB.size)
  have G := G.on hb
  clear hb jV
  go_wp2_with fail
  refine wp_region_held_drew (S := fun w' => Below w2.heap.size w2 w') (by kernel_rfl) (below_drewN (Below.refl _ _) 1) (fun hHeld => ?_)
  refine wpAnyH_take (i := 0) (oi := ⟨some 6, _, _, _, _, _⟩) (v := ?_) rfl (by kernel_rfl) (by kernel_rfl) (by kernel_rfl) (fun _ _ _ h => h) (Or.inl ⟨by rfl, ?_⟩) hHeld ?_
  rotate_left
  · intro w hSw; go_simp; try with_reducible rfl
  try simp only [Act.put, List.setIfInBounds_toArray, List.set_cons_zero, List.set_cons_succ]
  refine wpAnyH_ip (g := w.heap.size) (l := l) (i := 1) (oi := ⟨some 7, _, _, _, _, _⟩) rfl (by kernel_rfl) (by kernel_rfl) (by kernel_rfl) (fun _ _ _ h => h) (by rfl) (.tmp 6) rfl rfl hl (fun _ h => (hP.below h (hP.lt hl)).ry) hHeld ?_
  try simp only [Act.put, List.setIfInBounds_toArray, List.set_cons_zero, List.set_cons_succ]
  refine wpAnyH_take (i := 4) (oi := ⟨some 10, _, _, _, _, _⟩) (v := ?_) rfl (by kernel_rfl) (by kernel_rfl) (by kernel_rfl) (fun _ _ _ h => h) (Or.inl ⟨by rfl, ?_⟩) hHeld ?_
  rotate_left
  · intro w hSw; go_simp; try with_reducible rfl
  try simp only [Act.put, List.setIfInBounds_toArray, List.set_cons_zero, List.set_cons_succ]
  refine wpAnyH_take (i := 5) (oi := ⟨some 11, _, _, _, _, _⟩) (v := ?_) rfl (by kernel_rfl) (by kernel_rfl) (by kernel_rfl) (fun _ _ _ h => h) (Or.inl ⟨by rfl, ?_⟩) hHeld ?_
  rotate_left
  · intro w hSw; have cb := (hP.below hSw (hP.lt hl)).bits hl; go_simp; try with_reducible rfl
  try simp only [Act.put, List.setIfInBounds_toArray, List.set_cons_zero, List.set_cons_succ]
  refine wpAnyH_ready (rs := [2]) (by kernel_rfl) (by simp) ?_
  refine AllReadyH.cons (o := ⟨some 8, _, _, _, _, _⟩) rfl (fun K hK => ?_) AllReadyH.nil
  go_simp
  with_reducible refine (jF _ (G.on hHeld)).mono ?_
  rintro e u2 ⟨rfl, hb2⟩
  have hq2 := hHeld.trans (hb2.mono hHeld.size)
  go_wp2_with fail
  clear hHeld
  refine hK.out _ _ (hq2) (fun hHeld => ?_)
  clear hK K
  try simp only [Act.put, List.setIfInBounds_toArray, List.set_cons_zero, List.set_cons_succ]
  refine wpAnyH_take (i := 3) (oi := ⟨some 9, _, _, _, _, _⟩) (v := ?_) rfl (by kernel_rfl) (by kernel_rfl) (by kernel_rfl) (fun _ _ _ h => h) (Or.inl ⟨by rfl, ?_⟩) hHeld ?_
  rotate_left
  · intro w hSw; go_simp; try with_reducible rfl
  try simp only [Act.put, List.setIfInBounds_toArray, List.set_cons_zero, List.set_cons_succ]
  refine wpAnyH_ready (rs := [6]) (by kernel_rfl) (by simp) ?_
  refine AllReadyH.cons (o := ⟨some 12, _, _, _, _, _⟩) rfl (fun K hK => ?_) AllReadyH.nil
  go_simp
  with_reducible refine (jI _ (G.on hHeld)).mono ?_
  rintro e u6 ⟨rfl, hb6⟩
  have hq6 := hHeld.trans (hb6.mono hHeld.size)
  go_wp2_with fail
  clear hHeld
  refine hK.out _ _ (hq6) (fun hHeld => ?_)
  clear hK K
  try simp only [Act.put, List.setIfInBounds_toArray, List.set_cons_zero, List.set_cons_succ]
  refine wpAnyH_take (i := 7) (oi := ⟨some 13, _, _, _, _, _⟩) (v := ?_) rfl (by kernel_rfl) (by kernel_rfl) (by kernel_rfl) (fun _ _ _ h => h) (Or.inl ⟨by rfl, ?_⟩) hHeld ?_
  rotate_left
  · intro w hSw; go_simp; try with_reducible rfl
  try simp only [Act.put, List.setIfInBounds_toArray, List.set_cons_zero, List.set_cons_succ]
  refine wpAnyH_take (i := 8) (oi := ⟨some 2, _, _, _, _, _⟩) (v := ?_) rfl (by kernel_rfl) (by kernel_rfl) (by kernel_rfl) (fun _ _ _ h => h) (Or.inl ⟨by rfl, ?_⟩) hHeld ?_
  rotate_left
  · intro w hSw; go_simp; try with_reducible rfl
  try simp only [Act.put, List.setIfInBounds_toArray, List.set_cons_zero, List.set_cons_succ]
  refine wpAnyH_done (by kernel_rfl) ?_ _
  go_wp2_with fail
  go_ret
  exact ⟨rfl, hB.trans (hHeld.mono hB.size)⟩


theorem hexs_no47 (v : Nat) : ∀ x ∈ hexs v, x ≠ 47 := by
  have hd : ∀ d, d < 16 → hexD d ≠ 47 := by
    intro d h
    have : ∀ d : Fin 16, hexD d.val ≠ 47 := by decide +kernel
    exact this ⟨d, h⟩
  induction v using Nat.strongRecOn with
  | _ v ih =>
    by_cases h : v < 16
    · rw [hexs_small v h]; intro x hx; rw [List.mem_singleton] at hx; subst hx; exact hd v h
    · rw [hexs_big v h]
      intro x hx
      rcases List.mem_append.1 hx with hx | hx
      · exact ih (v / 16) (by omega) x hx
      · rw [List.mem_singleton] at hx; subst hx; exact hd _ (by omega)
theorem gtext_no47 : ∀ (l : List (Nat × Nat)), ∀ x ∈ gtext l, x ≠ 47 := by
  intro l x hx
  unfold gtext at hx
  obtain ⟨y, _, hy⟩ := List.mem_flatMap.1 hx
  rcases List.mem_append.1 hy with h | h
  · split at h
    · rw [List.mem_singleton] at h; subst h; decide
    · cases h
  · exact hexs_no47 _ x h
theorem fmt_no47 (zs : List UInt8) : ∀ x ∈ fmtIP zs, x ≠ 47 := by
  intro x hx
  unfold fmtIP at hx
  split at hx
  · exact gtext_no47 _ x hx
  · rcases List.mem_append.1 hx with hx | hx
    · rcases List.mem_append.1 hx with hx | hx
      · exact gtext_no47 _ x hx
      · simp only [List.mem_cons, List.not_mem_nil, or_false, or_self] at hx; subst hx; decide
    · exact gtext_no47 _ x hx
theorem index_47 : ∀ (x r : List UInt8), (∀ c ∈ x, c ≠ 47) → Lib.index (x ++ 47 :: r) [47] = x.length
  | [], r, _ => by rw [List.nil_append, Lib.index]; simp [List.isPrefixOf]
  | c :: x, r, hx => by
    have ih := index_47 x r (fun d hd => hx d (List.mem_cons_of_mem _ hd))
    have hc : c ≠ 47 := hx c List.mem_cons_self
    rw [List.cons_append, Lib.index]
    have hp : ([47] : List UInt8).isPrefixOf (c :: (x ++ 47 :: r)) = false := by
      simp [List.isPrefixOf] <;> exact fun h => hc h.symm
    rw [hp, ih]
    have : ¬((x.length : Int) == -1) = true := by simp <;> omega
    rw [if_neg (by simp), if_neg this]
    simp
theorem cut_fmtP (l : List UInt8) (n : Int) : Lib.cut (fmtP l n) [47] = (fmtIP l, Lib.itoa n, true) := by
  have hi := index_47 (fmtIP l) (Lib.itoa n) (fmt_no47 l)
  have e : fmtP l n = fmtIP l ++ 47 :: Lib.itoa n := by unfold fmtP; simp
  rw [e]
  unfold Lib.cut
  rw [hi, if_pos (by omega)]
  simp
theorem atoi_small (n : Int) (h0 : 0 ≤ n) (h1 : n ≤ 128) : Lib.atoi (Lib.itoa n) = some n ∧ (Lib.itoa n).length ≤ 3 := by
  have h : ∀ i : Fin 129, Lib.atoi (Lib.itoa (i.val : Int)) = some (i.val : Int) ∧ (Lib.itoa (i.val : Int)).length ≤ 3 := by decide +kernel
  obtain ⟨k, rfl⟩ := Int.eq_ofNat_of_zero_le h0
  exact h ⟨k, by omega⟩
theorem results_pfx2 {fn : Func} {t u : Tmp} (hr : fn.results = #[.cell t 35, .tmp u]) {tmps : Array Value} {w : World} {g : Nat} {l : List UInt8} {n : Int} {v : Value} (hp : tmps.getD t undef = .pointer (some ⟨g, 0, none⟩)) (hq : tmps.getD u undef = v) (hR : Pr w g l n) (hl : l.length = 16) :
    (results fn tmps).run Tryd.prog w = .ok (.tuple #[pv l n, v]) w := by
  have hload := run_loadVar_mid (P := Tryd.prog) w g 0 35 (pl l n) _ hR Tryd.underlying35 rfl (by rw [length_pl l n hl]; exact pfx_info)
  unfold results
  rw [hr]
  have hp' : tmps[t]?.getD undef = .pointer (some ⟨g, 0, none⟩) := by simpa using hp
  have hq' : tmps[u]?.getD undef = v := by simpa using hq
  simp [hp', hq', asAddr, hload]
  rfl

set_option maxHeartbeats 4000000 in
set_option maxRecDepth 100000 in
theorem parse_prefix (l : List UInt8) (hl : l.length = 16) (n : Int) (hn : I64 n) (hv : conP l n l = true) (w : World) (G : GL w) :
    Calls Tryd.prog 18 #[.string ⟨(fmtP l n).toArray⟩] w (RetS (.tuple #[pv l n, .bool true]) w) := by
  obtain ⟨hn0, hn1⟩ := con_range hv
  obtain ⟨ha1, ha2⟩ := atoi_small n hn0 hn1
  have hT1 := length_fmtIP l hl
  have jV := fun w => validp_any l hl n hn w
  rw [hv] at jV
  have jI := fun w G => itoa_g n hn0 hn1 w G
  have jP := fun w G => parse_ip ⟨(fmtIP l).toArray⟩ w (by simp [ByteArray.size]; omega) G
  unfold PipP at jP
  rw [parse_fmt l hl] at jP
  have jA := fun w => Tryd.strconv_Atoi ⟨(Lib.itoa n).toArray⟩ n (by simp [ByteArray.size]; omega) (by simpa using ha1) w
  have hsz : (⟨(fmtP l n).toArray⟩ : ByteArray).size < 4294967281 := by
    simp only [ByteArray.size, List.size_toArray, fmtP, List.length_append, List.length_cons, List.length_nil]; omega
  have jC := fun m w hm => Tryd.strings_Cut ⟨(fmtP l n).toArray⟩ ⟨#[47]⟩ m w hsz hm
  have hcut : Lib.cut (⟨(fmtP l n).toArray⟩ : ByteArray).data.toList (⟨#[47]⟩ : ByteArray).data.toList = (fmtIP l, Lib.itoa n, true) := by
    have : (⟨(fmtP l n).toArray⟩ : ByteArray).data.toList = fmtP l n := by simp
    rw [this]; exact cut_fmtP l n
  simp only [hcut] at jC
  clear hcut hsz ha1
  generalize (fmtP l n) = F at *
  generalize fmtIP l = T1 at *
  generalize Lib.itoa n = T2 at *
  have hPz := Pk.zero w
  have hB := (Below.refl w.heap.size w).alloc (Nat.le_refl _) (.cells #[.int .u8 0, .int .u8 0, .int .u8 0, .int .u8 0, .int .u8 0, .int .u8 0, .int .u8 0, .int .u8 0, .int .u8 0, .int .u8 0, .int .u8 0, .int .u8 0, .int .u8 0, .int .u8 0, .int .u8 0, .int .u8 0, .int .i64 0] 35)
  go_enter Tryd.func18, Tryd.ntmps18
  go_wp2_with fail
  change Calls _ _ _ (w.alloc (.cells #[.int .u8 0, .int .u8 0, .int .u8 0, .int .u8 0, .int .u8 0, .int .u8 0, .int .u8 0, .int .u8 0, .int .u8 0, .int .u8 0, .int .u8 0, .int .u8 0, .int .u8 0, .int .u8 0, .int .u8 0, .int .u8 0, .int .i64 0] 35)) _
  generalize w.alloc _ = w1 at *
  have G := G.on hB
  obtain ⟨m, hm⟩ := G.m
  with_reducible refine (jC m w1 hm).mono ?_
  rintro e w2 ⟨rfl, k, hw2⟩
  have hb : Below w1.heap.size w1 w2 := by rw [hw2]; exact below_drewN (Below.refl _ _) _
  have hPz := hPz.below hb hPz.lt
  have G := G.on hb
  have hB := hB.trans (hb.mono hB.size)
  clear hb hw2 jC hm
  go_wp2_with fail
  with_reducible refine (jP _ G).mono ?_
  rintro e w3 ⟨hpost, hb⟩
  rcases hpost with ⟨l', hl', hl16, rfl⟩ | ⟨hno, _⟩
  rotate_left
  · cases hno
  injection hl' with hl'
  subst hl'
  have hPz := hPz.below hb hPz.lt
  have G := G.on hb
  have hB := hB.trans (hb.mono hB.size)
  clear hb jP
  have hxz := (Below.refl w3.heap.size w3).alloc (Nat.le_refl _) (.cells #[.int .u8 0, .int .u8 0, .int .u8 0, .int .u8 0, .int .u8 0, .int .u8 0, .int .u8 0, .int .u8 0, .int .u8 0, .int .u8 0, .int .u8 0, .int .u8 0, .int .u8 0, .int .u8 0, .int .u8 0, .int .u8 0] 23)
  have hIk := Ik.lit w3
  go_upto_region 3 with ((with_reducible refine wpList_store_ip (op := ⟨none, _, _, _, _, _⟩) ?_ (.tmp 7) (.tmp 21) ?_ ?_ (l := l) ?_ hIk (length_zeros 16) hl w3.heap.size w3 (by exact hxz) (Nat.le_refl _) ?_); (· exact rfl); (· exact rfl); (· exact rfl); (· exact rfl); intro w4 hR4 hb4)
  have hR7 := hR4.out
  have hPz := hPz.below hb4 hPz.lt
  have G := G.on hb4
  have hB := hB.trans (hb4.mono hB.size)
  have h17 := hR7.lt hl
  clear hxz hIk hR4 hb4
  generalize w3.heap.size = b7 at *
  go_wp2_with fail
  with_reducible refine (jA _).mono ?_
  rintro e w5 ⟨rfl, t5, hw5⟩
  have hb : Below w4.heap.size w4 w5 := by rw [hw5]; exact below_bytes _ _ _
  have hR7 := hR7.below hb h17
  have hPz := hPz.below hb hPz.lt
  have G := G.on hb
  have hB := hB.trans (hb.mono hB.size)
  have h17 := hR7.lt hl
  clear hw5 hb jA
  go_wp2_with fail
  with_reducible refine (jI _ G).mono ?_
  rintro e w6 ⟨rfl, hb⟩
  have hR7 := hR7.below hb h17
  have hPz := hPz.below hb hPz.lt
  have G := G.on hb
  have hB := hB.trans (hb.mono hB.size)
  have h17 := hR7.lt hl
  clear hb jI
  have hxp := (Below.refl w6.heap.size w6).alloc (Nat.le_refl _) (.cells #[.int .u8 0, .int .u8 0, .int .u8 0, .int .u8 0, .int .u8 0, .int .u8 0, .int .u8 0, .int .u8 0, .int .u8 0, .int .u8 0, .int .u8 0, .int .u8 0, .int .u8 0, .int .u8 0, .int .u8 0, .int .u8 0, .int .i64 0] 35)
  have hKn := Pk.zero w6
  have hR7' := hR7.below hxp h17
  go_upto_region 7 with (first | ((with_reducible refine wpList_load_ry (op := ⟨some 41, _, _, _, _, _⟩) ?_ (.tmp 7) ?_ ?_ hR7 hl ?_); (· exact rfl); (· exact rfl); (· exact rfl)) | ((with_reducible refine wpList_build_pfx (op := ⟨some 43, _, _, _, _, _⟩) ?_ (.tmp 41) (.tmp 42) ?_ (l := l) (n := n) ?_ ?_ hl ?_); (· exact rfl); (· exact rfl); (· exact rfl); (· exact rfl)) | ((with_reducible refine wpList_store_pfx (op := ⟨none, _, _, _, _, _⟩) ?_ (.tmp 11) (.tmp 43) ?_ ?_ (l := l) (n := n) ?_ hKn (length_zeros 16) hl w6.heap.size w6 (by exact hxp) (Nat.le_refl _) ?_); (· exact rfl); (· exact rfl); (· exact rfl); (· exact rfl); intro w7 hR11 hb7))
  have hR11 := hR11.out
  have hPz := hPz.below hb7 hPz.lt
  have hB := hB.trans (hb7.mono hB.size)
  clear hxp hKn hR7' hb7
  generalize w6.heap.size = b11 at *
  go_wp2_with ((with_reducible refine wpList_load_pfx (op := ⟨some 44, _, _, _, _, _⟩) ?_ (.tmp 11) ?_ ?_ hR11 hl ?_); (· exact rfl); (· exact rfl); (· exact rfl))
  with_reducible refine (jV _).mono ?_
  rintro e w8 ⟨rfl, hb⟩
  have hR11 := hR11.below hb (hR11.lt hl)
  have hPz := hPz.below hb hPz.lt
  have hB := hB.trans (hb.mono hB.size)
  clear hb jV
  go_wp2_with (first | ((with_reducible refine wpList_load_pfx (op := ⟨some 48, _, _, _, _, _⟩) ?_ (.tmp 11) ?_ ?_ hR11 hl ?_); (· exact rfl); (· exact rfl); (· exact rfl)) | ((with_reducible refine wpList_store_pfx (op := ⟨none, _, _, _, _, _⟩) ?_ (.tmp 2) (.tmp 48) ?_ ?_ (l := l) (n := n) ?_ hPz (length_zeros 16) hl w.heap.size w (by exact hB) (Nat.le_refl _) ?_); (· exact rfl); (· exact rfl); (· exact rfl); (· exact rfl); intro wz hRz hBz))
  exact bodyPost_ret (results_pfx2 (v := .bool true) rfl rfl rfl hRz.out hl) rfl ⟨rfl, hBz⟩


set_option maxHeartbeats 2000000 in
theorem word_any (g : Nat) (w : World) (hT : TapeAt w g) :
    Calls Tryd.prog 58 #[.pointer (some ⟨g, 0, none⟩)] w (fun e w' => ∃ v : Nat, e = .returned (.int .u64 v) ∧ v < 18446744073709551616 ∧ TapeAt w' g ∧ Only g w w') := by
  go_enter Tryd.func58, Tryd.ntmps58
  go_wp2_with fail
  with_reducible refine (next_any g 65536 w hT (by decide) (by decide)).mono ?_
  rintro e w1 ⟨v, rfl, hv, hT1, hO1⟩
  have hq : IntKind.u64.wrap (v : Int) = (v : Int) := by rw [IntKind.wrap_u64]; omega
  go_wp2_with fail
  with_reducible refine (next_any g 5 w1 hT1 (by decide) (by decide)).mono ?_
  rintro e w2 ⟨c, rfl, hc, hT2, hO2⟩
  have hO := hO1.trans hO2
  rcases (by omega : c = 0 ∨ c = 1 ∨ c = 2 ∨ c = 3 ∨ c = 4) with rfl | rfl | rfl | rfl | rfl
  all_goals go_wp2_with fail
  all_goals go_ret
  · exact ⟨v, rfl, by omega, hT2, hO⟩
  · exact ⟨v * 281474976710656 + v, ret_int (k := .u64) (a := (v : Int) * 281474976710656 + v) (by simp), by omega, hT2, hO⟩
  · exact ⟨9223372036854775808 + v, ret_int (k := .u64) (a := 9223372036854775808 + (v : Int)) (by simp), by omega, hT2, hO⟩
  · exact ⟨18446744073709551615 - v % 4, ret_int (k := .u64) (a := 18446744073709551615 - (v : Int) % 4) (by omega), by omega, hT2, hO⟩
  · exact ⟨v % 4, ret_int (k := .u64) (a := (v : Int) % 4) (by simp), by omega, hT2, hO⟩

theorem Ik.only16 {w w' : World} {g k : Nat} {l : List UInt8} (h : Ik w g l) (hO : Only k w w') (hg : g < w.heap.size) (hk : g ≠ k) : Ik w' g l := by
  unfold Ik; rw [hO.block g hg hk]; exact h
theorem Ik.low {w : World} {g : Nat} {l : List UInt8} (h : Ik w g l) : g < w.heap.size := (Array.getElem?_eq_some_iff.1 h).1

theorem wpList_store_ipO {ops : Array Oper} {rest : List Oper} {op : Oper} {a : Act} {w : World} {Q : Exit → Act → World → Prop} {g : Nat} {l0 l : List UInt8} (hgd : op.guard = none) (x y : Operand) (ho : op.op = .store 23 x y)
    (hx : a.eval x = .pointer (some ⟨g, 0, none⟩)) (hy : a.eval y = iv l) (hK : Ik w g l0) (hl0 : l0.length = 16) (hl : l.length = 16)
    (h : ∀ w', Hid (Ry w' g l) → Only g w w' → wpList Tryd.prog ops Q rest (a.put op.dst undef) w') : wpList Tryd.prog ops Q (op :: rest) a w := by
  have hth : w.there g 0 16 := fun j hj => ⟨by rw [Nat.zero_add, hK.cell j (by omega)]; rfl, frozen_of_row w g (0 + j) _ _ hK⟩
  have hsz : ((l.map bv).toArray).size = 16 := by simp [hl]
  refine wpList_store_mid hgd 23 x y ho g 0 (l.map bv).toArray hx (by rw [hy]; rfl) (by rw [hsz]; exact hth) (by rw [hsz]; exact ip_info) (all_oneCell_toArray (fun v hv => by simp at hv; obtain ⟨b, _, rfl⟩ := hv; rfl)) ?_
  refine h _ (hid ?_) (only_cellsP _ _ _ _ (Only.refl g w))
  exact World.rangeAt_setCells_same w g 0 _ (by rw [show ((l.map bv).toArray).toList.length = 16 from by simp [hl]]; exact hth)

/-- what the tape's IP and Group answer -/
def RetIp (g : Nat) (w : World) (e : Ending) (w' : World) : Prop :=
  ∃ l, e = .returned (iv l) ∧ l.length = 16 ∧ TapeAt w' g ∧ Only g w w'

/-- where Group stands -/
structure GS (w wi : World) (g : Nat) (l : List UInt8) : Prop where
  tape : TapeAt wi g
  only : Only g w wi
  arr : Ik wi (w.heap.size + 1) l
  res : Ik wi w.heap.size (zeros 16)
  glt : g < w.heap.size
  len : l.length = 16
theorem GS.call {w wi wj : World} {g : Nat} {l : List UInt8} (s : GS w wi g l) (hT : TapeAt wj g) (hO : Only g wi wj) : GS w wj g l := by
  have h2 := s.glt
  exact ⟨hT, s.only.trans hO, s.arr.only16 hO s.arr.low (by omega), s.res.only16 hO s.res.low (by omega), h2, s.len⟩
theorem only_two' {g b : Nat} {w wi wj : World} (h : Only g w wi) (hO : Only b wi wj) (hb : w.heap.size ≤ b) : Only g w wj :=
  ⟨hO.os.trans h.os, hO.tape.trans h.tape, hO.output.trans h.output, Nat.le_trans h.size hO.size, fun k hk hne => (hO.block k (Nat.lt_of_lt_of_le hk h.size) (by omega)).trans (h.block k hk hne)⟩
theorem GS.set {w wi : World} {g : Nat} {l : List UInt8} (s : GS w wi g l) (j : Nat) (x : UInt8) (v : Value) (hv : v = bv x) : GS w (wi.setCell ⟨w.heap.size + 1, j, none⟩ v) g (l.set j x) := by
  have h2 := s.glt
  have hO := Only.set (w.heap.size + 1) j wi v
  exact ⟨s.tape.only hO (by omega), only_two' s.only hO (Nat.le_succ _), s.arr.set j v x hv, s.res.only16 hO s.res.low (by omega), h2, by rw [List.length_set]; exact s.len⟩
theorem u8_some (v : Nat) (h : v < 256) : ∃ x : UInt8, (.int .u8 (v : Int) : Value) = bv x := ⟨UInt8.ofNat v, by unfold bv; rw [UInt8.toNat_ofNat']; congr 1; omega⟩

set_option maxHeartbeats 4000000 in
set_option maxRecDepth 100000 in
theorem group_any (g : Nat) (w : World) (hT : TapeAt w g) :
    Calls Tryd.prog 59 #[.pointer (some ⟨g, 0, none⟩)] w (RetIp g w) := by
  have hg := hT.lt
  have hIa := Ik.lit w
  have hB1 := (Below.refl w.heap.size w).alloc (Nat.le_refl _) (.cells #[.int .u8 0, .int .u8 0, .int .u8 0, .int .u8 0, .int .u8 0, .int .u8 0, .int .u8 0, .int .u8 0, .int .u8 0, .int .u8 0, .int .u8 0, .int .u8 0, .int .u8 0, .int .u8 0, .int .u8 0, .int .u8 0] 23)
  have hIb : Ik ((w.alloc (.cells #[.int .u8 0, .int .u8 0, .int .u8 0, .int .u8 0, .int .u8 0, .int .u8 0, .int .u8 0, .int .u8 0, .int .u8 0, .int .u8 0, .int .u8 0, .int .u8 0, .int .u8 0, .int .u8 0, .int .u8 0, .int .u8 0] 23)).alloc (.cells #[.int .u8 255, .int .u8 2, .int .u8 0, .int .u8 0, .int .u8 0, .int .u8 0, .int .u8 0, .int .u8 0, .int .u8 0, .int .u8 0, .int .u8 0, .int .u8 0, .int .u8 0, .int .u8 0, .int .u8 0, .int .u8 0] 23)) (w.alloc (.cells #[.int .u8 0, .int .u8 0, .int .u8 0, .int .u8 0, .int .u8 0, .int .u8 0, .int .u8 0, .int .u8 0, .int .u8 0, .int .u8 0, .int .u8 0, .int .u8 0, .int .u8 0, .int .u8 0, .int .u8 0, .int .u8 0] 23)).heap.size [255, 2, 0, 0, 0, 0, 0, 0, 0, 0, 0, 0, 0, 0, 0, 0] := Ik.new (w.alloc (.cells #[.int .u8 0, .int .u8 0, .int .u8 0, .int .u8 0, .int .u8 0, .int .u8 0, .int .u8 0, .int .u8 0, .int .u8 0, .int .u8 0, .int .u8 0, .int .u8 0, .int .u8 0, .int .u8 0, .int .u8 0, .int .u8 0] 23)) [255, 2, 0, 0, 0, 0, 0, 0, 0, 0, 0, 0, 0, 0, 0, 0]
  rw [World.size_alloc] at hIb
  have hx := (Below.refl (w.heap.size + 1) (w.alloc (.cells #[.int .u8 0, .int .u8 0, .int .u8 0, .int .u8 0, .int .u8 0, .int .u8 0, .int .u8 0, .int .u8 0, .int .u8 0, .int .u8 0, .int .u8 0, .int .u8 0, .int .u8 0, .int .u8 0, .int .u8 0, .int .u8 0] 23))).alloc (by simp) (.cells #[.int .u8 255, .int .u8 2, .int .u8 0, .int .u8 0, .int .u8 0, .int .u8 0, .int .u8 0, .int .u8 0, .int .u8 0, .int .u8 0, .int .u8 0, .int .u8 0, .int .u8 0, .int .u8 0, .int .u8 0, .int .u8 0] 23)
  have hIa := hIa.below hx (Nat.lt_succ_self _)
  have hB := hB1.trans (hx.mono (Nat.le_succ _))
  have s : GS w ((w.alloc (.cells #[.int .u8 0, .int .u8 0, .int .u8 0, .int .u8 0, .int .u8 0, .int .u8 0, .int .u8 0, .int .u8 0, .int .u8 0, .int .u8 0, .int .u8 0, .int .u8 0, .int .u8 0, .int .u8 0, .int .u8 0, .int .u8 0] 23)).alloc (.cells #[.int .u8 255, .int .u8 2, .int .u8 0, .int .u8 0, .int .u8 0, .int .u8 0, .int .u8 0, .int .u8 0, .int .u8 0, .int .u8 0, .int .u8 0, .int .u8 0, .int .u8 0, .int .u8 0, .int .u8 0, .int .u8 0] 23)) g [255, 2, 0, 0, 0, 0, 0, 0, 0, 0, 0, 0, 0, 0, 0, 0] := ⟨hT.below hB, Only.ofBelow g hB, hIb, hIa, hg, rfl⟩
  clear hB1 hx hIa hIb hB
  go_enter Tryd.func59, Tryd.ntmps59
  go_wp2_with fail
  generalize (w.alloc _).alloc _ = w2 at *
  with_reducible refine (bool_any g 2 _ s.tape (by omega) (by omega)).mono ?_
  rintro e3 w3 hB3
  obtain ⟨q, rfl, hT3, hO3⟩ := hB3
  have s := s.call hT3 hO3
  clear hT3 hO3
  obtain ⟨L0, hL0⟩ : ∃ L : List UInt8, L = [255, 2, 0, 0, 0, 0, 0, 0, 0, 0, 0, 0, 0, 0, 0, 0] := ⟨_, rfl⟩
  rw [← hL0] at s
  clear hL0
  cases q
  · go_wp2_with fail
    go_loopw [4] (fun i wr => ∃ k : Nat, k ≤ 15 ∧ i = .int .i64 k ∧ ∃ L, GS w wr g L) (fun i _ => (intOf i).toNat)
    case atStart => exact ⟨15, Nat.le_refl _, rfl, _, s⟩
    case round =>
      clear s
      obtain ⟨k, hk, rfl, L, s⟩ := hrel
      go_wp2_with fail
      with_reducible refine (next_any g 15 _ s.tape (by omega) (by omega)).mono ?_
      rintro e5 w5 ⟨v, rfl, hv, hT5, hO5⟩
      replace s := s.call hT5 hO5
      have hw : IntKind.i64.wrap (15 - (v : Int)) = 15 - (v : Int) := by simp [IntKind.wrap, IntKind.bits, IntKind.signed]; omega
      clear hT5 hO5
      by_cases hc : 15 - (v : Int) < (k : Int)
      · go_wp2_with fail
        with_reducible refine (next_any g 256 _ s.tape (by omega) (by omega)).mono ?_
        rintro e6 w6 ⟨u, rfl, hu, hT6, hO6⟩
        replace s := s.call hT6 hO6
        obtain ⟨x, hx⟩ := u8_some u (by omega)
        have hwu : IntKind.u8.wrap (u : Int) = (u : Int) := by simp [IntKind.wrap, IntKind.bits, IntKind.signed]; omega
        have hk16 : (k : Int) < 16 := by omega
        have ck := s.arr.cell k (by rw [s.len]; omega)
        have fk := s.arr.frozen k
        have s2 := s.set k x _ hx
        clear hT6 hO6 hx
        go_wp2_with fail
        go_roundw
        case rel => exact ⟨k - 1, by omega, by congr 1; omega, _, s2⟩
        case measure => simp [intOf]; omega
      · have hR := s.arr.ry
        have hl := s.len
        have hI := s.res
        go_wp2_with (first | ((with_reducible refine wpList_load_ry (op := ⟨some 24, _, _, _, _, _⟩) ?_ (.tmp 3) ?_ ?_ hR hl ?_); (· exact rfl); (· exact rfl); (· exact rfl)) | ((with_reducible refine wpList_store_ipO (op := ⟨none, _, _, _, _, _⟩) ?_ (.tmp 2) (.tmp 24) ?_ ?_ (l := L) ?_ hI (length_zeros 16) hl ?_); (· exact rfl); (· exact rfl); (· exact rfl); (· exact rfl); intro wz hRz hOz))
        exact bodyPost_ret (results_ip rfl rfl hRz.out hl) rfl ⟨L, rfl, hl, s.tape.only hOz (by have := s.glt; omega), only_two' s.only hOz (Nat.le_refl _)⟩
  · go_wp2_with fail
    with_reducible refine (next_any g 256 _ s.tape (by omega) (by omega)).mono ?_
    rintro e4 w4 ⟨u, rfl, hu, hT4, hO4⟩
    replace s := s.call hT4 hO4
    obtain ⟨x, hx⟩ := u8_some u (by omega)
    have hwu : IntKind.u8.wrap (u : Int) = (u : Int) := by simp [IntKind.wrap, IntKind.bits, IntKind.signed]; omega
    have ck := s.arr.cell 1 (by rw [s.len]; omega)
    have fk := s.arr.frozen 1
    have s2 := s.set 1 x _ hx
    clear hT4 hO4 hx
    go_upto_region 4 with (fail)
    clear ck fk s hwu
    generalize World.setCell _ _ _ = w5 at s2 ⊢
    have s := s2
    clear s2
    go_wp2_with fail
    go_loopw [4] (fun i wr => ∃ k : Nat, k ≤ 15 ∧ i = .int .i64 k ∧ ∃ L, GS w wr g L) (fun i _ => (intOf i).toNat)
    case atStart => exact ⟨15, Nat.le_refl _, rfl, _, s⟩
    case round =>
      clear s
      obtain ⟨k, hk, rfl, L, s⟩ := hrel
      go_wp2_with fail
      with_reducible refine (next_any g 15 _ s.tape (by omega) (by omega)).mono ?_
      rintro e5 w5 ⟨v, rfl, hv, hT5, hO5⟩
      replace s := s.call hT5 hO5
      have hw : IntKind.i64.wrap (15 - (v : Int)) = 15 - (v : Int) := by simp [IntKind.wrap, IntKind.bits, IntKind.signed]; omega
      clear hT5 hO5
      by_cases hc : 15 - (v : Int) < (k : Int)
      · go_wp2_with fail
        with_reducible refine (next_any g 256 _ s.tape (by omega) (by omega)).mono ?_
        rintro e6 w6 ⟨u, rfl, hu, hT6, hO6⟩
        replace s := s.call hT6 hO6
        obtain ⟨x, hx⟩ := u8_some u (by omega)
        have hwu : IntKind.u8.wrap (u : Int) = (u : Int) := by simp [IntKind.wrap, IntKind.bits, IntKind.signed]; omega
        have hk16 : (k : Int) < 16 := by omega
        have ck := s.arr.cell k (by rw [s.len]; omega)
        have fk := s.arr.frozen k
        have s2 := s.set k x _ hx
        clear hT6 hO6 hx
        go_wp2_with fail
        go_roundw
        case rel => exact ⟨k - 1, by omega, by congr 1; omega, _, s2⟩
        case measure => simp [intOf]; omega
      · have hR := s.arr.ry
        have hl := s.len
        have hI := s.res
        go_wp2_with (first | ((with_reducible refine wpList_load_ry (op := ⟨some 24, _, _, _, _, _⟩) ?_ (.tmp 3) ?_ ?_ hR hl ?_); (· exact rfl); (· exact rfl); (· exact rfl)) | ((with_reducible refine wpList_store_ipO (op := ⟨none, _, _, _, _, _⟩) ?_ (.tmp 2) (.tmp 24) ?_ ?_ (l := L) ?_ hI (length_zeros 16) hl ?_); (· exact rfl); (· exact rfl); (· exact rfl); (· exact rfl); intro wz hRz hOz))
        exact bodyPost_ret (results_ip rfl rfl hRz.out hl) rfl ⟨L, rfl, hl, s.tape.only hOz (by have := s.glt; omega), only_two' s.only hOz (Nat.le_refl _)⟩


theorem six (w : World) (B : Nat) (h : w.heap[B]? = some (.cells #[.int .u64 2306139568115548160, .int .u64 2306139568115613696, .int .u64 18338657682652659712, .int .u64 18230571291595767808, .int .u64 0, .int .u64 2306139568115613697] 48 (0, 0))) (v : Nat) (hv : v < 6) : ∃ x : Nat, x < 18446744073709551616 ∧ w.cell? ⟨B, v, none⟩ = some (.int .u64 (x : Int)) := by
  rcases (by omega : v = 0 ∨ v = 1 ∨ v = 2 ∨ v = 3 ∨ v = 4 ∨ v = 5) with rfl | rfl | rfl | rfl | rfl | rfl
  · exact ⟨2306139568115548160, by decide, by rw [cell_of_row w B 0 _ _ _ h]; rfl⟩
  · exact ⟨2306139568115613696, by decide, by rw [cell_of_row w B 1 _ _ _ h]; rfl⟩
  · exact ⟨18338657682652659712, by decide, by rw [cell_of_row w B 2 _ _ _ h]; rfl⟩
  · exact ⟨18230571291595767808, by decide, by rw [cell_of_row w B 3 _ _ _ h]; rfl⟩
  · exact ⟨0, by decide, by rw [cell_of_row w B 4 _ _ _ h]; rfl⟩
  · exact ⟨2306139568115613697, by decide, by rw [cell_of_row w B 5 _ _ _ h]; rfl⟩
theorem rvalid_zero (w : World) : Calls Tryd.prog 84 #[.agg #[.int .i64 0, .int .u16 0, .int .u64 0]] w (RetS (.bool true) w) := by
  have hB := (Below.refl w.heap.size w).alloc (Nat.le_refl _) (.cells #[.int .i64 0, .int .u16 0, .int .u64 0] 61)
  go_enter Tryd.func84, Tryd.ntmps84
  go_wp2_with fail
  go_ret
  exact ⟨rfl, hB⟩
theorem rsome_zero (w : World) : Calls Tryd.prog 72 #[.agg #[.int .i64 0, .int .u16 0, .int .u64 0]] w (RetS (.bool false) w) := by
  have hB := (Below.refl w.heap.size w).alloc (Nat.le_refl _) (.cells #[.int .i64 0, .int .u16 0, .int .u64 0] 61)
  go_enter Tryd.func72, Tryd.ntmps72
  have c0 : (w.alloc (.cells #[.int .i64 0, .int .u16 0, .int .u64 0] 61)).cell? ⟨w.heap.size, 0, none⟩ = some (.int .i64 0) := by rw [cell_of_row _ _ 0 _ _ _ (heap_alloc_new w (.cells #[.int .i64 0, .int .u16 0, .int .u64 0] 61))]; rfl
  go_wp2_with fail
  generalize w.alloc _ = w1 at *
  with_reducible refine (rvalid_zero _).mono ?_
  rintro e w2 ⟨rfl, hb⟩
  have c0 := (hb.cell (p := ⟨w.heap.size, 0, none⟩) (by simp only [World.cell?] at c0; split at c0; (rename_i hh; exact (Array.getElem?_eq_some_iff.1 hh).1); cases c0)).trans c0
  go_wp2_with fail
  go_ret
  exact ⟨rfl, hB.trans (hb.mono hB.size)⟩
theorem riid_zero (w : World) : Calls Tryd.prog 57 #[.agg #[.int .i64 0, .int .u16 0, .int .u64 0]] w (RetS (.tuple #[.int .u64 0, .bool false]) w) := by
  have hB := (Below.refl w.heap.size w).alloc (Nat.le_refl _) (.cells #[.int .i64 0, .int .u16 0, .int .u64 0] 61)
  go_enter Tryd.func57, Tryd.ntmps57
  go_wp2_with fail
  generalize w.alloc _ = w1 at *
  with_reducible refine (rsome_zero _).mono ?_
  rintro e w2 ⟨rfl, hb⟩
  go_wp2_with fail
  go_ret2
  exact ⟨rfl, hB.trans (hb.mono hB.size)⟩

set_option maxHeartbeats 8000000 in
set_option maxRecDepth 100000 in
theorem tip_any (g : Nat) (w : World) (hT : TapeAt w g) :
    Calls Tryd.prog 38 #[.pointer (some ⟨g, 0, none⟩), .agg #[.int .i64 0, .int .u16 0, .int .u64 0]] w (RetIp g w) := by
  have hg := hT.lt
  have hx1 := (Below.refl w.heap.size w).alloc (Nat.le_refl _) (.cells #[.int .i64 0, .int .u16 0, .int .u64 0] 61)
  have hIk := Ik.lit (w.alloc (.cells #[.int .i64 0, .int .u16 0, .int .u64 0] 61))
  rw [World.size_alloc] at hIk
  have hx2 := (Below.refl (w.heap.size + 1) (w.alloc (.cells #[.int .i64 0, .int .u16 0, .int .u64 0] 61))).alloc (by simp) (.cells #[.int .u8 0, .int .u8 0, .int .u8 0, .int .u8 0, .int .u8 0, .int .u8 0, .int .u8 0, .int .u8 0, .int .u8 0, .int .u8 0, .int .u8 0, .int .u8 0, .int .u8 0, .int .u8 0, .int .u8 0, .int .u8 0] 23)
  have hr6 := heap_alloc_new ((w.alloc (.cells #[.int .i64 0, .int .u16 0, .int .u64 0] 61)).alloc (.cells #[.int .u8 0, .int .u8 0, .int .u8 0, .int .u8 0, .int .u8 0, .int .u8 0, .int .u8 0, .int .u8 0, .int .u8 0, .int .u8 0, .int .u8 0, .int .u8 0, .int .u8 0, .int .u8 0, .int .u8 0, .int .u8 0] 23)) (.cells #[.int .u64 2306139568115548160, .int .u64 2306139568115613696, .int .u64 18338657682652659712, .int .u64 18230571291595767808, .int .u64 0, .int .u64 2306139568115613697] 48)
  rw [World.size_alloc, World.size_alloc] at hr6
  have hx3 := (Below.refl (w.heap.size + 2) ((w.alloc (.cells #[.int .i64 0, .int .u16 0, .int .u64 0] 61)).alloc (.cells #[.int .u8 0, .int .u8 0, .int .u8 0, .int .u8 0, .int .u8 0, .int .u8 0, .int .u8 0, .int .u8 0, .int .u8 0, .int .u8 0, .int .u8 0, .int .u8 0, .int .u8 0, .int .u8 0, .int .u8 0, .int .u8 0] 23))).alloc (by simp) (.cells #[.int .u64 2306139568115548160, .int .u64 2306139568115613696, .int .u64 18338657682652659712, .int .u64 18230571291595767808, .int .u64 0, .int .u64 2306139568115613697] 48)
  have hB := (hx1.trans (hx2.mono (Nat.le_succ _))).trans (hx3.mono (by omega))
  have hA : (w.alloc (.cells #[.int .i64 0, .int .u16 0, .int .u64 0] 61)).heap[w.heap.size]? = some (.cells #[.int .i64 0, .int .u16 0, .int .u64 0] 61 (0, 0)) := heap_alloc_new w _
  have hA := ((hx3.block w.heap.size (by omega)).trans (hx2.block w.heap.size (by omega))).trans hA
  have hIk := hIk.below hx3 (by omega)
  have hT := hT.below hB
  have hO := Only.ofBelow g hB
  have hsz : (((w.alloc (.cells #[.int .i64 0, .int .u16 0, .int .u64 0] 61)).alloc (.cells #[.int .u8 0, .int .u8 0, .int .u8 0, .int .u8 0, .int .u8 0, .int .u8 0, .int .u8 0, .int .u8 0, .int .u8 0, .int .u8 0, .int .u8 0, .int .u8 0, .int .u8 0, .int .u8 0, .int .u8 0, .int .u8 0] 23)).alloc (.cells #[.int .u64 2306139568115548160, .int .u64 2306139568115613696, .int .u64 18338657682652659712, .int .u64 18230571291595767808, .int .u64 0, .int .u64 2306139568115613697] 48)).heap.size = w.heap.size + 3 := by simp
  clear hx1 hx2 hx3 hB
  go_enter Tryd.func38, Tryd.ntmps38
  go_wp2_with fail
  generalize ((w.alloc _).alloc _).alloc _ = w3 at *
  with_reducible refine (next_any g 6 _ hT (by omega) (by omega)).mono ?_
  rintro e4 w4 ⟨v, rfl, hv, hT4, hO4⟩
  have hv6 : v < 6 := by omega
  have hr6 := (hO4.block _ (by omega) (by omega)).trans hr6
  have hA := (hO4.block w.heap.size (by omega) (by omega)).trans hA
  have hIk := hIk.only16 hO4 (by omega) (by omega)
  replace hO := hO.trans hO4
  have hs4 : w.heap.size + 3 ≤ w4.heap.size := by have := hO4.size; omega
  obtain ⟨x, hx, cx⟩ := six w4 _ hr6 v hv6
  have hvi : (v : Int) < 6 := by omega
  have a0 : w4.cell? ⟨w.heap.size, 0, none⟩ = some (.int .i64 0) := by rw [cell_of_row _ _ 0 _ _ _ hA]; rfl
  have a1 : w4.cell? ⟨w.heap.size, 1, none⟩ = some (.int .u16 0) := by rw [cell_of_row _ _ 1 _ _ _ hA]; rfl
  have a2 : w4.cell? ⟨w.heap.size, 2, none⟩ = some (.int .u64 0) := by rw [cell_of_row _ _ 2 _ _ _ hA]; rfl
  replace hT := hT4
  clear hT4 hO4 hr6 hA hsz
  go_wp2_with fail
  with_reducible refine (riid_zero _).mono ?_
  rintro e5 w5 ⟨rfl, hb⟩
  replace hT := hT.below hb
  have hIk := hIk.below hb hIk.low
  replace hO := hO.trans (Only.ofBelow g hb)
  have hs5 := Nat.le_trans hs4 hb.size
  clear hb cx a0 a1 a2 hs4
  go_wp2_with fail
  with_reducible refine (next_any g 6 _ hT (by omega) (by omega)).mono ?_
  rintro e6 w6 ⟨u, rfl, hu, hT6, hO6⟩
  have hIk := hIk.only16 hO6 hIk.low (by omega)
  replace hO := hO.trans hO6
  have hs6 := Nat.le_trans hs5 hO6.size
  replace hT := hT6
  clear hT6 hO6 hs5
  rcases (by omega : u = 0 ∨ u = 1 ∨ u = 2 ∨ u = 3 ∨ u = 4 ∨ u = 5) with rfl | rfl | rfl | rfl | rfl | rfl
  · go_wp2_with fail
    with_reducible refine (next_any g 65536 _ hT (by omega) (by omega)).mono ?_
    rintro e7 w7 ⟨q, rfl, hq, hT7, hO7⟩
    replace hIk := hIk.only16 hO7 hIk.low (by omega)
    replace hO := hO.trans hO7
    replace hT := hT7
    have hwq : IntKind.u64.wrap (q : Int) = (q : Int) := by rw [IntKind.wrap_u64]; omega
    clear hT7 hO7
    have hol : (beBytes x 8 ++ beBytes (1099478073344 + q) 8).length = 16 := by rw [List.length_append, length_beBytes, length_beBytes]
    have jo : ∀ w, Calls Tryd.prog 48 #[.int .u64 (x : Int), .int .u64 (1099478073344 + (q : Int))] w (RetS (iv (beBytes x 8 ++ beBytes (1099478073344 + q) 8)) w) := fun w => of_any x (1099478073344 + q) hx (by omega) w
    generalize beBytes x 8 ++ beBytes (1099478073344 + q) 8 = LO at *
    go_wp2_with fail
    with_reducible refine (jo _).mono ?_
    rintro e9 w9 ⟨rfl, hb9⟩
    replace hT := hT.below hb9
    replace hO := hO.trans (Only.ofBelow g hb9)
    replace hIk := hIk.below hb9 hIk.low
    go_wp2_with ((with_reducible refine wpList_store_ipO (op := ⟨none, _, _, _, _, _⟩) ?_ (.tmp 4) (.tmp 41) ?_ ?_ (l := LO) ?_ hIk (length_zeros 16) hol ?_); (· exact rfl); (· exact rfl); (· exact rfl); (· exact rfl); intro wz hRz hOz)
    exact bodyPost_ret (results_ip rfl rfl hRz.out hol) rfl ⟨LO, rfl, hol, hT.only hOz (by omega), only_two' hO hOz (by omega)⟩
  · go_wp2_with fail
    with_reducible refine (word_any g _ hT).mono ?_
    rintro e7 w7 ⟨q, rfl, hq, hT7, hO7⟩
    replace hIk := hIk.only16 hO7 hIk.low (by omega)
    replace hO := hO.trans hO7
    replace hT := hT7
    clear hT7 hO7
    have hol : (beBytes x 8 ++ beBytes q 8).length = 16 := by rw [List.length_append, length_beBytes, length_beBytes]
    have jo : ∀ w, Calls Tryd.prog 48 #[.int .u64 (x : Int), .int .u64 (q : Int)] w (RetS (iv (beBytes x 8 ++ beBytes q 8)) w) := fun w => of_any x q hx (by omega) w
    generalize beBytes x 8 ++ beBytes q 8 = LO at *
    go_wp2_with fail
    with_reducible refine (jo _).mono ?_
    rintro e9 w9 ⟨rfl, hb9⟩
    replace hT := hT.below hb9
    replace hO := hO.trans (Only.ofBelow g hb9)
    replace hIk := hIk.below hb9 hIk.low
    go_wp2_with ((with_reducible refine wpList_store_ipO (op := ⟨none, _, _, _, _, _⟩) ?_ (.tmp 4) (.tmp 41) ?_ ?_ (l := LO) ?_ hIk (length_zeros 16) hol ?_); (· exact rfl); (· exact rfl); (· exact rfl); (· exact rfl); intro wz hRz hOz)
    exact bodyPost_ret (results_ip rfl rfl hRz.out hol) rfl ⟨LO, rfl, hol, hT.only hOz (by omega), only_two' hO hOz (by omega)⟩
  · go_wp2_with fail
    with_reducible refine (group_any g _ hT).mono ?_
    rintro e7 w7 ⟨LG, rfl, hlg, hT7, hO7⟩
    replace hIk := hIk.only16 hO7 hIk.low (by omega)
    replace hO := hO.trans hO7
    replace hT := hT7
    clear hT7 hO7
    go_wp2_with ((with_reducible refine wpList_store_ipO (op := ⟨none, _, _, _, _, _⟩) ?_ (.tmp 4) (.tmp 33) ?_ ?_ (l := LG) ?_ hIk (length_zeros 16) hlg ?_); (· exact rfl); (· exact rfl); (· exact rfl); (· exact rfl); intro wz hRz hOz)
    exact bodyPost_ret (results_ip rfl rfl hRz.out hlg) rfl ⟨LG, rfl, hlg, hT.only hOz (by omega), only_two' hO hOz (by omega)⟩
  · go_wp2_with fail
    with_reducible refine (bool_any g 2 _ hT (by omega) (by omega)).mono ?_
    rintro e7 w7 ⟨q, rfl, hT7, hO7⟩
    replace hIk := hIk.only16 hO7 hIk.low (by omega)
    replace hO := hO.trans hO7
    replace hT := hT7
    clear hT7 hO7
    cases q
    · have hol : (beBytes x 8 ++ beBytes 0 8).length = 16 := by rw [List.length_append, length_beBytes, length_beBytes]
      have jo : ∀ w, Calls Tryd.prog 48 #[.int .u64 (x : Int), .int .u64 (0 : Int)] w (RetS (iv (beBytes x 8 ++ beBytes 0 8)) w) := fun w => of_any x 0 hx (by omega) w
      generalize beBytes x 8 ++ beBytes 0 8 = LO at *
      go_wp2_with fail
      with_reducible refine (jo _).mono ?_
      rintro e9 w9 ⟨rfl, hb9⟩
      replace hT := hT.below hb9
      replace hO := hO.trans (Only.ofBelow g hb9)
      replace hIk := hIk.below hb9 hIk.low
      go_wp2_with ((with_reducible refine wpList_store_ipO (op := ⟨none, _, _, _, _, _⟩) ?_ (.tmp 4) (.tmp 41) ?_ ?_ (l := LO) ?_ hIk (length_zeros 16) hol ?_); (· exact rfl); (· exact rfl); (· exact rfl); (· exact rfl); intro wz hRz hOz)
      exact bodyPost_ret (results_ip rfl rfl hRz.out hol) rfl ⟨LO, rfl, hol, hT.only hOz (by omega), only_two' hO hOz (by omega)⟩
    · go_wp2_with ((with_reducible refine wpList_store_ipO (op := ⟨none, _, _, _, _, _⟩) ?_ (.tmp 4) (.tmp 38) ?_ ?_ (l := (zeros 16)) ?_ hIk (length_zeros 16) (length_zeros 16) ?_); (· exact rfl); (· exact rfl); (· exact rfl); (· exact rfl); intro wz hRz hOz)
      exact bodyPost_ret (results_ip rfl rfl hRz.out (length_zeros 16)) rfl ⟨(zeros 16), rfl, (length_zeros 16), hT.only hOz (by omega), only_two' hO hOz (by omega)⟩
  · have hol : (beBytes x 8 ++ beBytes 0 8).length = 16 := by rw [List.length_append, length_beBytes, length_beBytes]
    have jo : ∀ w, Calls Tryd.prog 48 #[.int .u64 (x : Int), .int .u64 (0 : Int)] w (RetS (iv (beBytes x 8 ++ beBytes 0 8)) w) := fun w => of_any x 0 hx (by omega) w
    generalize beBytes x 8 ++ beBytes 0 8 = LO at *
    go_wp2_with fail
    with_reducible refine (jo _).mono ?_
    rintro e9 w9 ⟨rfl, hb9⟩
    replace hT := hT.below hb9
    replace hO := hO.trans (Only.ofBelow g hb9)
    replace hIk := hIk.below hb9 hIk.low
    go_wp2_with ((with_reducible refine wpList_store_ipO (op := ⟨none, _, _, _, _, _⟩) ?_ (.tmp 4) (.tmp 41) ?_ ?_ (l := LO) ?_ hIk (length_zeros 16) hol ?_); (· exact rfl); (· exact rfl); (· exact rfl); (· exact rfl); intro wz hRz hOz)
    exact bodyPost_ret (results_ip rfl rfl hRz.out hol) rfl ⟨LO, rfl, hol, hT.only hOz (by omega), only_two' hO hOz (by omega)⟩
  · have hol : (beBytes x 8 ++ beBytes 0 8).length = 16 := by rw [List.length_append, length_beBytes, length_beBytes]
    have jo : ∀ w, Calls Tryd.prog 48 #[.int .u64 (x : Int), .int .u64 (0 : Int)] w (RetS (iv (beBytes x 8 ++ beBytes 0 8)) w) := fun w => of_any x 0 hx (by omega) w
    generalize beBytes x 8 ++ beBytes 0 8 = LO at *
    go_wp2_with fail
    with_reducible refine (jo _).mono ?_
    rintro e9 w9 ⟨rfl, hb9⟩
    replace hT := hT.below hb9
    replace hO := hO.trans (Only.ofBelow g hb9)
    replace hIk := hIk.below hb9 hIk.low
    go_wp2_with ((with_reducible refine wpList_store_ipO (op := ⟨none, _, _, _, _, _⟩) ?_ (.tmp 4) (.tmp 41) ?_ ?_ (l := LO) ?_ hIk (length_zeros 16) hol ?_); (· exact rfl); (· exact rfl); (· exact rfl); (· exact rfl); intro wz hRz hOz)
    exact bodyPost_ret (results_ip rfl rfl hRz.out hol) rfl ⟨LO, rfl, hol, hT.only hOz (by omega), only_two' hO hOz (by omega)⟩


theorem parse_back (l : List UInt8) (hl : l.length = 16) (w : World) (G : GL w) :
    Calls Tryd.prog 10 #[.string ⟨(fmtIP l).toArray⟩] w (RetS (.tuple #[iv l, .bool true]) w) := by
  have := length_fmtIP l hl
  refine (parse_ip ⟨(fmtIP l).toArray⟩ w (by simp [ByteArray.size]; omega) G).mono ?_
  rintro e w' ⟨h, hb⟩
  rw [parse_fmt l hl] at h
  rcases h with ⟨l', h1, _, rfl⟩ | ⟨h1, _⟩
  · injection h1 with h1
    subst h1
    exact ⟨rfl, hb⟩
  · cases h1
theorem fill_twoI (f : Nat → Value) (l m : List UInt8) (hl : l.length = 16) (hm : m.length = 16) :
    Instr.fill (fun i => some (i * 16, 16)) ((Array.range (2 * 16)).map f) [(0, iv l), (1, iv m)] = some (l.map bv ++ m.map bv).toArray := by
  have c1 : (iv l).cells = (l.map bv).toArray := rfl
  have c2 : (iv m).cells = (m.map bv).toArray := rfl
  have h := Great.fill_whole (s := 16) (by decide) [iv l, iv m] ((Array.range (2 * 16)).map f) (by
    intro v hv
    rcases List.mem_cons.1 hv with rfl | hv
    · rw [c1]; simp [hl]
    · rcases List.mem_cons.1 hv with rfl | hv
      · rw [c2]; simp [hm]
      · cases hv) (by simp)
  simpa [c1, c2] using h
theorem step_build_twoI {ops : Array Oper} {o : Oper} {a : Act} {w : World} {K : Act → World → Prop} {Q : Exit → Act → World → Prop} {E : Prop} (hgd : o.guard = none) (x y : Operand) (ho : o.op = .buildSlice 62 2 #[(0, x), (1, y)])
    (l m : List UInt8) (hx : a.eval x = iv l) (hy : a.eval y = iv m) (hl : l.length = 16) (hm : m.length = 16)
    (h : K (a.put o.dst (.slice (some ⟨w.heap.size, 0, none⟩) 2 2)) (w.alloc (.cells (l.map bv ++ m.map bv).toArray 23))) :
    if Region.wanted o (yielded ops a.tmps) = true then Oper.wp Tryd.prog o a w K Q else E := by
  rw [if_pos (by simp [Region.wanted, hgd])]
  have hsz : (Tryd.prog.info? 23).map (·.size) = some 16 := ip_info
  have hz : ((Tryd.prog.info? 23).bind (·.zero)).isSome = true := by kernel_rfl
  cases hie : Tryd.prog.info? 23 with
  | none => rw [hie] at hsz; cases hsz
  | some ie =>
    simp only [hie, Option.map_some, Option.some.injEq, Option.bind_some] at hsz hz
    obtain ⟨z, hzz⟩ := Option.isSome_iff_exists.1 hz
    refine wp_buildSlice 62 23 2 #[(0, x), (1, y)] ho _ ie z Tryd.underlying62 hie hzz (by rw [hsz]; decide) (by rw [hsz]; decide) ?_ h
    rw [hsz]
    simp only [List.map_toArray, List.map_cons, List.map_nil, hx, hy]
    exact fill_twoI _ l m hl hm
theorem two_rangeI {w : World} {g : Nat} {l l2 : List UInt8} (h : w.heap[g]? = some (.cells (l.map bv ++ l2.map bv).toArray 23 (0, 0))) (hl : l.length = 16) : w.rangeAt g 0 (l.map bv) ∧ w.rangeAt g 16 (l2.map bv) := by
  have hln : (l.map bv).length = 16 := by rw [List.length_map, hl]
  constructor
  · intro j v hj
    have hj17 := (List.getElem?_eq_some_iff.1 hj).1
    rw [Nat.zero_add, cell_of_row w g j _ _ _ h]
    rw [List.getElem?_toArray, List.getElem?_append_left hj17]; exact hj
  · intro j v hj
    rw [cell_of_row w g (16 + j) _ _ _ h]
    rw [List.getElem?_toArray, List.getElem?_append_right (by omega), hln]
    rw [show 16 + j - 16 = j from by omega]; exact hj
theorem wpList_load_ip_at {ops : Array Oper} {rest : List Oper} {op : Oper} {a : Act} {w : World} {Q : Exit → Act → World → Prop} {l : List UInt8} (hgd : op.guard = none) (x : Operand) (ho : op.op = .load 23 x) (g o : Nat)
    (hx : a.eval x = .pointer (some ⟨g, o, none⟩)) (hK : w.rangeAt g o (l.map bv)) (hl : l.length = 16)
    (h : wpList Tryd.prog ops Q rest (a.put op.dst (iv l)) w) : wpList Tryd.prog ops Q (op :: rest) a w :=
  wpList_load_mid hgd 23 x ho g o hx (l.map bv) _ hK Tryd.underlying23 rfl (by rw [List.length_map, hl]; exact ip_info) h
theorem wpAnyH_ip_at {ops : Array Oper} {Q : Exit → Act → World → Prop} {S : World → Prop} {i : Nat} {oi : Oper} {fuel : Nat} {listed : Array Bool} {a : Act} {w : World} {g o : Nat} {l : List UInt8} (hi : ops[i]? = some oi)
    (hs : Region.noSelect ops = true) (hf : Region.free .any ops listed i = true) (hr : (Region.ready .any ops listed).contains i = true)
    (hQ : ∀ c a w, Q (.panic c) (a.put oi.dst (iv l)) w → Q (.panic c) a w) (hw : Region.wanted oi (yielded ops a.tmps) = true) (x : Operand) (ho : oi.op = .load 23 x) (hx : a.eval x = .pointer (some ⟨g, o, none⟩))
    (hl : l.length = 16) (hR : ∀ w, S w → w.rangeAt g o (l.map bv)) (hS : S w)
    (h : wpAnyH Tryd.prog .any ops Q S fuel (listed.setIfInBounds i true) (a.put oi.dst (iv l)) w) : wpAnyH Tryd.prog .any ops Q S (fuel + 1) listed a w :=
  wpAnyH_take hi hs hf hr hQ (yieldsIf_load_mid hw 23 x ho g o hx (l.map bv) _ hR Tryd.underlying23 rfl (by rw [List.length_map, hl]; exact ip_info)) hS h
theorem ip_neqB (l m : List UInt8) (hl : l.length = 16) (hm : m.length = 16) (w : World) :
    (binOp .neq 23 (iv l) (iv m)).run Tryd.prog w = .ok (.bool (!(l == m))) w := by
  have h := ip_equal l m hl hm w
  unfold iv at h ⊢
  simp [binOp, h]
set_option maxHeartbeats 16000000 in
set_option maxRecDepth 100000 in
theorem aback_walk (a : List UInt8) (ta : Option Addr) (tlen tcap : Nat) (bits : Int) (w : World) (ha : a.length = 16) (hI : IsI w ta tlen tcap) (hbi : I64 bits) (G0 : GL w) :
    Calls Tryd.prog 6 #[iv a, .slice ta tlen tcap, .int .i64 bits] w (RetS (.bool true) w) := by
  have hm0 := Int.emod_nonneg bits (show (129 : Int) ≠ 0 by omega)
  have hm1 := Int.emod_lt_of_pos bits (show (0 : Int) < 129 by omega)
  have jM := fun w => mod_any bits 129 w (by omega) (by omega) hbi
  generalize bits % 129 = N at *
  obtain ⟨N, rfl⟩ := Int.eq_ofNat_of_zero_le hm0
  have hN8 : N ≤ 128 := by omega
  have hNi : I64 (N : Int) := by unfold I64; omega
  clear hm0 hm1
  have hRa := (Ik.new w a).ry
  have hB := (Below.refl w.heap.size w).alloc (Nat.le_refl _) (.cells (row a) 23)
  have hI := hI.below hB
  rw [iv]
  go_enter Tryd.func6, Tryd.ntmps6
  go_upto_region 1 with (fail)
  generalize w.alloc _ = w1 at *
  refine wp_region_held_drew (S := fun w' => Below w1.heap.size w1 w') (by kernel_rfl) (below_drewN (Below.refl _ _) 1) (fun hHeld => ?_)
  refine wpAnyH_ip (g := w.heap.size) (l := a) (i := 0) (oi := ⟨some 14, _, _, _, _, _⟩) rfl (by kernel_rfl) (by kernel_rfl) (by kernel_rfl) (fun _ _ _ h => h) (by rfl) (.tmp 3) rfl rfl ha (fun _ h => hRa.below h (hRa.lt ha)) hHeld ?_
  try simp only [Act.put, List.setIfInBounds_toArray, List.set_cons_zero, List.set_cons_succ]
  refine wpAnyH_take (i := 1) (oi := ⟨some 15, _, _, _, _, _⟩) (v := ?_) rfl (by kernel_rfl) (by kernel_rfl) (by kernel_rfl) (fun _ _ _ h => h) (Or.inl ⟨by rfl, ?_⟩) hHeld ?_
  rotate_left
  · intro w hSw; go_simp; try with_reducible rfl
  try simp only [Act.put, List.setIfInBounds_toArray, List.set_cons_zero, List.set_cons_succ]
  refine wpAnyH_take (i := 3) (oi := ⟨some 17, _, _, _, _, _⟩) (v := ?_) rfl (by kernel_rfl) (by kernel_rfl) (by kernel_rfl) (fun _ _ _ h => h) (Or.inl ⟨by rfl, ?_⟩) hHeld ?_
  rotate_left
  · intro w hSw; go_simp; try with_reducible rfl
  try simp only [Act.put, List.setIfInBounds_toArray, List.set_cons_zero, List.set_cons_succ]
  refine wpAnyH_ready (rs := [2]) (by kernel_rfl) (by simp) ?_
  refine AllReadyH.cons (o := ⟨some 16, _, _, _, _, _⟩) rfl (fun K hK => ?_) AllReadyH.nil
  go_simp
  with_reducible refine (new_any ta tlen tcap _ (hI.below hHeld)).mono ?_
  rintro e2 w2 ⟨g, rfl, hg, hT2, hb2⟩
  have hs2 := hHeld.size
  have hB2 := hHeld.trans (hb2.mono hHeld.size)
  have hg1 := Nat.le_trans hs2 hg
  go_wp2_with fail
  clear hHeld
  refine hK.out _ _ (hB2) (fun hHeld => ?_)
  clear hK K
  try simp only [Act.put, List.setIfInBounds_toArray, List.set_cons_zero, List.set_cons_succ]
  refine wpAnyH_ready (rs := [4]) (by kernel_rfl) (by simp) ?_
  refine AllReadyH.cons (o := ⟨some 18, _, _, _, _, _⟩) rfl (fun K hK => ?_) AllReadyH.nil
  go_simp
  with_reducible refine (tip_any g _ hT2).mono ?_
  rintro e4 w4 ⟨b, rfl, hb16, hT4, hO4⟩
  have hB4 := hB2.trans (hO4.below hg1 hB2.size)
  go_wp2_with fail
  clear hHeld
  refine hK.out _ _ (hB4) (fun hHeld => ?_)
  clear hK K
  try simp only [Act.put, List.setIfInBounds_toArray, List.set_cons_zero, List.set_cons_succ]
  refine wpAnyH_ready (rs := [5]) (by kernel_rfl) (by simp) ?_
  refine AllReadyH.cons (o := ⟨some 19, _, _, _, _, _⟩) rfl (fun K hK => ?_) AllReadyH.nil
  refine step_build_twoI rfl (.tmp 14) (.tmp 18) rfl a b rfl rfl ha hb16 ?_
  have hcl := heap_alloc_new w4 (.cells (a.map bv ++ b.map bv).toArray 23)
  have hB5 := hB4.alloc hB4.size (.cells (a.map bv ++ b.map bv).toArray 23)
  have hs5 : (w4.alloc (.cells (a.map bv ++ b.map bv).toArray 23)).heap.size = w4.heap.size + 1 := by simp
  clear hHeld
  refine hK.out _ _ (hB5) (fun hHeld => ?_)
  clear hK K
  try simp only [Act.put, List.setIfInBounds_toArray, List.set_cons_zero, List.set_cons_succ]
  refine wpAnyH_take (i := 6) (oi := ⟨some 7, _, _, _, _, _⟩) (v := ?_) rfl (by kernel_rfl) (by kernel_rfl) (by kernel_rfl) (fun _ _ _ h => h) (Or.inl ⟨by rfl, ?_⟩) hHeld ?_
  rotate_left
  · intro w hSw; go_simp; try with_reducible rfl
  try simp only [Act.put, List.setIfInBounds_toArray, List.set_cons_zero, List.set_cons_succ]
  refine wpAnyH_done (by kernel_rfl) ?_ _
  clear hHeld
  have hr0 := hid (two_rangeI hcl ha).1
  have hr1 := hid (two_rangeI hcl ha).2
  have hB7 := hB.trans (hB5.mono hB.size)
  have hblt : w4.heap.size < (w4.alloc (.cells (a.map bv ++ b.map bv).toArray 23)).heap.size := by omega
  clear hcl hB5 hB4 hT2 hT4 hO4 hb2 hs5 hs2 hg1 hB2 hI hRa hg
  generalize w4.alloc _ = w7 at *
  generalize w4.heap.size = bl at *
  go_wp2_with fail
  clear hB
  go_loopw [8] (fun i wr => (i = .int .i64 0 ∨ i = .int .i64 1 ∨ i = .int .i64 2) ∧ Below w7.heap.size w7 wr) (fun i _ => 3 - (intOf i).toNat)
  case atStart => exact ⟨Or.inl rfl, Below.refl _ _⟩
  case round =>
    obtain ⟨hi7, hBr⟩ := hrel
    rcases hi7 with rfl | rfl | rfl
    · have hrg : wr.rangeAt bl 0 (a.map bv) := fun j v hj => by rw [hBr.cell (p := ⟨bl, 0 + j, none⟩) hblt]; exact hr0.out j v hj
      have hBw := hB7.trans (hBr.mono hB7.size)
      have jF := fun w G => format_ip a ha w G
      have jP := fun w G => parse_back a ha w G
      have jK := fun w => mask_any a ha N hNi w
      rw [clamp_nat N hN8] at jK
      have hml := length_mL a N
      have hcv := con_sub a ha N N hN8 (Nat.le_refl _)
      have jFP := fun w G => format_prefix (mL a N) hml N hNi hcv w G
      have jPP := fun w G => parse_prefix (mL a N) hml N hNi hcv w G
      generalize fmtIP a = TA at *
      generalize mL a N = ML at *
      generalize fmtP ML N = TP at *
      clear hcv
      go_wp2_with ((with_reducible refine wpList_load_ip_at (op := ⟨some 28, _, _, _, _, _⟩) ?_ (.tmp 27) ?_ bl 0 ?_ hrg ha ?_); (· exact rfl); (· exact rfl); (· exact rfl))
      with_reducible refine (jF _ (G0.on hBw)).mono ?_
      rintro e wa ⟨rfl, hb⟩
      have hBr := hBr.trans (hb.mono hBr.size)
      have hBw := hBw.trans (hb.mono hBw.size)
      clear hb jF hrg
      go_wp2_with fail
      with_reducible refine (jP _ (G0.on hBw)).mono ?_
      rintro e wb ⟨rfl, hb⟩
      have hBr := hBr.trans (hb.mono hBr.size)
      have hBw := hBw.trans (hb.mono hBw.size)
      clear hb jP
      have hxz := (Below.refl wb.heap.size wb).alloc (Nat.le_refl _) (.cells #[.int .u8 0, .int .u8 0, .int .u8 0, .int .u8 0, .int .u8 0, .int .u8 0, .int .u8 0, .int .u8 0, .int .u8 0, .int .u8 0, .int .u8 0, .int .u8 0, .int .u8 0, .int .u8 0, .int .u8 0, .int .u8 0] 23)
      have hIk := Ik.lit wb
      go_upto_region 6 with ((with_reducible refine wpList_store_ip (op := ⟨none, _, _, _, _, _⟩) ?_ (.tmp 9) (.tmp 31) ?_ ?_ (l := a) ?_ hIk (length_zeros 16) ha wb.heap.size wb (by exact hxz) (Nat.le_refl _) ?_); (· exact rfl); (· exact rfl); (· exact rfl); (· exact rfl); intro w6 hR9 hb6)
      have hR9 := hR9.out
      have hBr := hBr.trans (hb6.mono hBr.size)
      have hBw := hBw.trans (hb6.mono hBw.size)
      have hrg : w6.rangeAt bl 0 (a.map bv) := fun j v hj => by rw [hBr.cell (p := ⟨bl, 0 + j, none⟩) hblt]; exact hr0.out j v hj
      have hbl6 := Nat.lt_of_lt_of_le hblt hBr.size
      have h9 := hR9.lt ha
      clear hxz hIk hb6
      generalize wb.heap.size = b9 at *
      go_cut [11] (fun p wc => ∃ gp, p = .pointer (some ⟨gp, 0, none⟩) ∧ Pr wc gp ML N ∧ Below w6.heap.size w6 wc)
      case first =>
        refine wp_region_held_drew (S := fun w' => Below w6.heap.size w6 w') (by kernel_rfl) (below_drewN (Below.refl _ _) 1) (fun hHeld => ?_)
        generalize w6.drew = w6d at *
        refine wpAnyH_take (i := 0) (oi := ⟨some 33, _, _, _, _, _⟩) (v := ?_) rfl (by kernel_rfl) (by kernel_rfl) (by kernel_rfl) (fun _ _ _ h => h) (Or.inl ⟨by rfl, ?_⟩) hHeld ?_
        rotate_left
        · intro w hSw; go_simp; try with_reducible rfl
        try simp only [Act.put, List.setIfInBounds_toArray, List.set_cons_zero, List.set_cons_succ]
        refine wpAnyH_take (i := 1) (oi := ⟨some 34, _, _, _, _, _⟩) (v := ?_) rfl (by kernel_rfl) (by kernel_rfl) (by kernel_rfl) (fun _ _ _ h => h) (Or.inl ⟨by rfl, ?_⟩) hHeld ?_
        rotate_left
        · intro w hSw; go_simp; try with_reducible rfl
        try simp only [Act.put, List.setIfInBounds_toArray, List.set_cons_zero, List.set_cons_succ]
        refine wpAnyH_take (i := 2) (oi := ⟨some 35, _, _, _, _, _⟩) (v := ?_) rfl (by kernel_rfl) (by kernel_rfl) (by kernel_rfl) (fun _ _ _ h => h) (Or.inl ⟨by rfl, ?_⟩) hHeld ?_
        rotate_left
        · intro w hSw; go_simp; try with_reducible rfl
        try simp only [Act.put, List.setIfInBounds_toArray, List.set_cons_zero, List.set_cons_succ]
        refine wpAnyH_ip_at (g := bl) (o := 0) (l := a) (i := 3) (oi := ⟨some 36, _, _, _, _, _⟩) rfl (by kernel_rfl) (by kernel_rfl) (by kernel_rfl) (fun _ _ _ h => h) (by rfl) (.tmp 35) rfl rfl ha (fun _ h => fun j v hj => by rw [h.cell (p := ⟨bl, 0 + j, none⟩) hbl6]; exact hrg j v hj) hHeld ?_
        try simp only [Act.put, List.setIfInBounds_toArray, List.set_cons_zero, List.set_cons_succ]
        refine wpAnyH_take (i := 4) (oi := ⟨some 37, _, _, _, _, _⟩) (v := ?_) rfl (by kernel_rfl) (by kernel_rfl) (by kernel_rfl) (fun _ _ _ h => h) (Or.inl ⟨by rfl, ?_⟩) hHeld ?_
        rotate_left
        · intro w hSw; go_simp; try with_reducible rfl
        try simp only [Act.put, List.setIfInBounds_toArray, List.set_cons_zero, List.set_cons_succ]
        refine wpAnyH_ready (rs := [5, 7]) (by kernel_rfl) (by simp) ?_
        refine (AllReadyH.cons (o := ⟨some 38, _, _, _, _, _⟩) rfl ?_ (AllReadyH.cons (o := ⟨some 11, _, _, _, _, _⟩) rfl ?_ AllReadyH.nil))
        · intro K hK
          go_simp
          with_reducible refine (jM _).mono ?_
          rintro e u5 ⟨rfl, rfl⟩
          go_wp2_with fail
          refine hK.out _ _ hHeld (fun hHeld => ?_)
          clear hK K
          try simp only [Act.put, List.setIfInBounds_toArray, List.set_cons_zero, List.set_cons_succ]
          refine wpAnyH_ready (rs := [6, 7]) (by kernel_rfl) (by simp) ?_
          refine (AllReadyH.cons (o := ⟨some 39, _, _, _, _, _⟩) rfl ?_ (AllReadyH.cons (o := ⟨some 11, _, _, _, _, _⟩) rfl ?_ AllReadyH.nil))
          · intro K hK
            go_simp
            with_reducible refine (jK _).mono ?_
            rintro e u6 ⟨rfl, hbx⟩
            have hH6 := hHeld.trans (hbx.mono hHeld.size)
            clear hbx
            go_wp2_with fail
            clear hHeld
            refine hK.out _ _ hH6 (fun hHeld => ?_)
            clear hK K hH6
            try simp only [Act.put, List.setIfInBounds_toArray, List.set_cons_zero, List.set_cons_succ]
            refine wpAnyH_ready (rs := [7]) (by kernel_rfl) (by simp) ?_
            refine (AllReadyH.cons (o := ⟨some 11, _, _, _, _, _⟩) rfl ?_ AllReadyH.nil)
            · intro K hK
              go_simp
              have hKp := Pk.zero u6
              have hH7 := hHeld.alloc hHeld.size (.cells #[.int .u8 0, .int .u8 0, .int .u8 0, .int .u8 0, .int .u8 0, .int .u8 0, .int .u8 0, .int .u8 0, .int .u8 0, .int .u8 0, .int .u8 0, .int .u8 0, .int .u8 0, .int .u8 0, .int .u8 0, .int .u8 0, .int .i64 0] 35)
              have hgz := hHeld.size
              clear hHeld
              refine hK.out _ _ hH7 (fun hHeld => ?_)
              clear hK K hH7
              try simp only [Act.put, List.setIfInBounds_toArray, List.set_cons_zero, List.set_cons_succ]
              generalize u6.alloc _ = u7 at *
              generalize hgd : u6.heap.size = gp at *
              refine wpAnyH_ready (rs := [8]) (by kernel_rfl) (by simp) ?_
              refine (AllReadyH.cons (o := ⟨none, _, _, _, _, _⟩) rfl ?_ AllReadyH.nil)
              · intro K hK
                refine step_store_pfx rfl (.tmp 11) (.tmp 39) rfl rfl rfl hKp (length_zeros 16) hml ?_
                intro w8 hPr hO8
                have hPr := hPr.out
                have hH8 := hHeld.trans (hO8.below hgz hHeld.size)
                clear hHeld
                refine hK.out _ _ hH8 (fun hHeld => ?_)
                clear hK K hH8
                try simp only [Act.put, List.setIfInBounds_toArray, List.set_cons_zero, List.set_cons_succ]
                refine wpAnyH_done (by kernel_rfl) ?_ _
                go_wp2_with fail
                go_meet
                exact ⟨_, rfl, hPr, hHeld⟩
          · intro K hK
            go_simp
            have hKp := Pk.zero w6d
            have hH7 := hHeld.alloc hHeld.size (.cells #[.int .u8 0, .int .u8 0, .int .u8 0, .int .u8 0, .int .u8 0, .int .u8 0, .int .u8 0, .int .u8 0, .int .u8 0, .int .u8 0, .int .u8 0, .int .u8 0, .int .u8 0, .int .u8 0, .int .u8 0, .int .u8 0, .int .i64 0] 35)
            have hgz := hHeld.size
            clear hHeld
            refine hK.out _ _ hH7 (fun hHeld => ?_)
            clear hK K hH7
            try simp only [Act.put, List.setIfInBounds_toArray, List.set_cons_zero, List.set_cons_succ]
            generalize w6d.alloc _ = u7 at *
            generalize hgd : w6d.heap.size = gp at *
            refine wpAnyH_ready (rs := [6]) (by kernel_rfl) (by simp) ?_
            refine (AllReadyH.cons (o := ⟨some 39, _, _, _, _, _⟩) rfl ?_ AllReadyH.nil)
            · intro K hK
              go_simp
              with_reducible refine (jK _).mono ?_
              rintro e u6 ⟨rfl, hbx⟩
              have hH6 := hHeld.trans (hbx.mono hHeld.size)
              have hKp := hKp.below hbx hKp.lt
              clear hbx
              go_wp2_with fail
              clear hHeld
              refine hK.out _ _ hH6 (fun hHeld => ?_)
              clear hK K hH6
              try simp only [Act.put, List.setIfInBounds_toArray, List.set_cons_zero, List.set_cons_succ]
              refine wpAnyH_ready (rs := [8]) (by kernel_rfl) (by simp) ?_
              refine (AllReadyH.cons (o := ⟨none, _, _, _, _, _⟩) rfl ?_ AllReadyH.nil)
              · intro K hK
                refine step_store_pfx rfl (.tmp 11) (.tmp 39) rfl rfl rfl hKp (length_zeros 16) hml ?_
                intro w8 hPr hO8
                have hPr := hPr.out
                have hH8 := hHeld.trans (hO8.below hgz hHeld.size)
                clear hHeld
                refine hK.out _ _ hH8 (fun hHeld => ?_)
                clear hK K hH8
                try simp only [Act.put, List.setIfInBounds_toArray, List.set_cons_zero, List.set_cons_succ]
                refine wpAnyH_done (by kernel_rfl) ?_ _
                go_wp2_with fail
                go_meet
                exact ⟨_, rfl, hPr, hHeld⟩
        · intro K hK
          go_simp
          have hKp := Pk.zero w6d
          have hH7 := hHeld.alloc hHeld.size (.cells #[.int .u8 0, .int .u8 0, .int .u8 0, .int .u8 0, .int .u8 0, .int .u8 0, .int .u8 0, .int .u8 0, .int .u8 0, .int .u8 0, .int .u8 0, .int .u8 0, .int .u8 0, .int .u8 0, .int .u8 0, .int .u8 0, .int .i64 0] 35)
          have hgz := hHeld.size
          clear hHeld
          refine hK.out _ _ hH7 (fun hHeld => ?_)
          clear hK K hH7
          try simp only [Act.put, List.setIfInBounds_toArray, List.set_cons_zero, List.set_cons_succ]
          generalize w6d.alloc _ = u7 at *
          generalize hgd : w6d.heap.size = gp at *
          refine wpAnyH_ready (rs := [5]) (by kernel_rfl) (by simp) ?_
          refine (AllReadyH.cons (o := ⟨some 38, _, _, _, _, _⟩) rfl ?_ AllReadyH.nil)
          · intro K hK
            go_simp
            with_reducible refine (jM _).mono ?_
            rintro e u5 ⟨rfl, rfl⟩
            go_wp2_with fail
            refine hK.out _ _ hHeld (fun hHeld => ?_)
            clear hK K
            try simp only [Act.put, List.setIfInBounds_toArray, List.set_cons_zero, List.set_cons_succ]
            refine wpAnyH_ready (rs := [6]) (by kernel_rfl) (by simp) ?_
            refine (AllReadyH.cons (o := ⟨some 39, _, _, _, _, _⟩) rfl ?_ AllReadyH.nil)
            · intro K hK
              go_simp
              with_reducible refine (jK _).mono ?_
              rintro e u6 ⟨rfl, hbx⟩
              have hH6 := hHeld.trans (hbx.mono hHeld.size)
              have hKp := hKp.below hbx hKp.lt
              clear hbx
              go_wp2_with fail
              clear hHeld
              refine hK.out _ _ hH6 (fun hHeld => ?_)
              clear hK K hH6
              try simp only [Act.put, List.setIfInBounds_toArray, List.set_cons_zero, List.set_cons_succ]
              refine wpAnyH_ready (rs := [8]) (by kernel_rfl) (by simp) ?_
              refine (AllReadyH.cons (o := ⟨none, _, _, _, _, _⟩) rfl ?_ AllReadyH.nil)
              · intro K hK
                refine step_store_pfx rfl (.tmp 11) (.tmp 39) rfl rfl rfl hKp (length_zeros 16) hml ?_
                intro w8 hPr hO8
                have hPr := hPr.out
                have hH8 := hHeld.trans (hO8.below hgz hHeld.size)
                clear hHeld
                refine hK.out _ _ hH8 (fun hHeld => ?_)
                clear hK K hH8
                try simp only [Act.put, List.setIfInBounds_toArray, List.set_cons_zero, List.set_cons_succ]
                refine wpAnyH_done (by kernel_rfl) ?_ _
                go_wp2_with fail
                go_meet
                exact ⟨_, rfl, hPr, hHeld⟩
      case rest =>
        rename World => wq
        obtain ⟨gp, rfl, hPr, hbq⟩ := hcut
        have hR9 := hR9.below hbq h9
        have hBr := hBr.trans (hbq.mono hBr.size)
        have hBw := hBw.trans (hbq.mono hBw.size)
        clear hbq hrg hbl6
        go_wp2_with ((with_reducible refine wpList_load_pfx (op := ⟨some 41, _, _, _, _, _⟩) ?_ (.tmp 11) ?_ ?_ hPr hml ?_); (· exact rfl); (· exact rfl); (· exact rfl))
        with_reducible refine (jFP _ (G0.on hBw)).mono ?_
        rintro e wc ⟨rfl, hb⟩
        have hPr := hPr.below hb (hPr.lt hml)
        have hR9 := hR9.below hb (hR9.lt ha)
        have hBr := hBr.trans (hb.mono hBr.size)
        have hBw := hBw.trans (hb.mono hBw.size)
        clear hb jFP
        go_wp2_with fail
        with_reducible refine (jPP _ (G0.on hBw)).mono ?_
        rintro e wd ⟨rfl, hb⟩
        have hPr := hPr.below hb (hPr.lt hml)
        have hR9 := hR9.below hb (hR9.lt ha)
        have hBr := hBr.trans (hb.mono hBr.size)
        have hBw := hBw.trans (hb.mono hBw.size)
        clear hb jPP
        have hxp := (Below.refl wd.heap.size wd).alloc (Nat.le_refl _) (.cells #[.int .u8 0, .int .u8 0, .int .u8 0, .int .u8 0, .int .u8 0, .int .u8 0, .int .u8 0, .int .u8 0, .int .u8 0, .int .u8 0, .int .u8 0, .int .u8 0, .int .u8 0, .int .u8 0, .int .u8 0, .int .u8 0, .int .i64 0] 35)
        have hKn := Pk.zero wd
        go_upto_region 8 with ((with_reducible refine wpList_store_pfx (op := ⟨none, _, _, _, _, _⟩) ?_ (.tmp 12) (.tmp 44) ?_ ?_ (l := ML) (n := N) ?_ hKn (length_zeros 16) hml wd.heap.size wd (by exact hxp) (Nat.le_refl _) ?_); (· exact rfl); (· exact rfl); (· exact rfl); (· exact rfl); intro wz hP12 hbz)
        have hP12 := hP12.out
        have hPr := hPr.below hbz (hPr.lt hml)
        have hR9 := hR9.below hbz (hR9.lt ha)
        have hBr := hBr.trans (hbz.mono hBr.size)
        have hBw := hBw.trans (hbz.mono hBw.size)
        have hrz : wz.rangeAt bl 0 (a.map bv) := fun j v hj => by rw [hBr.cell (p := ⟨bl, 0 + j, none⟩) hblt]; exact hr0.out j v hj
        have hblz := Nat.lt_of_lt_of_le hblt hBr.size
        clear hxp hKn hbz
        generalize wd.heap.size = b12 at *
        refine wp_region_held_drew (S := fun w' => Below wz.heap.size wz w') (by kernel_rfl) (below_drewN (Below.refl _ _) 1) (fun hHeld => ?_)
        refine wpAnyH_take (i := 0) (oi := ⟨some 46, _, _, _, _, _⟩) (v := ?_) rfl (by kernel_rfl) (by kernel_rfl) (by kernel_rfl) (fun _ _ _ h => h) (Or.inl ⟨by rfl, ?_⟩) hHeld ?_
        rotate_left
        · intro w hSw; go_simp; first | with_reducible rfl | (simp [ip_guarded, ip_neqB _ _ ha ha, pfx_guarded, pfx_neq _ _ _ _ hml hml]; try exact rfl)
        try simp only [Act.put, List.setIfInBounds_toArray, List.set_cons_zero, List.set_cons_succ]
        refine wpAnyH_take (i := 1) (oi := ⟨some 47, _, _, _, _, _⟩) (v := ?_) rfl (by kernel_rfl) (by kernel_rfl) (by kernel_rfl) (fun _ _ _ h => h) (Or.inl ⟨by rfl, ?_⟩) hHeld ?_
        rotate_left
        · intro w hSw; go_simp; first | with_reducible rfl | (simp [ip_guarded, ip_neqB _ _ ha ha, pfx_guarded, pfx_neq _ _ _ _ hml hml]; try exact rfl)
        try simp only [Act.put, List.setIfInBounds_toArray, List.set_cons_zero, List.set_cons_succ]
        refine wpAnyH_take (i := 2) (oi := ⟨some 48, _, _, _, _, _⟩) (v := ?_) rfl (by kernel_rfl) (by kernel_rfl) (by kernel_rfl) (fun _ _ _ h => h) (Or.inl ⟨by rfl, ?_⟩) hHeld ?_
        rotate_left
        · intro w hSw; go_simp; first | with_reducible rfl | (simp [ip_guarded, ip_neqB _ _ ha ha, pfx_guarded, pfx_neq _ _ _ _ hml hml]; try exact rfl)
        try simp only [Act.put, List.setIfInBounds_toArray, List.set_cons_zero, List.set_cons_succ]
        refine wpAnyH_take (i := 3) (oi := ⟨some 49, _, _, _, _, _⟩) (v := ?_) rfl (by kernel_rfl) (by kernel_rfl) (by kernel_rfl) (fun _ _ _ h => h) (Or.inl ⟨by rfl, ?_⟩) hHeld ?_
        rotate_left
        · intro w hSw; go_simp; first | with_reducible rfl | (simp [ip_guarded, ip_neqB _ _ ha ha, pfx_guarded, pfx_neq _ _ _ _ hml hml]; try exact rfl)
        try simp only [Act.put, List.setIfInBounds_toArray, List.set_cons_zero, List.set_cons_succ]
        refine wpAnyH_take (i := 4) (oi := ⟨some 50, _, _, _, _, _⟩) (v := ?_) rfl (by kernel_rfl) (by kernel_rfl) (by kernel_rfl) (fun _ _ _ h => h) (Or.inl ⟨by rfl, ?_⟩) hHeld ?_
        rotate_left
        · intro w hSw; go_simp; first | with_reducible rfl | (simp [ip_guarded, ip_neqB _ _ ha ha, pfx_guarded, pfx_neq _ _ _ _ hml hml]; try exact rfl)
        try simp only [Act.put, List.setIfInBounds_toArray, List.set_cons_zero, List.set_cons_succ]
        refine wpAnyH_take (i := 5) (oi := ⟨some 51, _, _, _, _, _⟩) (v := ?_) rfl (by kernel_rfl) (by kernel_rfl) (by kernel_rfl) (fun _ _ _ h => h) (Or.inl ⟨by rfl, ?_⟩) hHeld ?_
        rotate_left
        · intro w hSw; go_simp; first | with_reducible rfl | (simp [ip_guarded, ip_neqB _ _ ha ha, pfx_guarded, pfx_neq _ _ _ _ hml hml]; try exact rfl)
        try simp only [Act.put, List.setIfInBounds_toArray, List.set_cons_zero, List.set_cons_succ]
        refine wpAnyH_take (i := 6) (oi := ⟨some 52, _, _, _, _, _⟩) (v := ?_) rfl (by kernel_rfl) (by kernel_rfl) (by kernel_rfl) (fun _ _ _ h => h) (Or.inl ⟨by rfl, ?_⟩) hHeld ?_
        rotate_left
        · intro w hSw; go_simp; first | with_reducible rfl | (simp [ip_guarded, ip_neqB _ _ ha ha, pfx_guarded, pfx_neq _ _ _ _ hml hml]; try exact rfl)
        try simp only [Act.put, List.setIfInBounds_toArray, List.set_cons_zero, List.set_cons_succ]
        refine wpAnyH_ip (g := b9) (l := a) (i := 7) (oi := ⟨some 53, _, _, _, _, _⟩) rfl (by kernel_rfl) (by kernel_rfl) (by kernel_rfl) (fun _ _ _ h => h) (by rfl) (.tmp 9) rfl rfl ha (fun _ h => hR9.below h (hR9.lt ha)) hHeld ?_
        try simp only [Act.put, List.setIfInBounds_toArray, List.set_cons_zero, List.set_cons_succ]
        refine wpAnyH_take (i := 8) (oi := ⟨some 54, _, _, _, _, _⟩) (v := ?_) rfl (by kernel_rfl) (by kernel_rfl) (by kernel_rfl) (fun _ _ _ h => h) (Or.inl ⟨by rfl, ?_⟩) hHeld ?_
        rotate_left
        · intro w hSw; go_simp; first | with_reducible rfl | (simp [ip_guarded, ip_neqB _ _ ha ha, pfx_guarded, pfx_neq _ _ _ _ hml hml]; try exact rfl)
        try simp only [Act.put, List.setIfInBounds_toArray, List.set_cons_zero, List.set_cons_succ]
        refine wpAnyH_take (i := 9) (oi := ⟨some 55, _, _, _, _, _⟩) (v := ?_) rfl (by kernel_rfl) (by kernel_rfl) (by kernel_rfl) (fun _ _ _ h => h) (Or.inl ⟨by rfl, ?_⟩) hHeld ?_
        rotate_left
        · intro w hSw; go_simp; first | with_reducible rfl | (simp [ip_guarded, ip_neqB _ _ ha ha, pfx_guarded, pfx_neq _ _ _ _ hml hml]; try exact rfl)
        try simp only [Act.put, List.setIfInBounds_toArray, List.set_cons_zero, List.set_cons_succ]
        refine wpAnyH_take (i := 10) (oi := ⟨some 56, _, _, _, _, _⟩) (v := ?_) rfl (by kernel_rfl) (by kernel_rfl) (by kernel_rfl) (fun _ _ _ h => h) (Or.inl ⟨by rfl, ?_⟩) hHeld ?_
        rotate_left
        · intro w hSw; go_simp; first | with_reducible rfl | (simp [ip_guarded, ip_neqB _ _ ha ha, pfx_guarded, pfx_neq _ _ _ _ hml hml]; try exact rfl)
        try simp only [Act.put, List.setIfInBounds_toArray, List.set_cons_zero, List.set_cons_succ]
        refine wpAnyH_ip_at (g := bl) (o := 0) (l := a) (i := 11) (oi := ⟨some 57, _, _, _, _, _⟩) rfl (by kernel_rfl) (by kernel_rfl) (by kernel_rfl) (fun _ _ _ h => h) (by rfl) (.tmp 56) rfl rfl ha (fun _ h => fun j v hj => by rw [h.cell (p := ⟨bl, 0 + j, none⟩) hblz]; exact hrz j v hj) hHeld ?_
        try simp only [Act.put, List.setIfInBounds_toArray, List.set_cons_zero, List.set_cons_succ]
        refine wpAnyH_take (i := 12) (oi := ⟨some 58, _, _, _, _, _⟩) (v := ?_) rfl (by kernel_rfl) (by kernel_rfl) (by kernel_rfl) (fun _ _ _ h => h) (Or.inl ⟨by rfl, ?_⟩) hHeld ?_
        rotate_left
        · intro w hSw; go_simp; first | with_reducible rfl | (simp [ip_guarded, ip_neqB _ _ ha ha, pfx_guarded, pfx_neq _ _ _ _ hml hml]; try exact rfl)
        try simp only [Act.put, List.setIfInBounds_toArray, List.set_cons_zero, List.set_cons_succ]
        refine wpAnyH_take (i := 13) (oi := ⟨some 59, _, _, _, _, _⟩) (v := ?_) rfl (by kernel_rfl) (by kernel_rfl) (by kernel_rfl) (fun _ _ _ h => h) (Or.inl ⟨by rfl, ?_⟩) hHeld ?_
        rotate_left
        · intro w hSw; go_simp; first | with_reducible rfl | (simp [ip_guarded, ip_neqB _ _ ha ha, pfx_guarded, pfx_neq _ _ _ _ hml hml]; try exact rfl)
        try simp only [Act.put, List.setIfInBounds_toArray, List.set_cons_zero, List.set_cons_succ]
        refine wpAnyH_take (i := 14) (oi := ⟨some 60, _, _, _, _, _⟩) (v := ?_) rfl (by kernel_rfl) (by kernel_rfl) (by kernel_rfl) (fun _ _ _ h => h) (Or.inl ⟨by rfl, ?_⟩) hHeld ?_
        rotate_left
        · intro w hSw; go_simp; first | with_reducible rfl | (simp [ip_guarded, ip_neqB _ _ ha ha, pfx_guarded, pfx_neq _ _ _ _ hml hml]; try exact rfl)
        try simp only [Act.put, List.setIfInBounds_toArray, List.set_cons_zero, List.set_cons_succ]
        refine wpAnyH_pfx (g := b12) (l := ML) (n := N) (i := 15) (oi := ⟨some 61, _, _, _, _, _⟩) rfl (by kernel_rfl) (by kernel_rfl) (by kernel_rfl) (fun _ _ _ h => h) (by rfl) (.tmp 12) rfl rfl hml (fun _ h => hP12.below h (hP12.lt hml)) hHeld ?_
        try simp only [Act.put, List.setIfInBounds_toArray, List.set_cons_zero, List.set_cons_succ]
        refine wpAnyH_pfx (g := gp) (l := ML) (n := N) (i := 16) (oi := ⟨some 62, _, _, _, _, _⟩) rfl (by kernel_rfl) (by kernel_rfl) (by kernel_rfl) (fun _ _ _ h => h) (by rfl) (.tmp 11) rfl rfl hml (fun _ h => hPr.below h (hPr.lt hml)) hHeld ?_
        try simp only [Act.put, List.setIfInBounds_toArray, List.set_cons_zero, List.set_cons_succ]
        refine wpAnyH_take (i := 17) (oi := ⟨some 63, _, _, _, _, _⟩) (v := ?_) rfl (by kernel_rfl) (by kernel_rfl) (by kernel_rfl) (fun _ _ _ h => h) (Or.inl ⟨by rfl, ?_⟩) hHeld ?_
        rotate_left
        · intro w hSw; go_simp; first | with_reducible rfl | (simp [ip_guarded, ip_neqB _ _ ha ha, pfx_guarded, pfx_neq _ _ _ _ hml hml]; try exact rfl)
        try simp only [Act.put, List.setIfInBounds_toArray, List.set_cons_zero, List.set_cons_succ]
        refine wpAnyH_take (i := 18) (oi := ⟨some 64, _, _, _, _, _⟩) (v := ?_) rfl (by kernel_rfl) (by kernel_rfl) (by kernel_rfl) (fun _ _ _ h => h) (Or.inl ⟨by rfl, ?_⟩) hHeld ?_
        rotate_left
        · intro w hSw; go_simp; first | with_reducible rfl | (simp [ip_guarded, ip_neqB _ _ ha ha, pfx_guarded, pfx_neq _ _ _ _ hml hml]; try exact rfl)
        try simp only [Act.put, List.setIfInBounds_toArray, List.set_cons_zero, List.set_cons_succ]
        refine wpAnyH_done (by kernel_rfl) ?_ _
        go_wp2_with fail
        go_roundw
        case rel => exact ⟨Or.inr (Or.inl (by go_num)), hBr.trans (hHeld.mono hBr.size)⟩
        case measure => simp [intOf]
    · have hrg : wr.rangeAt bl 16 (b.map bv) := fun j v hj => by rw [hBr.cell (p := ⟨bl, 16 + j, none⟩) hblt]; exact hr1.out j v hj
      have hBw := hB7.trans (hBr.mono hB7.size)
      have jF := fun w G => format_ip b hb16 w G
      have jP := fun w G => parse_back b hb16 w G
      have jK := fun w => mask_any b hb16 N hNi w
      rw [clamp_nat N hN8] at jK
      have hml := length_mL b N
      have hcv := con_sub b hb16 N N hN8 (Nat.le_refl _)
      have jFP := fun w G => format_prefix (mL b N) hml N hNi hcv w G
      have jPP := fun w G => parse_prefix (mL b N) hml N hNi hcv w G
      generalize fmtIP b = TA at *
      generalize mL b N = ML at *
      generalize fmtP ML N = TP at *
      clear hcv
      go_wp2_with ((with_reducible refine wpList_load_ip_at (op := ⟨some 28, _, _, _, _, _⟩) ?_ (.tmp 27) ?_ bl 16 ?_ hrg hb16 ?_); (· exact rfl); (· exact rfl); (· exact rfl))
      with_reducible refine (jF _ (G0.on hBw)).mono ?_
      rintro e wa ⟨rfl, hb⟩
      have hBr := hBr.trans (hb.mono hBr.size)
      have hBw := hBw.trans (hb.mono hBw.size)
      clear hb jF hrg
      go_wp2_with fail
      with_reducible refine (jP _ (G0.on hBw)).mono ?_
      rintro e wb ⟨rfl, hb⟩
      have hBr := hBr.trans (hb.mono hBr.size)
      have hBw := hBw.trans (hb.mono hBw.size)
      clear hb jP
      have hxz := (Below.refl wb.heap.size wb).alloc (Nat.le_refl _) (.cells #[.int .u8 0, .int .u8 0, .int .u8 0, .int .u8 0, .int .u8 0, .int .u8 0, .int .u8 0, .int .u8 0, .int .u8 0, .int .u8 0, .int .u8 0, .int .u8 0, .int .u8 0, .int .u8 0, .int .u8 0, .int .u8 0] 23)
      have hIk := Ik.lit wb
      go_upto_region 6 with ((with_reducible refine wpList_store_ip (op := ⟨none, _, _, _, _, _⟩) ?_ (.tmp 9) (.tmp 31) ?_ ?_ (l := b) ?_ hIk (length_zeros 16) hb16 wb.heap.size wb (by exact hxz) (Nat.le_refl _) ?_); (· exact rfl); (· exact rfl); (· exact rfl); (· exact rfl); intro w6 hR9 hb6)
      have hR9 := hR9.out
      have hBr := hBr.trans (hb6.mono hBr.size)
      have hBw := hBw.trans (hb6.mono hBw.size)
      have hrg : w6.rangeAt bl 16 (b.map bv) := fun j v hj => by rw [hBr.cell (p := ⟨bl, 16 + j, none⟩) hblt]; exact hr1.out j v hj
      have hbl6 := Nat.lt_of_lt_of_le hblt hBr.size
      have h9 := hR9.lt hb16
      clear hxz hIk hb6
      generalize wb.heap.size = b9 at *
      go_cut [11] (fun p wc => ∃ gp, p = .pointer (some ⟨gp, 0, none⟩) ∧ Pr wc gp ML N ∧ Below w6.heap.size w6 wc)
      case first =>
        refine wp_region_held_drew (S := fun w' => Below w6.heap.size w6 w') (by kernel_rfl) (below_drewN (Below.refl _ _) 1) (fun hHeld => ?_)
        generalize w6.drew = w6d at *
        refine wpAnyH_take (i := 0) (oi := ⟨some 33, _, _, _, _, _⟩) (v := ?_) rfl (by kernel_rfl) (by kernel_rfl) (by kernel_rfl) (fun _ _ _ h => h) (Or.inl ⟨by rfl, ?_⟩) hHeld ?_
        rotate_left
        · intro w hSw; go_simp; try with_reducible rfl
        try simp only [Act.put, List.setIfInBounds_toArray, List.set_cons_zero, List.set_cons_succ]
        refine wpAnyH_take (i := 1) (oi := ⟨some 34, _, _, _, _, _⟩) (v := ?_) rfl (by kernel_rfl) (by kernel_rfl) (by kernel_rfl) (fun _ _ _ h => h) (Or.inl ⟨by rfl, ?_⟩) hHeld ?_
        rotate_left
        · intro w hSw; go_simp; try with_reducible rfl
        try simp only [Act.put, List.setIfInBounds_toArray, List.set_cons_zero, List.set_cons_succ]
        refine wpAnyH_take (i := 2) (oi := ⟨some 35, _, _, _, _, _⟩) (v := ?_) rfl (by kernel_rfl) (by kernel_rfl) (by kernel_rfl) (fun _ _ _ h => h) (Or.inl ⟨by rfl, ?_⟩) hHeld ?_
        rotate_left
        · intro w hSw; go_simp; try with_reducible rfl
        try simp only [Act.put, List.setIfInBounds_toArray, List.set_cons_zero, List.set_cons_succ]
        refine wpAnyH_ip_at (g := bl) (o := 16) (l := b) (i := 3) (oi := ⟨some 36, _, _, _, _, _⟩) rfl (by kernel_rfl) (by kernel_rfl) (by kernel_rfl) (fun _ _ _ h => h) (by rfl) (.tmp 35) rfl rfl hb16 (fun _ h => fun j v hj => by rw [h.cell (p := ⟨bl, 16 + j, none⟩) hbl6]; exact hrg j v hj) hHeld ?_
        try simp only [Act.put, List.setIfInBounds_toArray, List.set_cons_zero, List.set_cons_succ]
        refine wpAnyH_take (i := 4) (oi := ⟨some 37, _, _, _, _, _⟩) (v := ?_) rfl (by kernel_rfl) (by kernel_rfl) (by kernel_rfl) (fun _ _ _ h => h) (Or.inl ⟨by rfl, ?_⟩) hHeld ?_
        rotate_left
        · intro w hSw; go_simp; try with_reducible rfl
        try simp only [Act.put, List.setIfInBounds_toArray, List.set_cons_zero, List.set_cons_succ]
        refine wpAnyH_ready (rs := [5, 7]) (by kernel_rfl) (by simp) ?_
        refine (AllReadyH.cons (o := ⟨some 38, _, _, _, _, _⟩) rfl ?_ (AllReadyH.cons (o := ⟨some 11, _, _, _, _, _⟩) rfl ?_ AllReadyH.nil))
        · intro K hK
          go_simp
          with_reducible refine (jM _).mono ?_
          rintro e u5 ⟨rfl, rfl⟩
          go_wp2_with fail
          refine hK.out _ _ hHeld (fun hHeld => ?_)
          clear hK K
          try simp only [Act.put, List.setIfInBounds_toArray, List.set_cons_zero, List.set_cons_succ]
          refine wpAnyH_ready (rs := [6, 7]) (by kernel_rfl) (by simp) ?_
          refine (AllReadyH.cons (o := ⟨some 39, _, _, _, _, _⟩) rfl ?_ (AllReadyH.cons (o := ⟨some 11, _, _, _, _, _⟩) rfl ?_ AllReadyH.nil))
          · intro K hK
            go_simp
            with_reducible refine (jK _).mono ?_
            rintro e u6 ⟨rfl, hbx⟩
            have hH6 := hHeld.trans (hbx.mono hHeld.size)
            clear hbx
            go_wp2_with fail
            clear hHeld
            refine hK.out _ _ hH6 (fun hHeld => ?_)
            clear hK K hH6
            try simp only [Act.put, List.setIfInBounds_toArray, List.set_cons_zero, List.set_cons_succ]
            refine wpAnyH_ready (rs := [7]) (by kernel_rfl) (by simp) ?_
            refine (AllReadyH.cons (o := ⟨some 11, _, _, _, _, _⟩) rfl ?_ AllReadyH.nil)
            · intro K hK
              go_simp
              have hKp := Pk.zero u6
              have hH7 := hHeld.alloc hHeld.size (.cells #[.int .u8 0, .int .u8 0, .int .u8 0, .int .u8 0, .int .u8 0, .int .u8 0, .int .u8 0, .int .u8 0, .int .u8 0, .int .u8 0, .int .u8 0, .int .u8 0, .int .u8 0, .int .u8 0, .int .u8 0, .int .u8 0, .int .i64 0] 35)
              have hgz := hHeld.size
              clear hHeld
              refine hK.out _ _ hH7 (fun hHeld => ?_)
              clear hK K hH7
              try simp only [Act.put, List.setIfInBounds_toArray, List.set_cons_zero, List.set_cons_succ]
              generalize u6.alloc _ = u7 at *
              generalize hgd : u6.heap.size = gp at *
              refine wpAnyH_ready (rs := [8]) (by kernel_rfl) (by simp) ?_
              refine (AllReadyH.cons (o := ⟨none, _, _, _, _, _⟩) rfl ?_ AllReadyH.nil)
              · intro K hK
                refine step_store_pfx rfl (.tmp 11) (.tmp 39) rfl rfl rfl hKp (length_zeros 16) hml ?_
                intro w8 hPr hO8
                have hPr := hPr.out
                have hH8 := hHeld.trans (hO8.below hgz hHeld.size)
                clear hHeld
                refine hK.out _ _ hH8 (fun hHeld => ?_)
                clear hK K hH8
                try simp only [Act.put, List.setIfInBounds_toArray, List.set_cons_zero, List.set_cons_succ]
                refine wpAnyH_done (by kernel_rfl) ?_ _
                go_wp2_with fail
                go_meet
                exact ⟨_, rfl, hPr, hHeld⟩
          · intro K hK
            go_simp
            have hKp := Pk.zero w6d
            have hH7 := hHeld.alloc hHeld.size (.cells #[.int .u8 0, .int .u8 0, .int .u8 0, .int .u8 0, .int .u8 0, .int .u8 0, .int .u8 0, .int .u8 0, .int .u8 0, .int .u8 0, .int .u8 0, .int .u8 0, .int .u8 0, .int .u8 0, .int .u8 0, .int .u8 0, .int .i64 0] 35)
            have hgz := hHeld.size
            clear hHeld
            refine hK.out _ _ hH7 (fun hHeld => ?_)
            clear hK K hH7
            try simp only [Act.put, List.setIfInBounds_toArray, List.set_cons_zero, List.set_cons_succ]
            generalize w6d.alloc _ = u7 at *
            generalize hgd : w6d.heap.size = gp at *
            refine wpAnyH_ready (rs := [6]) (by kernel_rfl) (by simp) ?_
            refine (AllReadyH.cons (o := ⟨some 39, _, _, _, _, _⟩) rfl ?_ AllReadyH.nil)
            · intro K hK
              go_simp
              with_reducible refine (jK _).mono ?_
              rintro e u6 ⟨rfl, hbx⟩
              have hH6 := hHeld.trans (hbx.mono hHeld.size)
              have hKp := hKp.below hbx hKp.lt
              clear hbx
              go_wp2_with fail
              clear hHeld
              refine hK.out _ _ hH6 (fun hHeld => ?_)
              clear hK K hH6
              try simp only [Act.put, List.setIfInBounds_toArray, List.set_cons_zero, List.set_cons_succ]
              refine wpAnyH_ready (rs := [8]) (by kernel_rfl) (by simp) ?_
              refine (AllReadyH.cons (o := ⟨none, _, _, _, _, _⟩) rfl ?_ AllReadyH.nil)
              · intro K hK
                refine step_store_pfx rfl (.tmp 11) (.tmp 39) rfl rfl rfl hKp (length_zeros 16) hml ?_
                intro w8 hPr hO8
                have hPr := hPr.out
                have hH8 := hHeld.trans (hO8.below hgz hHeld.size)
                clear hHeld
                refine hK.out _ _ hH8 (fun hHeld => ?_)
                clear hK K hH8
                try simp only [Act.put, List.setIfInBounds_toArray, List.set_cons_zero, List.set_cons_succ]
                refine wpAnyH_done (by kernel_rfl) ?_ _
                go_wp2_with fail
                go_meet
                exact ⟨_, rfl, hPr, hHeld⟩
        · intro K hK
          go_simp
          have hKp := Pk.zero w6d
          have hH7 := hHeld.alloc hHeld.size (.cells #[.int .u8 0, .int .u8 0, .int .u8 0, .int .u8 0, .int .u8 0, .int .u8 0, .int .u8 0, .int .u8 0, .int .u8 0, .int .u8 0, .int .u8 0, .int .u8 0, .int .u8 0, .int .u8 0, .int .u8 0, .int .u8 0, .int .i64 0] 35)
          have hgz := hHeld.size
          clear hHeld
          refine hK.out _ _ hH7 (fun hHeld => ?_)
          clear hK K hH7
          try simp only [Act.put, List.setIfInBounds_toArray, List.set_cons_zero, List.set_cons_succ]
          generalize w6d.alloc _ = u7 at *
          generalize hgd : w6d.heap.size = gp at *
          refine wpAnyH_ready (rs := [5]) (by kernel_rfl) (by simp) ?_
          refine (AllReadyH.cons (o := ⟨some 38, _, _, _, _, _⟩) rfl ?_ AllReadyH.nil)
          · intro K hK
            go_simp
            with_reducible refine (jM _).mono ?_
            rintro e u5 ⟨rfl, rfl⟩
            go_wp2_with fail
            refine hK.out _ _ hHeld (fun hHeld => ?_)
            clear hK K
            try simp only [Act.put, List.setIfInBounds_toArray, List.set_cons_zero, List.set_cons_succ]
            refine wpAnyH_ready (rs := [6]) (by kernel_rfl) (by simp) ?_
            refine (AllReadyH.cons (o := ⟨some 39, _, _, _, _, _⟩) rfl ?_ AllReadyH.nil)
            · intro K hK
              go_simp
              with_reducible refine (jK _).mono ?_
              rintro e u6 ⟨rfl, hbx⟩
              have hH6 := hHeld.trans (hbx.mono hHeld.size)
              have hKp := hKp.below hbx hKp.lt
              clear hbx
              go_wp2_with fail
              clear hHeld
              refine hK.out _ _ hH6 (fun hHeld => ?_)
              clear hK K hH6
              try simp only [Act.put, List.setIfInBounds_toArray, List.set_cons_zero, List.set_cons_succ]
              refine wpAnyH_ready (rs := [8]) (by kernel_rfl) (by simp) ?_
              refine (AllReadyH.cons (o := ⟨none, _, _, _, _, _⟩) rfl ?_ AllReadyH.nil)
              · intro K hK
                refine step_store_pfx rfl (.tmp 11) (.tmp 39) rfl rfl rfl hKp (length_zeros 16) hml ?_
                intro w8 hPr hO8
                have hPr := hPr.out
                have hH8 := hHeld.trans (hO8.below hgz hHeld.size)
                clear hHeld
                refine hK.out _ _ hH8 (fun hHeld => ?_)
                clear hK K hH8
                try simp only [Act.put, List.setIfInBounds_toArray, List.set_cons_zero, List.set_cons_succ]
                refine wpAnyH_done (by kernel_rfl) ?_ _
                go_wp2_with fail
                go_meet
                exact ⟨_, rfl, hPr, hHeld⟩
      case rest =>
        rename World => wq
        obtain ⟨gp, rfl, hPr, hbq⟩ := hcut
        have hR9 := hR9.below hbq h9
        have hBr := hBr.trans (hbq.mono hBr.size)
        have hBw := hBw.trans (hbq.mono hBw.size)
        clear hbq hrg hbl6
        go_wp2_with ((with_reducible refine wpList_load_pfx (op := ⟨some 41, _, _, _, _, _⟩) ?_ (.tmp 11) ?_ ?_ hPr hml ?_); (· exact rfl); (· exact rfl); (· exact rfl))
        with_reducible refine (jFP _ (G0.on hBw)).mono ?_
        rintro e wc ⟨rfl, hb⟩
        have hPr := hPr.below hb (hPr.lt hml)
        have hR9 := hR9.below hb (hR9.lt hb16)
        have hBr := hBr.trans (hb.mono hBr.size)
        have hBw := hBw.trans (hb.mono hBw.size)
        clear hb jFP
        go_wp2_with fail
        with_reducible refine (jPP _ (G0.on hBw)).mono ?_
        rintro e wd ⟨rfl, hb⟩
        have hPr := hPr.below hb (hPr.lt hml)
        have hR9 := hR9.below hb (hR9.lt hb16)
        have hBr := hBr.trans (hb.mono hBr.size)
        have hBw := hBw.trans (hb.mono hBw.size)
        clear hb jPP
        have hxp := (Below.refl wd.heap.size wd).alloc (Nat.le_refl _) (.cells #[.int .u8 0, .int .u8 0, .int .u8 0, .int .u8 0, .int .u8 0, .int .u8 0, .int .u8 0, .int .u8 0, .int .u8 0, .int .u8 0, .int .u8 0, .int .u8 0, .int .u8 0, .int .u8 0, .int .u8 0, .int .u8 0, .int .i64 0] 35)
        have hKn := Pk.zero wd
        go_upto_region 8 with ((with_reducible refine wpList_store_pfx (op := ⟨none, _, _, _, _, _⟩) ?_ (.tmp 12) (.tmp 44) ?_ ?_ (l := ML) (n := N) ?_ hKn (length_zeros 16) hml wd.heap.size wd (by exact hxp) (Nat.le_refl _) ?_); (· exact rfl); (· exact rfl); (· exact rfl); (· exact rfl); intro wz hP12 hbz)
        have hP12 := hP12.out
        have hPr := hPr.below hbz (hPr.lt hml)
        have hR9 := hR9.below hbz (hR9.lt hb16)
        have hBr := hBr.trans (hbz.mono hBr.size)
        have hBw := hBw.trans (hbz.mono hBw.size)
        have hrz : wz.rangeAt bl 16 (b.map bv) := fun j v hj => by rw [hBr.cell (p := ⟨bl, 16 + j, none⟩) hblt]; exact hr1.out j v hj
        have hblz := Nat.lt_of_lt_of_le hblt hBr.size
        clear hxp hKn hbz
        generalize wd.heap.size = b12 at *
        refine wp_region_held_drew (S := fun w' => Below wz.heap.size wz w') (by kernel_rfl) (below_drewN (Below.refl _ _) 1) (fun hHeld => ?_)
        refine wpAnyH_take (i := 0) (oi := ⟨some 46, _, _, _, _, _⟩) (v := ?_) rfl (by kernel_rfl) (by kernel_rfl) (by kernel_rfl) (fun _ _ _ h => h) (Or.inl ⟨by rfl, ?_⟩) hHeld ?_
        rotate_left
        · intro w hSw; go_simp; first | with_reducible rfl | (simp [ip_guarded, ip_neqB _ _ hb16 hb16, pfx_guarded, pfx_neq _ _ _ _ hml hml]; try exact rfl)
        try simp only [Act.put, List.setIfInBounds_toArray, List.set_cons_zero, List.set_cons_succ]
        refine wpAnyH_take (i := 1) (oi := ⟨some 47, _, _, _, _, _⟩) (v := ?_) rfl (by kernel_rfl) (by kernel_rfl) (by kernel_rfl) (fun _ _ _ h => h) (Or.inl ⟨by rfl, ?_⟩) hHeld ?_
        rotate_left
        · intro w hSw; go_simp; first | with_reducible rfl | (simp [ip_guarded, ip_neqB _ _ hb16 hb16, pfx_guarded, pfx_neq _ _ _ _ hml hml]; try exact rfl)
        try simp only [Act.put, List.setIfInBounds_toArray, List.set_cons_zero, List.set_cons_succ]
        refine wpAnyH_take (i := 2) (oi := ⟨some 48, _, _, _, _, _⟩) (v := ?_) rfl (by kernel_rfl) (by kernel_rfl) (by kernel_rfl) (fun _ _ _ h => h) (Or.inl ⟨by rfl, ?_⟩) hHeld ?_
        rotate_left
        · intro w hSw; go_simp; first | with_reducible rfl | (simp [ip_guarded, ip_neqB _ _ hb16 hb16, pfx_guarded, pfx_neq _ _ _ _ hml hml]; try exact rfl)
        try simp only [Act.put, List.setIfInBounds_toArray, List.set_cons_zero, List.set_cons_succ]
        refine wpAnyH_take (i := 3) (oi := ⟨some 49, _, _, _, _, _⟩) (v := ?_) rfl (by kernel_rfl) (by kernel_rfl) (by kernel_rfl) (fun _ _ _ h => h) (Or.inl ⟨by rfl, ?_⟩) hHeld ?_
        rotate_left
        · intro w hSw; go_simp; first | with_reducible rfl | (simp [ip_guarded, ip_neqB _ _ hb16 hb16, pfx_guarded, pfx_neq _ _ _ _ hml hml]; try exact rfl)
        try simp only [Act.put, List.setIfInBounds_toArray, List.set_cons_zero, List.set_cons_succ]
        refine wpAnyH_take (i := 4) (oi := ⟨some 50, _, _, _, _, _⟩) (v := ?_) rfl (by kernel_rfl) (by kernel_rfl) (by kernel_rfl) (fun _ _ _ h => h) (Or.inl ⟨by rfl, ?_⟩) hHeld ?_
        rotate_left
        · intro w hSw; go_simp; first | with_reducible rfl | (simp [ip_guarded, ip_neqB _ _ hb16 hb16, pfx_guarded, pfx_neq _ _ _ _ hml hml]; try exact rfl)
        try simp only [Act.put, List.setIfInBounds_toArray, List.set_cons_zero, List.set_cons_succ]
        refine wpAnyH_take (i := 5) (oi := ⟨some 51, _, _, _, _, _⟩) (v := ?_) rfl (by kernel_rfl) (by kernel_rfl) (by kernel_rfl) (fun _ _ _ h => h) (Or.inl ⟨by rfl, ?_⟩) hHeld ?_
        rotate_left
        · intro w hSw; go_simp; first | with_reducible rfl | (simp [ip_guarded, ip_neqB _ _ hb16 hb16, pfx_guarded, pfx_neq _ _ _ _ hml hml]; try exact rfl)
        try simp only [Act.put, List.setIfInBounds_toArray, List.set_cons_zero, List.set_cons_succ]
        refine wpAnyH_take (i := 6) (oi := ⟨some 52, _, _, _, _, _⟩) (v := ?_) rfl (by kernel_rfl) (by kernel_rfl) (by kernel_rfl) (fun _ _ _ h => h) (Or.inl ⟨by rfl, ?_⟩) hHeld ?_
        rotate_left
        · intro w hSw; go_simp; first | with_reducible rfl | (simp [ip_guarded, ip_neqB _ _ hb16 hb16, pfx_guarded, pfx_neq _ _ _ _ hml hml]; try exact rfl)
        try simp only [Act.put, List.setIfInBounds_toArray, List.set_cons_zero, List.set_cons_succ]
        refine wpAnyH_ip (g := b9) (l := b) (i := 7) (oi := ⟨some 53, _, _, _, _, _⟩) rfl (by kernel_rfl) (by kernel_rfl) (by kernel_rfl) (fun _ _ _ h => h) (by rfl) (.tmp 9) rfl rfl hb16 (fun _ h => hR9.below h (hR9.lt hb16)) hHeld ?_
        try simp only [Act.put, List.setIfInBounds_toArray, List.set_cons_zero, List.set_cons_succ]
        refine wpAnyH_take (i := 8) (oi := ⟨some 54, _, _, _, _, _⟩) (v := ?_) rfl (by kernel_rfl) (by kernel_rfl) (by kernel_rfl) (fun _ _ _ h => h) (Or.inl ⟨by rfl, ?_⟩) hHeld ?_
        rotate_left
        · intro w hSw; go_simp; first | with_reducible rfl | (simp [ip_guarded, ip_neqB _ _ hb16 hb16, pfx_guarded, pfx_neq _ _ _ _ hml hml]; try exact rfl)
        try simp only [Act.put, List.setIfInBounds_toArray, List.set_cons_zero, List.set_cons_succ]
        refine wpAnyH_take (i := 9) (oi := ⟨some 55, _, _, _, _, _⟩) (v := ?_) rfl (by kernel_rfl) (by kernel_rfl) (by kernel_rfl) (fun _ _ _ h => h) (Or.inl ⟨by rfl, ?_⟩) hHeld ?_
        rotate_left
        · intro w hSw; go_simp; first | with_reducible rfl | (simp [ip_guarded, ip_neqB _ _ hb16 hb16, pfx_guarded, pfx_neq _ _ _ _ hml hml]; try exact rfl)
        try simp only [Act.put, List.setIfInBounds_toArray, List.set_cons_zero, List.set_cons_succ]
        refine wpAnyH_take (i := 10) (oi := ⟨some 56, _, _, _, _, _⟩) (v := ?_) rfl (by kernel_rfl) (by kernel_rfl) (by kernel_rfl) (fun _ _ _ h => h) (Or.inl ⟨by rfl, ?_⟩) hHeld ?_
        rotate_left
        · intro w hSw; go_simp; first | with_reducible rfl | (simp [ip_guarded, ip_neqB _ _ hb16 hb16, pfx_guarded, pfx_neq _ _ _ _ hml hml]; try exact rfl)
        try simp only [Act.put, List.setIfInBounds_toArray, List.set_cons_zero, List.set_cons_succ]
        refine wpAnyH_ip_at (g := bl) (o := 16) (l := b) (i := 11) (oi := ⟨some 57, _, _, _, _, _⟩) rfl (by kernel_rfl) (by kernel_rfl) (by kernel_rfl) (fun _ _ _ h => h) (by rfl) (.tmp 56) rfl rfl hb16 (fun _ h => fun j v hj => by rw [h.cell (p := ⟨bl, 16 + j, none⟩) hblz]; exact hrz j v hj) hHeld ?_
        try simp only [Act.put, List.setIfInBounds_toArray, List.set_cons_zero, List.set_cons_succ]
        refine wpAnyH_take (i := 12) (oi := ⟨some 58, _, _, _, _, _⟩) (v := ?_) rfl (by kernel_rfl) (by kernel_rfl) (by kernel_rfl) (fun _ _ _ h => h) (Or.inl ⟨by rfl, ?_⟩) hHeld ?_
        rotate_left
        · intro w hSw; go_simp; first | with_reducible rfl | (simp [ip_guarded, ip_neqB _ _ hb16 hb16, pfx_guarded, pfx_neq _ _ _ _ hml hml]; try exact rfl)
        try simp only [Act.put, List.setIfInBounds_toArray, List.set_cons_zero, List.set_cons_succ]
        refine wpAnyH_take (i := 13) (oi := ⟨some 59, _, _, _, _, _⟩) (v := ?_) rfl (by kernel_rfl) (by kernel_rfl) (by kernel_rfl) (fun _ _ _ h => h) (Or.inl ⟨by rfl, ?_⟩) hHeld ?_
        rotate_left
        · intro w hSw; go_simp; first | with_reducible rfl | (simp [ip_guarded, ip_neqB _ _ hb16 hb16, pfx_guarded, pfx_neq _ _ _ _ hml hml]; try exact rfl)
        try simp only [Act.put, List.setIfInBounds_toArray, List.set_cons_zero, List.set_cons_succ]
        refine wpAnyH_take (i := 14) (oi := ⟨some 60, _, _, _, _, _⟩) (v := ?_) rfl (by kernel_rfl) (by kernel_rfl) (by kernel_rfl) (fun _ _ _ h => h) (Or.inl ⟨by rfl, ?_⟩) hHeld ?_
        rotate_left
        · intro w hSw; go_simp; first | with_reducible rfl | (simp [ip_guarded, ip_neqB _ _ hb16 hb16, pfx_guarded, pfx_neq _ _ _ _ hml hml]; try exact rfl)
        try simp only [Act.put, List.setIfInBounds_toArray, List.set_cons_zero, List.set_cons_succ]
        refine wpAnyH_pfx (g := b12) (l := ML) (n := N) (i := 15) (oi := ⟨some 61, _, _, _, _, _⟩) rfl (by kernel_rfl) (by kernel_rfl) (by kernel_rfl) (fun _ _ _ h => h) (by rfl) (.tmp 12) rfl rfl hml (fun _ h => hP12.below h (hP12.lt hml)) hHeld ?_
        try simp only [Act.put, List.setIfInBounds_toArray, List.set_cons_zero, List.set_cons_succ]
        refine wpAnyH_pfx (g := gp) (l := ML) (n := N) (i := 16) (oi := ⟨some 62, _, _, _, _, _⟩) rfl (by kernel_rfl) (by kernel_rfl) (by kernel_rfl) (fun _ _ _ h => h) (by rfl) (.tmp 11) rfl rfl hml (fun _ h => hPr.below h (hPr.lt hml)) hHeld ?_
        try simp only [Act.put, List.setIfInBounds_toArray, List.set_cons_zero, List.set_cons_succ]
        refine wpAnyH_take (i := 17) (oi := ⟨some 63, _, _, _, _, _⟩) (v := ?_) rfl (by kernel_rfl) (by kernel_rfl) (by kernel_rfl) (fun _ _ _ h => h) (Or.inl ⟨by rfl, ?_⟩) hHeld ?_
        rotate_left
        · intro w hSw; go_simp; first | with_reducible rfl | (simp [ip_guarded, ip_neqB _ _ hb16 hb16, pfx_guarded, pfx_neq _ _ _ _ hml hml]; try exact rfl)
        try simp only [Act.put, List.setIfInBounds_toArray, List.set_cons_zero, List.set_cons_succ]
        refine wpAnyH_take (i := 18) (oi := ⟨some 64, _, _, _, _, _⟩) (v := ?_) rfl (by kernel_rfl) (by kernel_rfl) (by kernel_rfl) (fun _ _ _ h => h) (Or.inl ⟨by rfl, ?_⟩) hHeld ?_
        rotate_left
        · intro w hSw; go_simp; first | with_reducible rfl | (simp [ip_guarded, ip_neqB _ _ hb16 hb16, pfx_guarded, pfx_neq _ _ _ _ hml hml]; try exact rfl)
        try simp only [Act.put, List.setIfInBounds_toArray, List.set_cons_zero, List.set_cons_succ]
        refine wpAnyH_done (by kernel_rfl) ?_ _
        go_wp2_with fail
        go_roundw
        case rel => exact ⟨Or.inr (Or.inr (by go_num)), hBr.trans (hHeld.mono hBr.size)⟩
        case measure => simp [intOf]
    · have hBw := hB7.trans (hBr.mono hB7.size)
      go_wp2_with fail
      with_reducible refine (known_any _ (G0.on hBw)).mono ?_
      rintro e w9 ⟨rfl, hb⟩
      go_wp2_with fail
      go_ret
      exact ⟨rfl, hBw.trans (hb.mono hBw.size)⟩
end Go.Proofs.YthammgljcchloaaDoor
