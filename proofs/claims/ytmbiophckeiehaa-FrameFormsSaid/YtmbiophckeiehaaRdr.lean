/-
  The reader of a frame's bytes.
-/
import Derived.Test.YtmbiophckeiehaaFvRead
import Derived.Test.YtmbiophckeiehaaSlices
import Derived.Test.YtmbiophckeiehaaFp6
namespace Go.Proofs.Ytmbiophckeiehaa
open Go.RowKit
set_option linter.unusedSimpArgs false
set_option linter.unusedVariables false

theorem uint_num (a : Option Addr) (len cap : Nat) (l : List UInt8) (n : Nat) (w : World) (hn : n ≤ 1000) (hb : IsB w a len cap l) :
    Calls Try.prog 73 #[.slice a len cap, .int .i64 0, .int .i64 n] w (Ret (.tuple #[.int .u64 (numV l n), .bool (numOk l n)]) w) := by
  have hl := hb.length
  have hmx := hb.max
  by_cases h : 1 ≤ n ∧ n ≤ 8 ∧ n ≤ len
  · obtain ⟨h1, h2, h3⟩ := h
    have ho : numOk l n = true := by unfold numOk; rw [hl]; simp; omega
    have := uint_yes a len cap l 0 n w hb (by omega) (by omega) (by omega) (by omega)
    have e : (l.drop (0 : Int).toNat).take (n : Int).toNat = l.take n := by simp
    rw [e] at this
    unfold numV
    rw [ho, if_pos rfl]
    exact this
  · have ho : numOk l n = false := by unfold numOk; rw [hl]; simp; omega
    unfold numV
    rw [ho, if_neg (by simp)]
    by_cases h1 : n < 1
    · obtain rfl : n = 0 := by omega
      go_enter Try.func73, Try.ntmps73
      go_wp2_with fail
      go_ret2
      exact ⟨rfl, rfl⟩
    · by_cases h8 : 8 < n
      · go_enter Try.func73, Try.ntmps73
        go_wp2_with fail
        go_ret2
        exact ⟨rfl, rfl⟩
      · have hi : insideB (len : Int) 0 (n : Int) = false := by simp [insideB]; omega
        go_enter Try.func73, Try.ntmps73
        go_wp2_with fail
        with_reducible refine (inside_any _ _ _ _ (by omega) (by omega) (by omega) (by unfold I64; omega) (by unfold I64; omega)).mono ?_
        rintro e w' ⟨rfl, rfl⟩
        rw [hi]
        go_wp2_with fail
        go_ret2
        exact ⟨rfl, rfl⟩

theorem blk_tail (a : Option Addr) (cap k : Nat) (x : Addr) (h : (if cap = k then a else a.map (·.add (k * 1))) = some x) : ∃ y, a = some y ∧ x.block = y.block := by
  split at h
  · exact ⟨x, h, rfl⟩
  · cases a with
    | none => simp at h
    | some y => simp at h; subst h; exact ⟨y, rfl, by unfold Addr.add; split <;> rfl⟩

theorem slice_tail2 {w : World} {a : Option Addr} {len cap : Nat} {l : List UInt8} (h : IsB w a len cap l) (k : Nat) (hk : k ≤ len) :
    ∃ p, (∀ W, (Instr.slice 29 (.slice a len cap) (some (.int .i64 (k : Int))) none none).run Try.prog W = .ok (.slice p (len - k) (cap - k)) W) ∧ IsB w p (len - k) (cap - k) (l.drop k) ∧ ∀ x, p = some x → ∃ y, a = some y ∧ x.block = y.block := by
  have hle := h.le
  refine ⟨if cap = k then a else a.map (·.add (k * 1)), fun W => ?_, h.drop k hk, blk_tail a cap k⟩
  rw [run_slice_l (P := Try.prog) (w := W) 29 a len cap (by kernel_rfl) .i64 (k : Int) (by omega) (by omega), run_size_bytes]
  simp [Result.andThen, sliced]

theorem slice_head2 {w : World} {a : Option Addr} {len cap : Nat} {l : List UInt8} (h : IsB w a len cap l) (k : Nat) (hk : k ≤ len) :
    ∃ p, (∀ W, (Instr.slice 29 (.slice a len cap) none (some (.int .i64 (k : Int))) none).run Try.prog W = .ok (.slice p k cap) W) ∧ IsB w p k cap (l.take k) ∧ ∀ x, p = some x → ∃ y, a = some y ∧ x.block = y.block := by
  have hle := h.le
  refine ⟨if cap = 0 then a else a.map (·.add (0 * 1)), fun W => ?_, ?_, fun x hx => blk_tail a cap 0 x (by simpa using hx)⟩
  · rw [run_slice_h (P := Try.prog) (w := W) 29 a len cap (by kernel_rfl) .i64 (k : Int) (by omega) (by omega), run_size_bytes]
    simp [Result.andThen, sliced]
  · have := (h.drop 0 (by omega)).take k (by omega)
    simpa using this

theorem IsB.only {w w' : World} {a : Option Addr} {len cap g : Nat} {l : List UInt8} (h : IsB w a len cap l) (hO : Only g w w') (hne : ∀ x, a = Option.some x → 0 < cap → x.block ≠ g) : IsB w' a len cap l := by
  refine ⟨h.length, h.le, h.max, h.capmax, h.nil, fun x hx => ?_⟩
  obtain ⟨h1, h2⟩ := h.cells x hx
  refine ⟨fun hc => ⟨(h1 hc).1, Nat.lt_of_lt_of_le (h1 hc).2 hO.size⟩, fun j hj => ?_⟩
  have hc : 0 < cap := by have := h.le; omega
  rw [← h2 j hj]
  exact World.cell?_of_block (a := ⟨x.block, x.off + j, none⟩) (hO.block x.block (h1 hc).2 (hne x hx hc))

/-- block g is a reader of what is left: l -/
def Rdr (w : World) (g : Nat) (l : List UInt8) : Prop :=
  ∃ a len cap, w.heap[g]? = some (.cells #[.slice a len cap] 74 (0, 0)) ∧ IsB w a len cap l ∧ ∀ x, a = some x → 0 < cap → x.block < g
theorem Rdr.lt {w : World} {g : Nat} {l : List UInt8} (h : Rdr w g l) : g < w.heap.size := by
  obtain ⟨_, _, _, h, _⟩ := h
  exact (Array.getElem?_eq_some_iff.1 h).1
theorem Rdr.below {w w' : World} {g : Nat} {l : List UInt8} (h : Rdr w g l) (hb : Below w.heap.size w w') : Rdr w' g l := by
  have hlt := h.lt
  obtain ⟨a, len, cap, h1, h2, h3⟩ := h
  exact ⟨a, len, cap, by rw [hb.block g hlt]; exact h1, h2.below hb, h3⟩
theorem Rdr.only {w w' : World} {g k : Nat} {l : List UInt8} (h : Rdr w g l) (hO : Only k w w') (hk : g < k) : Rdr w' g l := by
  have hlt := h.lt
  obtain ⟨a, len, cap, h1, h2, h3⟩ := h
  exact ⟨a, len, cap, by rw [hO.block g hlt (by omega)]; exact h1, h2.only hO (fun x hx hc => by have := h3 x hx hc; omega), h3⟩
theorem Rdr.set {w : World} {g : Nat} {a b : Option Addr} {len cap n c : Nat} {l : List UInt8} (h : w.heap[g]? = some (.cells #[.slice a len cap] 74 (0, 0))) (hb : IsB w b n c l) (hne : ∀ x, b = some x → 0 < c → x.block < g) :
    Rdr (w.setCell ⟨g, 0, none⟩ (.slice b n c)) g l := by
  refine ⟨b, n, c, ?_, hb.only (Only.set g 0 w _) (fun x hx hc => by have := hne x hx hc; omega), hne⟩
  rw [heap_setCell_same w g 0 _ 74 (.slice b n c) h]; rfl

set_option maxHeartbeats 2000000 in
set_option maxRecDepth 100000 in
theorem number_any (g : Nat) (l : List UInt8) (n : Nat) (w : World) (hn : n ≤ 1000) (hR : Rdr w g l) :
    Calls Try.prog 59 #[.pointer (some ⟨g, 0, none⟩), .int .i64 n] w (fun e w' => e = .returned (.int .u64 (numV l n)) ∧ Rdr w' g (numR l n) ∧ Only g w w') := by
  have hR0 := hid hR
  obtain ⟨a, len, cap, h1, h2, h3⟩ := hR
  have hu := uint_num a len cap l n w hn h2
  have hl := h2.length
  have hle := h2.le
  have c0 : w.cell? ⟨g, 0, none⟩ = some (.slice a len cap) := by rw [cell_of_row w g 0 _ _ (0, 0) h1]; rfl
  have f0 : w.frozen? ⟨g, 0, none⟩ = false := frozen_of_row w g 0 _ _ h1
  have hOn : Only g w w := Only.refl g w
  by_cases ho : numOk l n = true
  · have hn8 : n ≤ len := by unfold numOk at ho; simp at ho; omega
    obtain ⟨p, hp, hI, hpb⟩ := slice_tail2 h2 n hn8
    have HS := hid (Rdr.set h1 hI (fun x hx hc => by obtain ⟨y, hy, e⟩ := hpb x hx; have := h3 y hy (by omega); omega))
    have hN : numR l n = l.drop n := by unfold numR; rw [if_pos ho]
    rw [hN]
    rw [ho] at hu
    clear hR0 h1 h2 h3 hI hpb hN
    generalize numV l n = v at *
    go_enter Try.func59, Try.ntmps59
    go_wp2_with fail
    with_reducible refine hu.mono ?_
    rintro e w' ⟨rfl, rfl⟩
    go_wp2_with fail
    go_ret
    exact ⟨rfl, HS.out, Only.set g 0 w _⟩
  · have ho : numOk l n = false := by cases h : numOk l n <;> simp [h] at ho ⊢
    have hN : numR l n = l := by unfold numR; rw [ho]; rfl
    rw [hN]
    rw [ho] at hu
    generalize numV l n = v at *
    go_enter Try.func59, Try.ntmps59
    go_wp2_with fail
    with_reducible refine hu.mono ?_
    rintro e w' ⟨rfl, rfl⟩
    go_wp2_with fail
    go_ret
    exact ⟨rfl, hR0.out, hOn⟩

set_option maxHeartbeats 2000000 in
set_option maxRecDepth 100000 in
theorem last_any (g : Nat) (l : List UInt8) (n : Nat) (w : World) (hn : n ≤ 281474976710656) (hsm : l.length ≤ 140737488355328) (hR : Rdr w g l) :
    Calls Try.prog 61 #[.pointer (some ⟨g, 0, none⟩), .int .i64 n] w (fun e w' => ∃ v, e = .returned v ∧ Gr w' w.heap.size v (lastV l n) ∧ Rdr w' g (lastR l n) ∧ Only g w w') := by
  have hglt := hR.lt
  obtain ⟨a, len, cap, h1, h2, h3⟩ := hR
  have hl := h2.length
  have hle := h2.le
  have hmx := h2.max
  obtain ⟨k, hk⟩ : ∃ k, k = len - n := ⟨_, rfl⟩
  have hkl : k ≤ len := by omega
  obtain ⟨p, hp, hI, hpb⟩ := slice_tail2 h2 k hkl
  obtain ⟨q, hq, hJ, hqb⟩ := slice_head2 h2 k hkl
  have eV : lastV l n = l.drop k := by unfold lastV; rw [hl, hk]
  have eR : lastR l n = l.take k := by unfold lastR; rw [hl, hk]
  rw [eV, eR]
  have c0 : w.cell? ⟨g, 0, none⟩ = some (.slice a len cap) := by rw [cell_of_row w g 0 _ _ (0, 0) h1]; rfl
  have f0 : w.frozen? ⟨g, 0, none⟩ = false := frozen_of_row w g 0 _ _ h1
  have hmax : max (0 : Int) ((len : Int) - (n : Int)) = (k : Int) := by omega
  have hlD : (l.drop k).length = len - k := by rw [List.length_drop, hl]
  have ta : ∀ {w2 : World} {v : Value}, Gr w2 w.heap.size v ([] ++ l.drop k) → Below w.heap.size w w2 → ∃ u, Ending.returned v = .returned u ∧ Gr (w2.setCell ⟨g, 0, none⟩ (.slice q k cap)) w.heap.size u (l.drop k) ∧ Rdr (w2.setCell ⟨g, 0, none⟩ (.slice q k cap)) g (l.take k) ∧ Only g w (w2.setCell ⟨g, 0, none⟩ (.slice q k cap)) := by
    intro w2 v hG hB
    rw [List.nil_append] at hG
    have h1' : w2.heap[g]? = some (.cells #[.slice a len cap] 74 (0, 0)) := by rw [hB.block g hglt]; exact h1
    refine ⟨v, rfl, ownsRow_setCell_below hG (a := ⟨g, 0, none⟩) hglt _, Rdr.set h1' (hJ.below hB) (fun x hx hc => ?_), (Only.ofBelow g hB).trans (Only.set g 0 w2 _)⟩
    obtain ⟨y, hy, e⟩ := hqb x hx
    have := h3 y hy (by omega)
    omega
  clear eV eR h1 h3 hqb hpb
  have cw : ∀ {w2 : World}, Below w.heap.size w w2 → w2.cell? ⟨g, 0, none⟩ = some (.slice a len cap) ∧ w2.frozen? ⟨g, 0, none⟩ = w.frozen? ⟨g, 0, none⟩ := fun hB => ⟨(hB.cell (p := ⟨g, 0, none⟩) hglt).trans c0, hB.frozen (p := ⟨g, 0, none⟩) hglt⟩
  by_cases h0 : k = 0
  · subst h0
    have hle2 : (len : Int) - (n : Int) ≤ 0 := by omega
    have hp0 : ∀ W, (Instr.slice 29 (.slice a len cap) (some (.int .i64 0)) none none).run Try.prog W = .ok (.slice p (len - 0) (cap - 0)) W := hp
    have hq0 : ∀ W, (Instr.slice 29 (.slice a len cap) none (some (.int .i64 0)) none).run Try.prog W = .ok (.slice q 0 cap) W := hq
    have hm0 : max (0 : Int) ((len : Int) - (n : Int)) = 0 := by omega
    have hlt0 : ¬ n < len := by omega
    clear hp hq hk hmax hlD
    go_enter Try.func61, Try.ntmps61
    go_wp2_with (with_reducible refine wpList_append_bytes (o := ⟨some 21, _, _, _, _, _⟩) rfl (.const (.slice none 0 0)) (.tmp 20) rfl (.slice none 0 0) rfl p (len - 0) (cap - 0) rfl w.heap.size [] (l.drop 0) (Gr.nil _ _) hI (by simp; omega) w (Below.refl _ _) (Nat.le_refl _) ?_; intro v w2 hG hB _)
    go_ret
    obtain ⟨u, e, h1, h2, h3⟩ := ta hG.out hB
    exact ⟨u, e, h1, h2, h3⟩
  · have hsub : (len : Int) - (n : Int) = (k : Int) := by omega
    have hk0 : (0 : Int) < (k : Int) := by omega
    clear hk hmax
    go_enter Try.func61, Try.ntmps61
    go_wp2_with (with_reducible refine wpList_append_bytes (o := ⟨some 21, _, _, _, _, _⟩) rfl (.const (.slice none 0 0)) (.tmp 20) rfl (.slice none 0 0) rfl p (len - k) (cap - k) rfl w.heap.size [] (l.drop k) (Gr.nil _ _) hI (by simp; omega) w (Below.refl _ _) (Nat.le_refl _) ?_; intro v w2 hG hB _)
    go_ret
    obtain ⟨u, e, h1, h2, h3⟩ := ta hG.out hB
    exact ⟨u, e, h1, h2, h3⟩

/-- an address that is read, of the mode m -/
def rdA (m v : Nat) : Value := av (m : Int) (adS m v) (adX m v)

set_option maxHeartbeats 2000000 in
set_option maxRecDepth 100000 in
theorem raddr_any (g : Nat) (l : List UInt8) (m : Nat) (w : World) (hm : m < 4) (hR : Rdr w g l) :
    Calls Try.prog 74 #[.pointer (some ⟨g, 0, none⟩), .int .i64 m] w (fun e w' => e = .returned (rdA m (numV l (asz m))) ∧ Rdr w' g (numR l (asz m)) ∧ Only g w w') := by
  have hglt := hR.lt
  have z1 := asz_any (m : Int)
  have hz8 := asz_le (m : Int)
  have hv2 : m = 2 → numV l (asz m) < 65536 := by
    intro h; subst h
    have := numV_lt l 2
    exact this
  have ha : rdA m (numV l (asz m)) = if m = 2 then av (m : Int) (numV l (asz m) : Int) 0 else av (m : Int) 0 (numV l (asz m) : Int) := by
    unfold rdA adS adX; split <;> rfl
  have HA := hid ha
  clear ha
  have hnum := fun w hR => number_any g l (asz (m : Int)) w (by omega) hR
  generalize rdA m (numV l (asz m)) = x at HA ⊢
  generalize numV l (asz m) = v at *
  generalize numR l (asz m) = r at *
  generalize asz (m : Int) = z at *
  have hR1 := hR.below ((Below.refl w.heap.size w).alloc (Nat.le_refl _) (.cells #[.int .i64 0, .int .u16 0, .int .u64 0] 27))
  have hO1 := Only.ofBelow g ((Below.refl w.heap.size w).alloc (Nat.le_refl _) (.cells #[.int .i64 0, .int .u16 0, .int .u64 0] 27))
  have cA : (w.alloc (.cells #[.int .i64 0, .int .u16 0, .int .u64 0] 27)).heap[w.heap.size]? = some (.cells #[.int .i64 0, .int .u16 0, .int .u64 0] 27 (0, 0)) := heap_alloc_new w _
  have hsz : (w.alloc (.cells #[.int .i64 0, .int .u16 0, .int .u64 0] 27)).heap.size = w.heap.size + 1 := by simp
  go_enter Try.func74, Try.ntmps74
  go_wp2_with fail
  generalize w.alloc _ = w1 at *
  with_reducible refine (z1 _).mono ?_
  rintro e w2 ⟨rfl, rfl⟩
  go_wp2_with fail
  with_reducible refine (hnum _ hR1).mono ?_
  rintro e w3 ⟨rfl, hR3, hO3⟩
  have cA3 := (hO3.block _ (by omega) (by omega)).trans cA
  have th := there_addr cA3
  have hO := hO1.trans hO3
  clear hR1 hO1 cA hsz hnum z1
  by_cases h2 : m = 2
  · subst h2
    have hw : IntKind.u16.wrap (v : Int) = (v : Int) := by have := hv2 rfl; simp [IntKind.wrap, IntKind.bits, IntKind.signed]; omega
    go_wp2_with (with_reducible refine wpList_store_addr (op := ⟨none, _, _, _, _, _⟩) rfl (.tmp 4) (.tmp 15) rfl rfl rfl th ?_; intro w4 hR4 hO4)
    refine bodyPost_ret (results_addr rfl rfl hR4.out) rfl ⟨by rw [HA.out]; rfl, hR3.only hO4 (by omega), only_two hO hO4 (Nat.le_refl _)⟩
  · have hm2 : ((m : Int) == 2) = false := by simp; omega
    go_wp2_with (with_reducible refine wpList_store_addr (op := ⟨none, _, _, _, _, _⟩) rfl (.tmp 4) (.tmp 18) rfl rfl rfl th ?_; intro w4 hR4 hO4)
    refine bodyPost_ret (results_addr rfl rfl hR4.out) rfl ⟨by rw [HA.out, if_neg h2], hR3.only hO4 (by omega), only_two hO hO4 (Nat.le_refl _)⟩
end Go.Proofs.Ytmbiophckeiehaa
