/-
  The reference's Append of numbers; an append to the bytes of a string.
-/
import Derived.Test.YtmbiophckeiehaaAppend
import Derived.Test.YtmbiophckeiehaaGrowMore
import Derived.Test.YtmbiophckeiehaaFb
import Derived.ArgAppend
namespace Go.Proofs.Ytmbiophckeiehaa
open Go.RowKit
set_option linter.unusedSimpArgs false
set_option linter.unusedVariables false

theorem beBytes_take_succ (v n k : Nat) (h : k < n) : (beBytes v n).take (k + 1) = (beBytes v n).take k ++ [beByte v n k] := by
  rw [take_snoc (beBytes v n) 0 k (by rw [length_beBytes]; exact h), beBytes_getD v n k h]

theorem be_cells (v n k j : Nat) (h : n - 1 - k = j) : #[Value.int .u8 ((v : Int) / 2 ^ (8 * j) % 256)] = row [beByte v n k] := by
  have := be_value v (by omega) n k
  rw [h] at this
  simp only [Int.toNat_natCast] at this
  rw [this]; rfl

/-- the post: 'it returns some slice of the call's own with these bytes' -/
def RetG (l : List UInt8) (w : World) (e : Ending) (w' : World) : Prop := ∃ v, e = .returned v ∧ Gr w' w.heap.size v l ∧ Below w.heap.size w w'

set_option maxHeartbeats 1000000 in
theorem refApp_any (a : Option Addr) (len cap : Nat) (l : List UInt8) (v n : Nat) (w : World) (hb : IsB w a len cap l) (hroom : len + n ≤ 140737488355328) (hu : v < 18446744073709551616) (hn : n ≤ 8) :
    Calls Try.prog 53 #[.slice a len cap, .int .u64 v, .int .i64 n] w (RetG (l ++ beBytes v n) w) := by
  have hl := hid hb.length
  have HU := hid hu
  clear hu
  have G0 := gr_new w w.heap.size (Nat.le_refl _)
  have B0 := (Below.refl w.heap.size w).alloc (Nat.le_refl _) (.cells #[] 5)
  have hb0 := hb.below B0
  go_enter Try.func53, Try.ntmps53
  go_wp2_with (with_reducible refine wpList_append_bytes (o := ⟨some 11, _, _, _, _, _⟩) rfl (.tmp 9) (.tmp 10) rfl (.slice (some ⟨w.heap.size, 0, none⟩) 0 0) rfl a len cap rfl w.heap.size [] l G0 hb0 (by simp; omega) w B0 B0.size ?_; intro x1 w1 hG1 hB1 _)
  rw [List.nil_append] at hG1
  clear G0 B0 hb0
  go_loopw [7, 8] (fun s i wr => ∃ (k : Nat) (x : Value), x = s ∧ k ≤ n ∧ i = .int .i64 (((n - k : Nat) : Int) - 1) ∧ Gr wr w.heap.size x (l ++ (beBytes v n).take k) ∧ Below w.heap.size w wr) (fun _ i _ => (intOf i + 1).toNat)
  case atStart => exact ⟨0, x1, rfl, Nat.zero_le _, rfl, by simpa using hG1.out, hB1⟩
  case round =>
    obtain ⟨k, x, rfl, hk, rfl, hG, hB⟩ := hrel
    have HG := hid hG
    clear hG hG1 hB1
    by_cases hlt : k < n
    · obtain ⟨j, hj⟩ : ∃ j, n - k = j + 1 := ⟨n - k - 1, by omega⟩
      rw [hj, show (((j + 1 : Nat) : Int) - 1) = (j : Int) from by omega]
      have hj7 : j ≤ 7 := by omega
      have HA := hid (beBytes_take_succ v n k hlt)
      have HV := hid (be_cells v n k j (by omega))
      have HJ := hid hj
      clear hj
      have JJ : Hid (IsB (wr.alloc (.cells (row [beByte v n k]) 5)) (some ⟨wr.heap.size, 0, none⟩) 1 1 [beByte v n k]) := hid ((Own.new wr [beByte v n k]).isB (by simp))
      have GG := hid (HG.out.below ((Below.refl _ _).alloc (Nat.le_refl _) (.cells (row [beByte v n k]) 5)))
      have BB := hid (hB.alloc hB.size (.cells (row [beByte v n k]) 5))
      have SS := hid (BB.out.size)
      have LL : Hid ((l ++ (beBytes v n).take k).length + 1 ≤ 140737488355328) := hid (by rw [List.length_append, hl.out, List.length_take, length_beBytes]; omega)
      rw [← HV.out] at JJ GG BB SS
      go_wp2_with (with_reducible refine wpList_append_bytes (o := ⟨some 33, _, _, _, _, _⟩) rfl (.tmp 25) (.tmp 32) rfl x rfl (some ⟨wr.heap.size, 0, none⟩) 1 1 rfl w.heap.size (l ++ (beBytes v n).take k) [beByte v n k] GG.out JJ.out LL.out w BB.out SS.out ?_; intro v' w2 hG2 hB2 _)
      go_roundw
      case rel => exact ⟨k + 1, v', rfl, by omega, by rw [show n - (k + 1) = j from by have := HJ.out; omega], by rw [HA.out, ← List.append_assoc]; exact hG2.out, hB2⟩
      case measure => simp [intOf]
    · obtain rfl : k = n := by omega
      rw [Nat.sub_self]
      go_wp2_with fail
      go_ret
      refine ⟨x, rfl, ?_, hB⟩
      have := HG.out
      rwa [List.take_of_length_le (by rw [length_beBytes]; omega)] at this

/-- the first cells of block g hold the bytes l; all of its cap cells may be written -/
def SB (w : World) (g : Nat) (l : List UInt8) (cap : Nat) : Prop :=
  FB w g l ∧ l.length ≤ cap ∧ cap ≤ 9223372036854775807 ∧ ∀ j, j < cap → (w.cell? ⟨g, j, none⟩).isSome = true ∧ w.frozen? ⟨g, j, none⟩ = false

theorem SB.below {w w' : World} {g B cap : Nat} {l : List UInt8} (h : SB w g l cap) (hb : Below B w w') (hg : g < B) : SB w' g l cap :=
  ⟨h.1.below hb hg, h.2.1, h.2.2.1, fun j hj => by rw [hb.cell (p := ⟨g, j, none⟩) hg, hb.frozen (p := ⟨g, j, none⟩) hg]; exact h.2.2.2 j hj⟩

/-- '[]byte(s)' -/
theorem wpList_str_room {w : World} {ops : Array Oper} {rest : List Oper} {o : Oper} {a : Act} {Q : Exit → Act → World → Prop} (hgd : o.guard = none) (x : Operand) (ho : o.op = .convert 9 29 x)
    (s : ByteArray) (hx : a.eval x = .string s) (hs : s.size ≤ 281474976710656) (B : Nat) (w0 : World) (hb0 : Below B w0 w) (hBw : B ≤ w.heap.size)
    (h : ∀ cap w', Hid (SB w' w.heap.size s.data.toList cap) → Below B w0 w' → wpList Try.prog ops Q rest (a.put o.dst (.slice (some ⟨w.heap.size, 0, none⟩) s.size cap)) w') :
    wpList Try.prog ops Q (o :: rest) a w := by
  have hrun := run_bytes_of_string (P := Try.prog) w 9 29 5 s Try.underlying9 Try.underlying29 Try.underlying5
  have hl : s.data.toList.length = s.size := by rw [Array.length_toList]; rfl
  have hcap : s.size ≤ grownCap w s.size 0 5 := by
    have := grownCap_ge w s.size 0 5
    exact this
  have hcm : grownCap w s.size 0 5 ≤ 9223372036854775807 := by
    have := grownCap_le_maxLen w s.size 0 5 (by unfold maxLen; omega)
    simpa [maxLen] using this
  refine wpList_plain hgd fun K hK => ?_
  unfold Oper.wp
  simp [execOp, ho, hx, hrun, Result.andThen]
  refine hK _ _ (h _ _ (hid ?_) ((hb0.drew).alloc hBw _))
  have hrow : (w.drew.alloc (.cells (bytesRow s (grownCap w s.size 0 5)) 5 ((bytesRow s (grownCap w s.size 0 5)).size, (bytesRow s (grownCap w s.size 0 5)).size + 1))).heap[w.heap.size]? = some (.cells (bytesRow s (grownCap w s.size 0 5)) 5 ((bytesRow s (grownCap w s.size 0 5)).size, (bytesRow s (grownCap w s.size 0 5)).size + 1)) := heap_alloc_new w.drew _
  have hsz : (bytesRow s (grownCap w s.size 0 5)).size = grownCap w s.size 0 5 := by
    simp [bytesRow]; show s.size + _ = _; omega
  have hfz : ∀ j, j < grownCap w s.size 0 5 → (w.drew.alloc (.cells (bytesRow s (grownCap w s.size 0 5)) 5 ((bytesRow s (grownCap w s.size 0 5)).size, (bytesRow s (grownCap w s.size 0 5)).size + 1))).frozen? ⟨w.heap.size, j, none⟩ = false := by
    intro j hj
    simp only [World.frozen?, hrow]
    rw [Bool.and_eq_false_iff]
    left
    rw [hsz]
    simp
    omega
  refine ⟨⟨(Array.getElem?_eq_some_iff.1 hrow).1, fun j hj => ?_⟩, by rw [hl]; exact hcap, hcm, fun j hj => ⟨?_, hfz j hj⟩⟩
  · have hjs : j < s.size := by rw [← hl]; exact hj
    refine ⟨?_, hfz j (by omega)⟩
    rw [cell_of_row _ _ j _ _ _ hrow, bytesRow, Array.getElem?_append_left (by simpa using hjs)]
    rw [List.getD_eq_getElem?_getD, List.getElem?_eq_getElem hj, Option.getD_some]
    simp [hjs]
  · rw [cell_of_row _ _ j _ _ _ hrow, Array.getElem?_eq_getElem (by rw [hsz]; exact hj)]; rfl

/-- 'append([]byte(s), x...)': in place or grown -/
theorem wpList_append_room1 {w : World} {ops : Array Oper} {rest : List Oper} {o : Oper} {a : Act} {Q : Exit → Act → World → Prop} (hgd : o.guard = none) (s x : Operand)
    (ho : o.op = .call { callee := .builtin .append, args := #[s, x], argTypes := #[29, 29] })
    (g n cap : Nat) (hs : a.eval s = .slice (some ⟨g, 0, none⟩) n cap) (ad : Addr) (c : Nat) (hx : a.eval x = .slice (some ad) 1 c)
    (l : List UInt8) (y : UInt8) (hn : l.length = n) (hg : SB w g l cap) (hb : IsB w (some ad) 1 c [y]) (hlen : l.length + 1 ≤ 140737488355328) (B : Nat) (w0 : World) (hb0 : Below B w0 w) (hBw : B ≤ w.heap.size) (hBg : B ≤ g)
    (h : ∀ p c' w', IsB w' p (n + 1) c' (l ++ [y]) → Below B w0 w' → wpList Try.prog ops Q rest (a.put o.dst (.slice p (n + 1) c')) w') :
    wpList Try.prog ops Q (o :: rest) a w := by
  obtain ⟨i0, hi, hz0, hz1, hz2⟩ := info_parts info5
  obtain ⟨hF, hc1, hc2, hc3⟩ := hg
  subst hn
  have hcell : ∀ j u, (l.map bv)[j]? = some u → w.cell? ⟨g, 0 + j, none⟩ = some u := by
    intro j u hj
    have hjl : j < l.length := by
      by_cases hq : j < l.length
      · exact hq
      · simp [hq] at hj
    have := (hF.2 j hjl).1
    rw [Nat.zero_add, this, ← hj]
    simp [hjl, bv, List.getD_eq_getElem?_getD]
  refine wpList_append_arg w hgd s x 29 ho 5 i0 (.int .u8 0) 1 1 Try.underlying29 hi hz0 hz1 hz2 rfl (by decide) g 0 l.length cap (l.map bv) hs (by simp) hcell ad 1 c [bv y] hx rfl (fun j u hj => newsB hb j u hj) (fun u hu => bv_one [y] u (by simpa using hu))
    (fun hr j hj => by
      have hj0 : j = 0 := by simpa using hj
      subst hj0
      have := hc3 (l.length) (by omega)
      simpa using this) (by unfold maxLen; omega) (by omega) (fun hr => ?_) (fun hgr v' w' h1 h2 => ?_)
  · have hcl : w.heap[g]? ≠ none := by
      intro e; have := hF.1; simp at e; omega
    have e1 : w.setCells g (0 + l.length * 1) [bv y] = w.setCell ⟨g, l.length, none⟩ (bv y) := by simp [World.setCells]
    rw [e1]
    refine h _ _ _ ⟨by simp, by omega, by omega, by omega, by simp, fun p hp => ?_⟩ (hb0.setCell (p := ⟨g, l.length, none⟩) hBg _)
    simp at hp; subst hp
    refine ⟨fun _ => ⟨rfl, by simp [World.setCell]; exact hF.1⟩, fun j hj => ?_⟩
    show _ = some _
    simp only [Nat.zero_add]
    by_cases hj2 : j = l.length
    · subst hj2
      obtain ⟨u, hu⟩ := Option.isSome_iff_exists.1 (hc3 l.length (by omega)).1
      rw [World.cell?_setCell_same _ _ _ hu]
      simp [bv]
    · rw [World.cell?_setCell_other _ _ _ _ (by simp [Ne.symm hj2]), (hF.2 j (by omega)).1]
      rw [List.getD_eq_getElem?_getD, List.getD_eq_getElem?_getD, List.getElem?_append_left (by omega)]
  · have hG : Gr w' w.heap.size v' (l ++ [y]) := by
      unfold Gr
      rw [List.length_append, List.map_append]
      exact h1
    obtain ⟨p, c', rfl, J⟩ := hG.isB (by simp; omega)
    have e : (l ++ [y]).length = l.length + 1 := by simp
    rw [e] at J ⊢
    exact h p c' w' J (hb0.grown h2 hBw (by simp))
end Go.Proofs.Ytmbiophckeiehaa
