/-
  ascending, known of the statements of layer 3.
-/
import Derived.Test.YtjlogmbgapnceaaSip
import Derived.Test.YtjlogmbgapnceaaGrowMore
import Derived.Laws.CopyOwn
namespace Go.Proofs.Ytjlogmbgapnceaa
open Go.RowKit

/-- 0, 1, 2 .. -/
def asc (n : Nat) : List UInt8 := (List.range n).map UInt8.ofNat
theorem length_asc (n : Nat) : (asc n).length = n := by simp [asc]
theorem asc_succ (n : Nat) : asc (n + 1) = asc n ++ [UInt8.ofNat n] := by simp [asc, List.range_succ]

theorem sip_one : sip (asc 16) (asc 15) = 11613035633349379557 := by decide +kernel
theorem sip_two : sip (asc 16) [] = 8246050544436514353 := by decide +kernel

theorem asc_value (k : Nat) (hk : k < 256) : #[Value.int .u8 (k : Int)] = row [UInt8.ofNat k] := by
  simp [row, bv, UInt8.toNat_ofNat', Nat.mod_eq_of_lt hk]

set_option maxHeartbeats 1000000 in
theorem ascending_any (n : Nat) (w : World) (hn : n < 200) :
    Calls Try.prog 19 #[.int .i64 n] w fun e w' => ∃ v, e = .returned v ∧ Gr w' w.heap.size v (asc n) ∧ Below w.heap.size w w' := by
  go_enter Try.func19, Try.ntmps19
  go_wp2
  go_loopw [3, 4] (fun v t wr => ∃ (k : Nat) (x : Value), x = v ∧ k ≤ n ∧ t = .int .i64 (k : Int) ∧ Gr wr w.heap.size x (asc k) ∧ Below w.heap.size w wr) (fun _ t _ => n - (intOf t).toNat)
  case atStart => exact ⟨0, _, rfl, by omega, rfl, Gr.nil _ _, Below.refl _ _⟩
  case round =>
    obtain ⟨k, x, rfl, hk, rfl, hG, hB⟩ := hrel
    have HG := hid hG
    clear hG
    by_cases hlt : k < n
    · have HA := hid (asc_succ k)
      have JJ : Hid (IsB (wr.alloc (.cells (row [UInt8.ofNat k]) 5)) (some ⟨wr.heap.size, 0, none⟩) 1 1 [UInt8.ofNat k]) := hid ((Own.new wr [UInt8.ofNat k]).isB (by simp))
      have GG := hid (HG.out.below ((Below.refl _ _).alloc (Nat.le_refl _) (.cells (row [UInt8.ofNat k]) 5)))
      have BB := hid (hB.alloc hB.size (.cells (row [UInt8.ofNat k]) 5))
      have SS := hid (BB.out.size)
      have LL : Hid ((asc k).length + 1 ≤ 140737488355328) := hid (by rw [length_asc]; omega)
      have HV := hid (asc_value k (by omega))
      rw [← HV.out] at JJ GG BB SS
      go_wp2_with (with_reducible refine wpList_append_bytes (o := ⟨some 14, _, _, _, _, _⟩) rfl (.tmp 10) (.tmp 13) rfl x rfl (some ⟨wr.heap.size, 0, none⟩) 1 1 rfl w.heap.size (asc k) [UInt8.ofNat k] GG.out JJ.out LL.out w BB.out SS.out ?_; intro v' w2 hG2 hB2 _)
      go_roundw
      case rel => exact ⟨k + 1, v', rfl, by omega, by go_num, by rw [HA.out]; exact hG2.out, hB2⟩
      case measure => simp [intOf]; omega
    · obtain rfl : k = n := by omega
      go_wp2
      go_ret
      exact ⟨x, rfl, HG.out, hB⟩

theorem Ky.zero (w : World) : Ky (w.alloc (.cells (row (zeros 16)) 23)) w.heap.size (zeros 16) := Ky.new w _

/-- 'copy(k[i:], b)': into a key of the call's own -/
theorem wpList_copy_key {w : World} {ops : Array Oper} {rest : List Oper} {o : Oper} {a : Act} {Q : Exit → Act → World → Prop} (hgd : o.guard = none) (d s : Operand)
    (ho : o.op = .call { callee := .builtin .copy, args := #[d, s], argTypes := #[24, 24] })
    (g off dLen dCap : Nat) (sp : Option Addr) (sLen sCap : Nat) (hd : a.eval d = .slice (some ⟨g, off, none⟩) dLen dCap) (hs : a.eval s = .slice sp sLen sCap)
    (cur l : List UInt8) (hg : Ky w g cur) (hb : IsB w sp sLen sCap l) (hfit : sLen ≤ dLen) (hlen : off + sLen ≤ cur.length) (B : Nat) (w0 : World) (hb0 : Below B w0 w) (hBg : B ≤ g)
    (h : ∀ w', Hid (Ky w' g (splice cur off l)) → Below B w0 w' → wpList Try.prog ops Q rest (a.put o.dst (goInt l.length)) w') :
    wpList Try.prog ops Q (o :: rest) a w := by
  refine wpList_copy_splice hgd d s 24 24 ho 5 Try.underlying24 size5 (some ⟨g, off, none⟩) sp dLen dCap sLen sCap hd hs g off (cur.map bv) 23 hg (l.map bv) ?_ ?_ ?_ ?_ B w0 hb0 hBg ?_
  · rw [List.length_map, hb.length]; exact (Nat.min_eq_left hfit).symm
  · intro hp
    refine ⟨rfl, ?_⟩
    obtain ⟨b, off, rfl, _, hc⟩ := hb.some (by rw [List.length_map, hb.length] at hp; exact hp)
    refine ⟨_, rfl, fun j v hj => ?_⟩
    have hjl : j < l.length := by
      by_cases hq : j < l.length
      · exact hq
      · simp [hq] at hj
    have hx := hc j (by rw [← hb.length]; exact hjl)
    simp [hjl, bv] at hj
    subst hj
    simp only [List.getD_eq_getElem?_getD, hjl, List.getElem?_eq_getElem, Option.getD_some] at hx
    by_cases h0 : j = 0
    · subst h0; simpa [Addr.add] using hx
    · simpa [Addr.add, h0] using hx
  · simp [hb.length]; exact hlen
  · intro v hv; simp at hv; obtain ⟨x, _, rfl⟩ := hv; rfl
  · intro w' h1 h2
    simp only [List.length_map]
    refine h w' (hid ?_) h2
    have h1 := h1.out
    unfold Ky
    rw [h1]
    simp [splice, row]
end Go.Proofs.Ytjlogmbgapnceaa
