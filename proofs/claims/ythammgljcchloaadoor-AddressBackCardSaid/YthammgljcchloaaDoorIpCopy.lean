/-
  copy into an address.
-/
import Derived.Test.YthammgljcchloaaDoorIp
import Derived.Test.YthammgljcchloaaDoorIpStore
import Derived.Deep.RegionLaw
namespace Go.Proofs.YthammgljcchloaaDoor
open Go.RowKit

/-- 'copy(k[i:], b)' as a step of a region that draws its order -/
theorem step_copy_ip {w : World} {ops : Array Oper} {o : Oper} {a : Act} {K : Act → World → Prop} {Q : Exit → Act → World → Prop} {E : Prop} (hgd : o.guard = none) (d s : Operand)
    (ho : o.op = .call { callee := .builtin .copy, args := #[d, s], argTypes := #[26, 26] })
    (g off dLen dCap : Nat) (sp : Option Addr) (sLen sCap : Nat) (dp : Option Addr) (hd : a.eval d = .slice dp dLen dCap) (hdp : 0 < sLen → dp = some ⟨g, off, none⟩) (hs : a.eval s = .slice sp sLen sCap)
    (cur l : List UInt8) (hg : Ik w g cur) (hb : IsB w sp sLen sCap l) (hfit : sLen ≤ dLen) (hlen : off + sLen ≤ cur.length) (B : Nat) (w0 : World) (hb0 : Below B w0 w) (hBg : B ≤ g)
    (h : ∀ w', Hid (Ik w' g (splice cur off l)) → Below B w0 w' → K (a.put o.dst (goInt l.length)) w') :
    if Region.wanted o (yielded ops a.tmps) = true then Oper.wp Tryd.prog o a w K Q else E := by
  refine step_copy_splice hgd d s 26 26 ho 5 Tryd.underlying26 size5 dp sp dLen dCap sLen sCap hd hs g off (cur.map bv) 23 hg (l.map bv) ?_ ?_ ?_ ?_ B w0 hb0 hBg ?_
  · rw [List.length_map, hb.length]; exact (Nat.min_eq_left hfit).symm
  · intro hp
    refine ⟨hdp (by rw [List.length_map, hb.length] at hp; exact hp), ?_⟩
    obtain ⟨b, off, rfl, _, hc⟩ := hb.some (by rw [List.length_map, hb.length] at hp; exact hp)
    refine ⟨_, rfl, fun j v hj => ?_⟩
    have hjl : j < l.length := by
      by_cases hq : j < l.length
      · exact hq
      · simp [hq] at hj
    have hx := hc j (by rw [← hb.length]; exact hjl)
    simp [hjl, bv] at hj
    subst hj
    simp only [List.getD_eq_getElem?_getD, hjl, List.getElem?_eq_getElem, Option.getD_some] at hx
    by_cases h0 : j = 0
    · subst h0; simpa [Addr.add] using hx
    · simpa [Addr.add, h0] using hx
  · simp [hb.length]; exact hlen
  · intro v hv; simp at hv; obtain ⟨x, _, rfl⟩ := hv; rfl
  · intro w' h1 h2
    simp only [List.length_map]
    refine h w' (hid ?_) h2
    have h1 := h1.out
    unfold Ik
    rw [h1]
    simp [splice, row]

/-- 'copy(k[i:], b)' in a plain region -/
theorem wpList_copy_ip {w : World} {ops : Array Oper} {rest : List Oper} {o : Oper} {a : Act} {Q : Exit → Act → World → Prop} (hgd : o.guard = none) (d s : Operand)
    (ho : o.op = .call { callee := .builtin .copy, args := #[d, s], argTypes := #[26, 26] })
    (g off dLen dCap : Nat) (sp : Option Addr) (sLen sCap : Nat) (dp : Option Addr) (hd : a.eval d = .slice dp dLen dCap) (hdp : 0 < sLen → dp = some ⟨g, off, none⟩) (hs : a.eval s = .slice sp sLen sCap)
    (cur l : List UInt8) (hg : Ik w g cur) (hb : IsB w sp sLen sCap l) (hfit : sLen ≤ dLen) (hlen : off + sLen ≤ cur.length) (B : Nat) (w0 : World) (hb0 : Below B w0 w) (hBg : B ≤ g)
    (h : ∀ w', Hid (Ik w' g (splice cur off l)) → Below B w0 w' → wpList Tryd.prog ops Q rest (a.put o.dst (goInt l.length)) w') :
    wpList Tryd.prog ops Q (o :: rest) a w := by
  refine wpList_copy_splice hgd d s 26 26 ho 5 Tryd.underlying26 size5 dp sp dLen dCap sLen sCap hd hs g off (cur.map bv) 23 hg (l.map bv) ?_ ?_ ?_ ?_ B w0 hb0 hBg ?_
  · rw [List.length_map, hb.length]; exact (Nat.min_eq_left hfit).symm
  · intro hp
    refine ⟨hdp (by rw [List.length_map, hb.length] at hp; exact hp), ?_⟩
    obtain ⟨b, off, rfl, _, hc⟩ := hb.some (by rw [List.length_map, hb.length] at hp; exact hp)
    refine ⟨_, rfl, fun j v hj => ?_⟩
    have hjl : j < l.length := by
      by_cases hq : j < l.length
      · exact hq
      · simp [hq] at hj
    have hx := hc j (by rw [← hb.length]; exact hjl)
    simp [hjl, bv] at hj
    subst hj
    simp only [List.getD_eq_getElem?_getD, hjl, List.getElem?_eq_getElem, Option.getD_some] at hx
    by_cases h0 : j = 0
    · subst h0; simpa [Addr.add] using hx
    · simpa [Addr.add, h0] using hx
  · simp [hb.length]; exact hlen
  · intro v hv; simp at hv; obtain ⟨x, _, rfl⟩ := hv; rfl
  · intro w' h1 h2
    simp only [List.length_map]
    refine h w' (hid ?_) h2
    have h1 := h1.out
    unfold Ik
    rw [h1]
    simp [splice, row]


/-- a new address, its sixteen zeros written out -/
theorem Ik.lit (w : World) : Ik (w.alloc (.cells #[.int .u8 0, .int .u8 0, .int .u8 0, .int .u8 0, .int .u8 0, .int .u8 0, .int .u8 0, .int .u8 0, .int .u8 0, .int .u8 0, .int .u8 0, .int .u8 0, .int .u8 0, .int .u8 0, .int .u8 0, .int .u8 0] 23)) w.heap.size (zeros 16) := Ik.new w (zeros 16)
theorem wpList_store_ip0 {ops : Array Oper} {rest : List Oper} {op : Oper} {a : Act} {w : World} {Q : Exit → Act → World → Prop} {g : Nat} {l0 : List UInt8} (hgd : op.guard = none) (x y : Operand) (ho : op.op = .store 23 x y)
    (hx : a.eval x = .pointer (some ⟨g, 0, none⟩)) (hy : a.eval y = .agg #[.int .u8 0, .int .u8 0, .int .u8 0, .int .u8 0, .int .u8 0, .int .u8 0, .int .u8 0, .int .u8 0, .int .u8 0, .int .u8 0, .int .u8 0, .int .u8 0, .int .u8 0, .int .u8 0, .int .u8 0, .int .u8 0]) (hK : Ik w g l0) (hl0 : l0.length = 16) (B : Nat) (w0 : World) (hB : Below B w0 w) (hg : B ≤ g)
    (h : ∀ w', Hid (Ry w' g (zeros 16)) → Below B w0 w' → wpList Tryd.prog ops Q rest (a.put op.dst undef) w') : wpList Tryd.prog ops Q (op :: rest) a w :=
  wpList_store_ip (l := zeros 16) hgd x y ho hx hy hK hl0 (length_zeros 16) B w0 hB hg h
/-- 'a[k:]' of an address in its block -/
theorem slice_ip (b k : Nat) (hk : k ≤ 16) (z : Int) (hz : z = k) : ∃ P : Option Addr, (k < 16 → P = some ⟨b, k, none⟩) ∧ ∀ W, (Instr.sliceAt 23 (.pointer (some ⟨b, 0, none⟩)) (some (.int .i64 z)) none none).run Tryd.prog W = .ok (.slice P (16 - k) (16 - k)) W := by
  subst hz
  have hal : Tryd.prog.arrayLen 23 = 16 := by kernel_rfl
  have h := fun W => run_sliceAt_array_l (P := Tryd.prog) W 23 ⟨b, 0, none⟩ (by kernel_rfl) .i64 (k : Int) (by omega) (by rw [hal]; omega)
  rw [hal] at h
  refine ⟨some (if 16 = k then ⟨b, 0, none⟩ else ⟨b, k, none⟩), fun hk => by rw [if_neg (by omega)], fun W => ?_⟩
  rw [h W]
  go_simp
theorem length_splice {α : Type} (L : List α) (off : Nat) (cs : List α) (h : off + cs.length ≤ L.length) : (splice L off cs).length = L.length := by
  simp [splice]; omega
end Go.Proofs.YthammgljcchloaaDoor
