import Derived.Test.YtcmpdpcncjggkaaDoorRows
import Derived.WalkKit
import Derived.ProofKit
import Derived.WalkSpells
import Derived.WalkLawsBesides
import Derived.OpenShut
import Derived.ShutString
import Derived.ChangeOld
import Derived.Below
import Derived.IntWalk
import Derived.Test.YtcmpdpcncjggkaaDoorNum
import Derived.Laws.CopyOwn
import Derived.Laws.IdiomStrings
namespace Go.Proofs.YtcmpdpcncjggkaaDoor
open Go.RowKit

theorem hid {p : Prop} (h : p) : Hid p := h
/-- n fits int64, uint64: behind a name, since the walk takes no great numeral in the context -/
def I64 (n : Int) : Prop := -2^63 ≤ n ∧ n < 2^63
def U64 (n : Int) : Prop := 0 ≤ n ∧ n < 2^64
theorem ret_int {k : IntKind} {a b : Int} (h : a = b) : Ending.returned (.int k a) = .returned (.int k b) := by rw [h]
theorem ret_bool {a b : Bool} (h : a = b) : Ending.returned (.bool a) = .returned (.bool b) := by rw [h]

/-- the post: 'it returns v and leaves the world as it is' -/
def Ret (v : Value) (w : World) (e : Ending) (w' : World) : Prop := e = .returned v ∧ w = w'

/-- two calls, one behind the other -/
theorem seq {w a b : World} (h : Below w.heap.size w a) (k : Below a.heap.size a b) : Below w.heap.size w b := h.trans (k.mono h.size)

theorem two_below (w : World) (o o' : Obj) : Below w.heap.size w ((w.alloc o).alloc o') := ((Below.refl _ _).alloc (Nat.le_refl _) _).alloc (by simp) _

/-- the post: 'it returns v and writes nothing that was there' -/
def RetS (v : Value) (w : World) (e : Ending) (w' : World) : Prop := e = .returned v ∧ Below w.heap.size w w'

/-- A slice of bytes: address a, its length, its capacity, its elements l. -/
structure IsB (w : World) (a : Option Addr) (len cap : Nat) (l : List UInt8) : Prop where
  length : l.length = len
  le : len ≤ cap
  max : len ≤ 281474976710656
  capmax : cap ≤ 9223372036854775807
  nil : a = none → len = 0 ∧ cap = 0
  cells : ∀ x, a = some x → (0 < cap → x.spot = none ∧ x.block < w.heap.size) ∧ ∀ j, j < len → w.cell? ⟨x.block, x.off + j, none⟩ = some (.int .u8 (l.getD j 0).toNat)

theorem IsB.some {w : World} {a : Option Addr} {len cap : Nat} {l : List UInt8} (h : IsB w a len cap l) (hp : 0 < len) :
    ∃ b off, a = some ⟨b, off, none⟩ ∧ b < w.heap.size ∧ ∀ j, j < len → w.cell? ⟨b, off + j, none⟩ = some (.int .u8 (l.getD j 0).toNat) := by
  cases ha : a with
  | none => have := h.nil ha; omega
  | some x =>
    obtain ⟨h1, h2⟩ := h.cells x ha
    obtain ⟨h3, h4⟩ := h1 (by have := h.le; omega)
    obtain ⟨b, off, spot⟩ := x
    simp at h3 h4 h2
    subst h3
    exact ⟨b, off, rfl, h4, h2⟩

theorem IsB.below {w w' : World} {a : Option Addr} {len cap : Nat} {l : List UInt8} (h : IsB w a len cap l) (hb : Below w.heap.size w w') : IsB w' a len cap l := by
  refine ⟨h.length, h.le, h.max, h.capmax, h.nil, fun x hx => ?_⟩
  obtain ⟨h1, h2⟩ := h.cells x hx
  refine ⟨fun hc => ⟨(h1 hc).1, Nat.lt_of_lt_of_le (h1 hc).2 hb.size⟩, fun j hj => ?_⟩
  rw [hb.cell (p := ⟨x.block, x.off + j, none⟩) (h1 (by have := h.le; omega)).2]
  exact h2 j hj

def uintOk (len : Nat) (i n : Int) : Bool := decide (1 ≤ n ∧ n ≤ 8 ∧ 0 ≤ i ∧ i + n ≤ len)

def bv (x : UInt8) : Value := .int .u8 (x.toNat : Int)

/-- the cells of a row of bytes -/
def row (l : List UInt8) : Array Value := (l.map bv).toArray
def zeros (n : Nat) : List UInt8 := List.replicate n 0
theorem length_zeros (n : Nat) : (zeros n).length = n := by simp [zeros]
theorem size_row (l : List UInt8) : (row l).size = l.length := by simp [row]

/-- block g is a row of bytes of the call's own -/
def Own (w : World) (g : Nat) (l : List UInt8) : Prop := w.heap[g]? = some (.cells (row l) 5 (0, 0))

theorem Own.lt {w : World} {g : Nat} {l : List UInt8} (h : Own w g l) : g < w.heap.size := (Array.getElem?_eq_some_iff.1 h).1

theorem Own.cell {w : World} {g : Nat} {l : List UInt8} (h : Own w g l) (j : Nat) (hj : j < l.length) : w.cell? ⟨g, j, none⟩ = some (.int .u8 (l.getD j 0).toNat) := by
  rw [cell_of_row w g j _ 5 (0, 0) h]
  simp [hj, bv, row, List.getD_eq_getElem?_getD]

theorem Own.frozen {w : World} {g : Nat} {l : List UInt8} (h : Own w g l) (j : Nat) : w.frozen? ⟨g, j, none⟩ = false := frozen_of_row w g j _ 5 h

theorem Own.set {w : World} {g : Nat} {l : List UInt8} (h : Own w g l) (j : Nat) (v : Value) (x : UInt8) (hv : v = bv x) : Own (w.setCell ⟨g, j, none⟩ v) g (l.set j x) := by
  subst hv
  have := heap_setCell_same w g j _ 5 (bv x) h
  unfold Own
  rw [this]
  simp [List.map_set, row]

theorem Own.set_other {w : World} {g : Nat} {l : List UInt8} (h : Own w g l) (p : Addr) (v : Value) (hp : g ≠ p.block) : Own (w.setCell p v) g l := by
  unfold Own; rw [heap_setCell_other _ _ _ _ hp]; exact h

theorem Own.new (w : World) (l : List UInt8) : Own (w.alloc (.cells (row l) 5)) w.heap.size l := heap_alloc_new w _

theorem Own.below {w w' : World} {g B : Nat} {l : List UInt8} (h : Own w g l) (hb : Below B w w') (hg : g < B) : Own w' g l := by
  unfold Own; rw [hb.block g hg]; exact h

theorem Own.alloc {w : World} {g : Nat} {l : List UInt8} (h : Own w g l) (o : Obj) : Own (w.alloc o) g l := h.below ((Below.refl w.heap.size w).alloc (Nat.le_refl _) o) h.lt

theorem Own.isB {w : World} {g : Nat} {l : List UInt8} (h : Own w g l) (hm : l.length ≤ 281474976710656) : IsB w (some ⟨g, 0, none⟩) l.length l.length l := by
  refine ⟨rfl, Nat.le_refl _, hm, by omega, by simp, fun x hx => ?_⟩
  simp at hx; subst hx
  exact ⟨fun _ => ⟨rfl, h.lt⟩, fun j hj => by simpa using h.cell j hj⟩

/-- the first bytes of a row, whatever lies behind them -/
theorem Own.isB_cap {w : World} {g : Nat} {l m : List UInt8} (h : Own w g (l ++ m)) (len cap : Nat) (hl : l.length = len) (hc : len ≤ cap) (hm : len ≤ 281474976710656) (hcm : cap ≤ 9223372036854775807) :
    IsB w (some ⟨g, 0, none⟩) len cap l := by
  refine ⟨hl, hc, hm, hcm, by simp, fun x hx => ?_⟩
  simp at hx; subst hx
  refine ⟨fun _ => ⟨rfl, h.lt⟩, fun j hj => ?_⟩
  have := h.cell j (by simp; omega)
  rw [List.getD_eq_getElem?_getD, List.getElem?_append_left (by omega), ← List.getD_eq_getElem?_getD] at this
  simpa using this

theorem made_bytes (n : Nat) : madeCells #[.int .u8 0] n = row (zeros n) := by
  apply Array.ext
  · simp [madeCells, row, zeros]
  · intro i h1 h2
    simp [madeCells, bv, row, zeros, Nat.mod_one]

theorem info5 : (Tryd.prog.info? 5).map (fun i => (i.zero, i.size, i.bytes)) = some (some (.int .u8 0), 1, 1) := by kernel_rfl
theorem size5 : (Tryd.prog.info? 5).map (·.size) = some 1 := by kernel_rfl

theorem run_make_bytes (L : Int) (n : Nat) (hL : L = n) (hn : n ≤ 281474976710656) (u : World) : (Instr.makeSlice 46 (.int .i64 L) (.int .i64 L)).run Tryd.prog u =
      .ok (.slice (some ⟨u.heap.size, 0, none⟩) n n) (u.alloc (.cells (row (zeros n)) 5)) := by
  obtain ⟨i0, hi, hz0, hz1, hz2⟩ := info_parts info5
  subst hL
  have h := run_make (P := Tryd.prog) u 46 5 i0 (.int .u8 0) Tryd.underlying46 hi hz0 .i64 .i64 (n : Int) (n : Int) (by omega) (Int.le_refl _) (by rw [hz2]; omega) (by omega)
  simpa [hz1, Value.cells, made_bytes] using h

/-- 'string(b)' -/
theorem run_string_own {w : World} {g : Nat} {l : List UInt8} (h : Own w g l) (len cap : Nat) (hl : l.length = len) :
    (convert 46 9 (.slice (some ⟨g, 0, none⟩) len cap)).run Tryd.prog w = .ok (.string ⟨l.toArray⟩) w := by
  subst hl
  refine run_convert_bytes_back w 46 9 5 ⟨g, 0, none⟩ cap l Tryd.underlying46 Tryd.underlying5 Tryd.underlying9 fun j hj => ?_
  have := h.cell j hj
  rw [List.getD_eq_getElem?_getD, List.getElem?_eq_getElem hj, Option.getD_some] at this
  by_cases h0 : j = 0
  · subst h0; simpa [Addr.add] using this
  · simpa [Addr.add, h0] using this

/-- 'make([]byte, 0, n)' -/
theorem run_make_room (C : Int) (n : Nat) (hC : C = n) (hn : n ≤ 281474976710656) (u : World) : (Instr.makeSlice 46 (.int .i64 0) (.int .i64 C)).run Tryd.prog u =
      .ok (.slice (some ⟨u.heap.size, 0, none⟩) 0 n) (u.alloc (.cells (row (zeros n)) 5)) := by
  obtain ⟨i0, hi, hz0, hz1, hz2⟩ := info_parts info5
  subst hC
  have h := run_make (P := Tryd.prog) u 46 5 i0 (.int .u8 0) Tryd.underlying46 hi hz0 .i64 .i64 0 (n : Int) (by omega) (by omega) (by rw [hz2]; omega) (by omega)
  simpa [hz1, Value.cells, made_bytes] using h

/-- 'copy(dst, src)', dst at the head of a row of the call's own, src a slice of bytes that fits. -/
theorem wpList_copy_bytes {w : World} {ops : Array Oper} {rest : List Oper} {o : Oper} {a : Act} {Q : Exit → Act → World → Prop} (hgd : o.guard = none) (d s : Operand)
    (ho : o.op = .call { callee := .builtin .copy, args := #[d, s], argTypes := #[46, 46] })
    (g dLen dCap : Nat) (sp : Option Addr) (sLen sCap : Nat) (hd : a.eval d = .slice (some ⟨g, 0, none⟩) dLen dCap) (hs : a.eval s = .slice sp sLen sCap)
    (cur l : List UInt8) (hg : Own w g cur) (hb : IsB w sp sLen sCap l) (hfit : sLen ≤ dLen) (hlen : sLen ≤ cur.length) (B : Nat) (w0 : World) (hb0 : Below B w0 w) (hBg : B ≤ g)
    (h : ∀ w', Hid (Own w' g (l ++ cur.drop l.length)) → Below B w0 w' → wpList Tryd.prog ops Q rest (a.put o.dst (goInt l.length)) w') :
    wpList Tryd.prog ops Q (o :: rest) a w := by
  refine wpList_copy_splice hgd d s 46 46 ho 5 Tryd.underlying46 size5 (some ⟨g, 0, none⟩) sp dLen dCap sLen sCap hd hs g 0 (cur.map bv) 5 hg (l.map bv) ?_ ?_ ?_ ?_ B w0 hb0 hBg ?_
  · rw [List.length_map, hb.length]; exact (Nat.min_eq_left hfit).symm
  · intro hp
    refine ⟨rfl, ?_⟩
    obtain ⟨b, off, rfl, _, hc⟩ := hb.some (by rw [List.length_map, hb.length] at hp; exact hp)
    refine ⟨_, rfl, fun j v hj => ?_⟩
    have hjl : j < l.length := by
      by_cases hq : j < l.length
      · exact hq
      · simp [hq] at hj
    have hx := hc j (by rw [← hb.length]; exact hjl)
    simp [hjl, bv] at hj
    subst hj
    simp only [List.getD_eq_getElem?_getD, hjl, List.getElem?_eq_getElem, Option.getD_some] at hx
    by_cases h0 : j = 0
    · subst h0; simpa [Addr.add] using hx
    · simpa [Addr.add, h0] using hx
  · simp [hb.length]; exact hlen
  · intro v hv; simp at hv; obtain ⟨x, _, rfl⟩ := hv; rfl
  · intro w' h1 h2
    simp only [List.length_map]
    refine h w' (hid ?_) h2
    have h1 := h1.out
    unfold Own
    rw [h1]
    simp [splice, row]
/-- the post: 'it returns a new slice of bytes l, and writes nothing that was there' -/
def RetB (l : List UInt8) (w : World) (e : Ending) (w' : World) : Prop :=
  ∃ g, e = .returned (.slice (some ⟨g, 0, none⟩) l.length l.length) ∧ w.heap.size ≤ g ∧ Own w' g l ∧ Below w.heap.size w w'

theorem own_one (w : World) (x : UInt8) : Own (w.alloc (.cells #[bv x] 5)) w.heap.size [x] := Own.new w [x]

theorem set_fill (l b : List UInt8) (n k : Nat) (hb : b.length = n) (hk : k < n) :
    (l ++ (b.take k ++ zeros (n - k))).set (l.length + k) (b.getD k 0) = l ++ (b.take (k + 1) ++ zeros (n - (k + 1))) := by
  rw [List.set_append_right _ _ (by omega)]
  congr 1
  rw [show l.length + k - l.length = k from by omega]
  rw [List.set_append_right _ _ (by simp; omega)]
  have e : k - (b.take k).length = 0 := by simp; omega
  rw [e, take_snoc b 0 k (by omega), List.append_assoc]
  congr 1
  rw [show n - k = (n - (k + 1)) + 1 from by omega]
  simp [zeros, List.replicate_succ]
end Go.Proofs.YtcmpdpcncjggkaaDoor
