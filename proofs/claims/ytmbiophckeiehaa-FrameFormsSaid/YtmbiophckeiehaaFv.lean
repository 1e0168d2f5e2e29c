/-
  Frames by value: fourteen numbers and flags, and two slices of bytes; what the chapter says of them.
-/
import Derived.Test.YtmbiophckeiehaaTapeAd
import Derived.Test.YtmbiophckeiehaaAppend
import Derived.Test.YtmbiophckeiehaaCheck
namespace Go.Proofs.Ytmbiophckeiehaa
open Go.RowKit
set_option linter.unusedSimpArgs false
set_option linter.unusedVariables false

/-- what a frame holds besides its bytes -/
structure Hd where
  k : Int
  ar : Bool
  pe : Bool
  se : Bool
  sq : Int
  pn : Int
  dm : Int
  ds : Int
  dx : Int
  sm : Int
  ss : Int
  sx : Int
  ct : Int
  ky : Int

/-- the numbers are of their kinds -/
structure HOk (h : Hd) : Prop where
  k : I64 h.k
  sq : 0 ≤ h.sq ∧ h.sq < 256
  pn : 0 ≤ h.pn ∧ h.pn < 65536
  d : Ad3 h.dm h.ds h.dx
  s : Ad3 h.sm h.ss h.sx
  ct : 0 ≤ h.ct ∧ h.ct < 4294967296
  ky : 0 ≤ h.ky ∧ h.ky < 256

def fvl (h : Hd) (p m : Value) : List Value := [.int .i64 h.k, .bool h.ar, .bool h.pe, .bool h.se, .int .u8 h.sq, .int .u16 h.pn, .int .i64 h.dm, .int .u16 h.ds, .int .u64 h.dx, .int .i64 h.sm, .int .u16 h.ss, .int .u64 h.sx, .int .u32 h.ct, .int .u8 h.ky, p, m]
/-- a frame by value -/
def fv (h : Hd) (p m : Value) : Value := .agg (fvl h p m).toArray
/-- the first cells of block g are a frame -/
def Fr (w : World) (g : Nat) (h : Hd) (p m : Value) : Prop := w.rangeAt g 0 (fvl h p m)
theorem frame_info : (Try.prog.info? 31).map (·.size) = some 16 := by kernel_rfl
theorem Fr.of_heap {w : World} {g : Nat} {h : Hd} {p m : Value} {t : TypeId} {fr : Nat × Nat} (e : w.heap[g]? = some (.cells (fvl h p m).toArray t fr)) : Fr w g h p m := by
  intro j v hj
  rw [Nat.zero_add, cell_of_row w g j _ t _ e]
  simpa using hj
theorem Fr.below {w w' : World} {g B : Nat} {h : Hd} {p m : Value} (e : Fr w g h p m) (hb : Below B w w') (hg : g < B) : Fr w' g h p m := by
  intro j v hj
  rw [hb.cell (p := ⟨g, 0 + j, none⟩) hg]; exact e j v hj
theorem Fr.only {w w' : World} {g k : Nat} {h : Hd} {p m : Value} (e : Fr w g h p m) (hO : Only k w w') (hg : g < w.heap.size) (hk : g ≠ k) : Fr w' g h p m := by
  intro j v hj
  rw [World.cell?_of_block (w := w) (a := ⟨g, 0 + j, none⟩) (hO.block g hg hk)]; exact e j v hj
theorem Fr.drew {w : World} {g : Nat} {h : Hd} {p m : Value} (e : Fr w g h p m) : Fr w.drew g h p m := e
theorem Fr.lt {w : World} {g : Nat} {h : Hd} {p m : Value} (e : Fr w g h p m) : g < w.heap.size := by
  have h0 : w.cell? ⟨g, 0 + 0, none⟩ = some (.int .i64 h.k) := e 0 _ rfl
  simp only [World.cell?] at h0
  split at h0
  · rename_i hh; exact (Array.getElem?_eq_some_iff.1 hh).1
  · cases h0
theorem Fr.cells {w : World} {g : Nat} {h : Hd} {p m : Value} (e : Fr w g h p m) : w.cell? ⟨g, 0, none⟩ = some (.int .i64 h.k) ∧ w.cell? ⟨g, 1, none⟩ = some (.bool h.ar) ∧ w.cell? ⟨g, 2, none⟩ = some (.bool h.pe) ∧ w.cell? ⟨g, 3, none⟩ = some (.bool h.se) ∧ w.cell? ⟨g, 4, none⟩ = some (.int .u8 h.sq) ∧ w.cell? ⟨g, 5, none⟩ = some (.int .u16 h.pn) ∧ w.cell? ⟨g, 6, none⟩ = some (.int .i64 h.dm) ∧ w.cell? ⟨g, 7, none⟩ = some (.int .u16 h.ds) ∧ w.cell? ⟨g, 8, none⟩ = some (.int .u64 h.dx) ∧ w.cell? ⟨g, 9, none⟩ = some (.int .i64 h.sm) ∧ w.cell? ⟨g, 10, none⟩ = some (.int .u16 h.ss) ∧ w.cell? ⟨g, 11, none⟩ = some (.int .u64 h.sx) ∧ w.cell? ⟨g, 12, none⟩ = some (.int .u32 h.ct) ∧ w.cell? ⟨g, 13, none⟩ = some (.int .u8 h.ky) ∧ w.cell? ⟨g, 14, none⟩ = some (p) ∧ w.cell? ⟨g, 15, none⟩ = some (m) := by
  have c : ∀ (j : Nat) v, (fvl h p m)[j]? = some v → w.cell? ⟨g, j, none⟩ = some v := fun j v hj => by have := e j v hj; rwa [Nat.zero_add] at this
  exact ⟨c 0 _ rfl, c 1 _ rfl, c 2 _ rfl, c 3 _ rfl, c 4 _ rfl, c 5 _ rfl, c 6 _ rfl, c 7 _ rfl, c 8 _ rfl, c 9 _ rfl, c 10 _ rfl, c 11 _ rfl, c 12 _ rfl, c 13 _ rfl, c 14 _ rfl, c 15 _ rfl⟩
/-- block g is the call's own and holds a frame -/
def Fk (w : World) (g : Nat) (h : Hd) (p m : Value) : Prop := w.heap[g]? = some (.cells (fvl h p m).toArray 31 (0, 0))
theorem Fk.fr {w : World} {g : Nat} {h : Hd} {p m : Value} (e : Fk w g h p m) : Fr w g h p m := Fr.of_heap e
theorem Fk.new (w : World) (h : Hd) (p m : Value) : Fk (w.alloc (.cells (fvl h p m).toArray 31)) w.heap.size h p m := heap_alloc_new w _
theorem Fk.below {w w' : World} {g B : Nat} {h : Hd} {p m : Value} (e : Fk w g h p m) (hb : Below B w w') (hg : g < B) : Fk w' g h p m := by
  unfold Fk; rw [hb.block g hg]; exact e
theorem Fk.only {w w' : World} {g k : Nat} {h : Hd} {p m : Value} (e : Fk w g h p m) (hO : Only k w w') (hg : g < w.heap.size) (hk : g ≠ k) : Fk w' g h p m := by
  unfold Fk; rw [hO.block g hg hk]; exact e
theorem Fk.lt {w : World} {g : Nat} {h : Hd} {p m : Value} (e : Fk w g h p m) : g < w.heap.size := (Array.getElem?_eq_some_iff.1 e).1
theorem Fk.frozen {w : World} {g : Nat} {h : Hd} {p m : Value} (e : Fk w g h p m) (j : Nat) : w.frozen? ⟨g, j, none⟩ = false := frozen_of_row w g j _ _ e
theorem Fk.there {w : World} {g : Nat} {h : Hd} {p m : Value} (e : Fk w g h p m) : w.there g 0 16 :=
  fun j hj => ⟨by rw [Nat.zero_add, cell_of_row w g j _ _ _ e]; simp [fvl]; omega, frozen_of_row w g (0 + j) _ _ e⟩

theorem wpList_load_frame {ops : Array Oper} {rest : List Oper} {op : Oper} {a : Act} {w : World} {Q : Exit → Act → World → Prop} {g : Nat} {h : Hd} {p m : Value} (hgd : op.guard = none) (x : Operand) (ho : op.op = .load 31 x)
    (hx : a.eval x = .pointer (some ⟨g, 0, none⟩)) (hK : Fr w g h p m)
    (hh : wpList Try.prog ops Q rest (a.put op.dst (fv h p m)) w) : wpList Try.prog ops Q (op :: rest) a w :=
  wpList_load_mid hgd 31 x ho g 0 hx (fvl h p m) _ hK Try.underlying31 rfl frame_info hh

theorem wpList_load_frame_on {ops : Array Oper} {rest : List Oper} {op : Oper} {a : Act} {w : World} {Q : Exit → Act → World → Prop} {g : Nat} {h : Hd} {p m : Value} (hw : Region.wanted op (yielded ops a.tmps) = true) (x : Operand) (ho : op.op = .load 31 x)
    (hx : a.eval x = .pointer (some ⟨g, 0, none⟩)) (hK : Fr w g h p m)
    (hh : wpList Try.prog ops Q rest (a.put op.dst (fv h p m)) w) : wpList Try.prog ops Q (op :: rest) a w := by
  unfold wpList
  rw [if_pos hw]
  exact .inl (wp_load_mid 31 x ho g 0 hx (fvl h p m) _ hK Try.underlying31 rfl frame_info hh)

theorem wpAnyH_frame {ops : Array Oper} {Q : Exit → Act → World → Prop} {S : World → Prop} {i : Nat} {oi : Oper} {fuel : Nat} {listed : Array Bool} {a : Act} {w : World} {g : Nat} {h : Hd} {p m : Value} (hi : ops[i]? = some oi)
    (hs : Region.noSelect ops = true) (hf : Region.free .any ops listed i = true) (hr : (Region.ready .any ops listed).contains i = true)
    (hQ : ∀ c a w, Q (.panic c) (a.put oi.dst (fv h p m)) w → Q (.panic c) a w) (hw : Region.wanted oi (yielded ops a.tmps) = true) (x : Operand) (ho : oi.op = .load 31 x) (hx : a.eval x = .pointer (some ⟨g, 0, none⟩))
    (hR : ∀ w, S w → Fr w g h p m) (hS : S w)
    (hh : wpAnyH Try.prog .any ops Q S fuel (listed.setIfInBounds i true) (a.put oi.dst (fv h p m)) w) : wpAnyH Try.prog .any ops Q S (fuel + 1) listed a w :=
  wpAnyH_take hi hs hf hr hQ (yieldsIf_load_mid hw 31 x ho g 0 hx (fvl h p m) _ hR Try.underlying31 rfl frame_info) hS hh

def OneC (v : Value) : Prop := v.oneCell' = true
theorem fvl_one (h : Hd) (p m : Value) (hp : OneC p) (hm : OneC m) : ∀ v ∈ fvl h p m, v.oneCell' = true := by
  intro v hv
  unfold fvl at hv
  simp only [List.mem_cons, List.not_mem_nil, or_false] at hv
  rcases hv with rfl | rfl | rfl | rfl | rfl | rfl | rfl | rfl | rfl | rfl | rfl | rfl | rfl | rfl | rfl | rfl
  all_goals first | rfl | exact hp | exact hm
theorem oneC_slice (a : Option Addr) (n c : Nat) : OneC (.slice a n c) := rfl

theorem wpList_store_frame {ops : Array Oper} {rest : List Oper} {op : Oper} {a : Act} {w : World} {Q : Exit → Act → World → Prop} {g : Nat} {h0 h : Hd} {p0 m0 p m : Value} (hgd : op.guard = none) (x y : Operand) (ho : op.op = .store 31 x y)
    (hx : a.eval x = .pointer (some ⟨g, 0, none⟩)) (hy : a.eval y = fv h p m) (hK : Fk w g h0 p0 m0) (hp : OneC p) (hm : OneC m)
    (hh : ∀ w', Hid (Fr w' g h p m) → Only g w w' → wpList Try.prog ops Q rest (a.put op.dst undef) w') : wpList Try.prog ops Q (op :: rest) a w := by
  have hth := hK.there
  refine wpList_store_mid hgd 31 x y ho g 0 (fvl h p m).toArray hx hy hth frame_info (all_oneCell_toArray (fvl_one h p m hp hm)) ?_
  exact hh _ (hid (World.rangeAt_setCells_same w g 0 _ hth)) (only_cells _ _ _ _ (Only.refl g w))

theorem results_frame {fn : Func} {t : Tmp} (hr : fn.results = #[.cell t 31]) {tmps : Array Value} {w : World} {g : Nat} {h : Hd} {p m : Value} (hp : tmps.getD t undef = .pointer (some ⟨g, 0, none⟩)) (hR : Fr w g h p m) :
    (results fn tmps).run Try.prog w = .ok (fv h p m) w := by
  have hload := run_loadVar_mid (P := Try.prog) w g 0 31 (fvl h p m) _ hR Try.underlying31 rfl frame_info
  unfold results
  rw [hr]
  have hp' : tmps[t]?.getD undef = .pointer (some ⟨g, 0, none⟩) := by simpa using hp
  simp [hp', asAddr, hload]
  rfl

/-- MIC, Counter and Key are as Secure asks -/
def secF (h : Hd) (n : Nat) : Bool := if h.se then decide (n = 4) else decide (h.ct = 0 ∧ h.ky = 0 ∧ n = 0)
/-- the addresses are right -/
def adrF (h : Hd) : Bool := decide (¬(h.ar = true ∧ bcA h.dm h.ds h.dx = true) ∧ (h.dm ≠ 0 ∧ validA h.dm h.ds h.dx = true) ∧ (h.sm ≠ 0 ∧ validA h.sm h.ss h.sx = true) ∧ bcA h.sm h.ss h.sx = false)
def asz (m : Int) : Nat := if m = 2 then 2 else if m = 3 then 8 else 0
/-- the bytes of the encoding, of a payload of p bytes and a code of n bytes -/
def sizeF (h : Hd) (p n : Nat) : Nat := 3 + p + n + 2 + (if h.k = 2 then 0 else 2 + asz h.dm + asz h.sm) + (if h.se then 5 else 0)
def ackF (h : Hd) (p n : Nat) : Bool := decide (h.ar = false ∧ h.se = false ∧ secF h n = true ∧ h.pn = 0 ∧ (h.dm = 0 ∧ h.ds = 0 ∧ h.dx = 0) ∧ (h.sm = 0 ∧ h.ss = 0 ∧ h.sx = 0) ∧ p = 0)
/-- the frame is valid -/
def validF (h : Hd) (p n : Nat) : Bool := if h.k = 2 then ackF h p n else if h.k = 1 ∨ h.k = 3 then decide (adrF h = true ∧ secF h n = true ∧ sizeF h p n ≤ 127) else false
def b2i (b : Bool) (v : Nat) : Nat := if b then v else 0
def firstB (h : Hd) : UInt8 := UInt8.ofNat (64 * h.k.toNat + b2i h.ar 32 + b2i h.pe 16 + b2i h.se 8)
def modesB (h : Hd) : UInt8 := UInt8.ofNat (64 * h.dm.toNat + 16 * h.sm.toNat)
/-- the bytes of a link address -/
def adL (m s x : Int) : List UInt8 := if m = 2 then beBytes s.toNat 2 else if m = 3 then beBytes x.toNat 8 else []
theorem length_adL (m s x : Int) : (adL m s x).length = asz m := by
  unfold adL asz; split
  · exact length_beBytes _ _
  · split
    · exact length_beBytes _ _
    · rfl
/-- the bytes before the payload -/
def preL (h : Hd) : List UInt8 := [firstB h, modesB h, UInt8.ofNat h.sq.toNat] ++ ((if h.k = 2 then [] else beBytes h.pn.toNat 2 ++ (adL h.dm h.ds h.dx ++ adL h.sm h.ss h.sx)) ++ (if h.se then beBytes h.ct.toNat 4 ++ beBytes h.ky.toNat 1 else []))
def headL (h : Hd) (P : List UInt8) : List UInt8 := preL h ++ P
def bodyL (h : Hd) (P M : List UInt8) : List UInt8 := headL h P ++ M
def encL (h : Hd) (P M : List UInt8) : List UInt8 := appL (bodyL h P M)
theorem length_preL (h : Hd) : (preL h).length = 3 + (if h.k = 2 then 0 else 2 + asz h.dm + asz h.sm) + (if h.se then 5 else 0) := by
  unfold preL
  simp only [List.length_append]
  split <;> split <;> simp [length_beBytes, length_adL] <;> omega
theorem asz_le (m : Int) : asz m ≤ 8 := by unfold asz; split <;> (try split) <;> omega
theorem length_preL_le (h : Hd) : (preL h).length ≤ 26 := by
  rw [length_preL]; have := asz_le h.dm; have := asz_le h.sm; split <;> split <;> omega
theorem length_encL (h : Hd) (P M : List UInt8) : (encL h P M).length = sizeF h P.length M.length := by
  unfold encL bodyL headL sizeF
  rw [length_appL, List.length_append, List.length_append, length_preL]
  omega
theorem length_bodyL (h : Hd) (P M : List UInt8) : (bodyL h P M).length + 2 = sizeF h P.length M.length := by
  rw [← length_encL, encL, length_appL]
end Go.Proofs.Ytmbiophckeiehaa
