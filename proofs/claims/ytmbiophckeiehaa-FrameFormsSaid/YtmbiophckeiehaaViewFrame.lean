/-
  What an argument that is a frame gives to the walk.
-/
import Derived.Test.YtmbiophckeiehaaView
import Derived.Test.YtmbiophckeiehaaLoU
import Derived.Test.YtmbiophckeiehaaFv
import Derived.ChangeSame
namespace Go.Proofs.Ytmbiophckeiehaa
open Go.ChangeShapes Go.WideShapes Go.ChangeAt Go.RowKit Go.Joins
set_option linter.unusedSimpArgs false
set_option linter.unusedVariables false

theorem lo_u32 {n : Int} (h : (Lit.int .u32 n).wf = true) : 0 ≤ n ∧ n < 4294967296 := by
  simp [Lit.wf, IntKind.min, IntKind.max, IntKind.bits, IntKind.signed] at h; omega

section
variable {H : Type} {enc : TypeId × Value → H} {W : World} {base : Nat}
theorem fr_cells : Try.prog.cellsOf 31 = 16 := by kernel_rfl
theorem c_int : Try.prog.cellsOf 3 = 1 := by kernel_rfl
theorem c_bool : Try.prog.cellsOf 4 = 1 := by kernel_rfl
theorem c_u8 : Try.prog.cellsOf 5 = 1 := by kernel_rfl
theorem c_u16 : Try.prog.cellsOf 22 = 1 := by kernel_rfl
theorem c_u32 : Try.prog.cellsOf 28 = 1 := by kernel_rfl
theorem c_short : Try.prog.cellsOf 23 = 1 := by kernel_rfl
theorem c_eui : Try.prog.cellsOf 25 = 1 := by kernel_rfl
theorem c_bytes : Try.prog.cellsOf 29 = 1 := by kernel_rfl
theorem ad_cells : Try.prog.cellsOf 27 = 3 := by kernel_rfl

set_option maxRecDepth 100000 in
/-- three cells that read as a link address -/
theorem ad_of_trod {c0 c1 c2 : Value} {x : DataW H × List MemPlace} {fuel : Nat} (hf : DataW.trod enc Try.prog W 0 (fun _ => true) true fuel 27 [c0, c1, c2] = some x) :
    ∃ m s e : Int, c0 = .int .i64 m ∧ c1 = .int .u16 s ∧ c2 = .int .u64 e ∧ I64 m ∧ (0 ≤ s ∧ s < 65536) ∧ U64 e := by
  obtain ⟨xs, n, _, _, _, hlen, hk⟩ := DataW.trod_struct Try.underlying27 hf
  match xs, hlen with
  | [y0, y1, y2], _ =>
    obtain ⟨n0, e0, _, w0⟩ := DataW.trod_int Try.underlying3 (show _ = some y0 from hk 0 _ rfl)
    obtain ⟨n1, e1, _, w1⟩ := DataW.trod_int Try.underlying23 (show _ = some y1 from hk 1 _ rfl)
    obtain ⟨n2, e2, _, w2⟩ := DataW.trod_int Try.underlying25 (show _ = some y2 from hk 2 _ rfl)
    simp [c_int] at e0
    simp [c_short] at e1
    simp [c_eui] at e2
    exact ⟨n0, n1, n2, e0, e1, e2, lo_i64 w0, lo_u16 w1, lo_u64 w2⟩

set_option maxRecDepth 100000 in
/-- a frame by value, from its reading -/
theorem view_frame {v : Value} {d : DataW H} {p : List MemPlace} (hval : Value.okWide Try.prog W .any base 31 v) (h : DataW.Trod enc Try.prog W 0 (fun _ => true) true 31 v d p)
    (hz : (d.weights Try.prog 31).all (· ≤ reachBytes) = true) :
    ∃ (h : Hd) (a : Option Addr) (n c : Nat) (P : List UInt8) (b : Option Addr) (k e : Nat) (M : List UInt8), v = fv h (.slice a n c) (.slice b k e) ∧ HOk h ∧ IsB W a n c P ∧ IsB W b k e M ∧ c ≤ 140737488351232 ∧ e ≤ 140737488351232 := by
  obtain ⟨cs, rfl, hsz⟩ := okWide_struct Try.underlying31 hval
  rw [fr_cells] at hsz
  obtain ⟨fuel, hf⟩ := h
  obtain ⟨cl⟩ := cs
  simp only [List.size_toArray] at hsz
  match cl, hsz with
  | [c0, c1, c2, c3, c4, c5, c6, c7, c8, c9, c10, c11, c12, c13, c14, c15], _ =>
    obtain ⟨xs, n, _, hx, _, hlen, hk⟩ := DataW.trod_struct Try.underlying31 hf
    match xs, hlen with
    | [y0, y1, y2, y3, y4, y5, y6, y7, y8, y9, y10, y11], _ =>
      obtain ⟨n0, e0, _, w0⟩ := DataW.trod_int Try.underlying3 (show _ = some y0 from hk 0 _ rfl)
      obtain ⟨n1, e1, _⟩ := DataW.trod_bool Try.underlying4 (show _ = some y1 from hk 1 _ rfl)
      obtain ⟨n2, e2, _⟩ := DataW.trod_bool Try.underlying4 (show _ = some y2 from hk 2 _ rfl)
      obtain ⟨n3, e3, _⟩ := DataW.trod_bool Try.underlying4 (show _ = some y3 from hk 3 _ rfl)
      obtain ⟨n4, e4, _, w4⟩ := DataW.trod_int Try.underlying5 (show _ = some y4 from hk 4 _ rfl)
      obtain ⟨n5, e5, _, w5⟩ := DataW.trod_int Try.underlying22 (show _ = some y5 from hk 5 _ rfl)
      have e6 : _ = some y6 := hk 6 _ rfl
      have e7 : _ = some y7 := hk 7 _ rfl
      obtain ⟨n8, e8, _, w8⟩ := DataW.trod_int Try.underlying28 (show _ = some y8 from hk 8 _ rfl)
      obtain ⟨n9, e9, _, w9⟩ := DataW.trod_int Try.underlying5 (show _ = some y9 from hk 9 _ rfl)
      have e10 : _ = some y10 := hk 10 _ rfl
      have e11 : _ = some y11 := hk 11 _ rfl
      simp [c_int, Value.cells] at e0
      simp [c_bool, Value.cells] at e1 e2 e3
      simp [c_u8, Value.cells] at e4 e9
      simp [c_u16, Value.cells] at e5
      simp [c_u32, Value.cells] at e8
      simp [ad_cells, Value.cells] at e6 e7
      simp [c_bytes, Value.cells] at e10 e11
      obtain ⟨dm, ds, dx, r6, r7, r8, q6, q7, q8⟩ := ad_of_trod e6
      obtain ⟨sm, ss, sx, r9, r10, r11, q9, q10, q11⟩ := ad_of_trod e7
      simp at hx
      obtain ⟨rfl, _⟩ := hx
      obtain ⟨d10, p10⟩ := y10
      obtain ⟨d11, p11⟩ := y11
      have hz10 : (d10.weights Try.prog 29).all (· ≤ reachBytes) = true := by
        rw [List.all_eq_true] at hz ⊢
        intro x hx
        apply hz
        simp only [DataW.weights, Try.underlying31, Array.toList_map, List.map_cons, DataW.weightsEach, List.mem_append]
        simp [hx]
      have hz11 : (d11.weights Try.prog 29).all (· ≤ reachBytes) = true := by
        rw [List.all_eq_true] at hz ⊢
        intro x hx
        apply hz
        simp only [DataW.weights, Try.underlying31, Array.toList_map, List.map_cons, DataW.weightsEach, List.mem_append]
        simp [hx]
      obtain ⟨a, l0, k0, P, rfl, hI0, hc0⟩ := view_cells e10 hz10
      obtain ⟨b, l1, k1, M, rfl, hI1, hc1⟩ := view_cells e11 hz11
      subst e0 e1 e2 e3 e4 e5 e8 e9 r6 r7 r8 r9 r10 r11
      exact ⟨⟨n0, n1, n2, n3, n4, n5, dm, ds, dx, sm, ss, sx, n8, n9⟩, a, l0, k0, P, b, l1, k1, M, rfl, ⟨lo_i64 w0, lo_u8 w4, lo_u16 w5, ⟨q6, q7, q8⟩, ⟨q9, q10, q11⟩, lo_u32 w8, lo_u8 w9⟩, hI0, hI1, hc0, hc1⟩
end
end Go.Proofs.Ytmbiophckeiehaa
