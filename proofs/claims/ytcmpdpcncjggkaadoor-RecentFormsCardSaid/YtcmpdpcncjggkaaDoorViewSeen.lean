/-
  What an argument that is a list of received frames, or a link address, gives to the walk.
-/
import Derived.Test.YtcmpdpcncjggkaaDoorView
import Derived.Test.YtcmpdpcncjggkaaDoorLoU
import Derived.Test.YtcmpdpcncjggkaaDoorEnt
import Derived.Test.YtcmpdpcncjggkaaDoorLaid07
import Derived.ChangeSame
import Derived.DataReads
namespace Go.Proofs.YtcmpdpcncjggkaaDoor
open Go.ChangeShapes Go.WideShapes Go.ChangeAt Go.RowKit Go.Joins
set_option linter.unusedSimpArgs false
set_option linter.unusedVariables false

section
variable {H : Type} {enc : TypeId × Value → H} {W : World} {base : Nat}
theorem seen_cells : Tryd.prog.cellsOf 36 = 5 := by kernel_rfl
theorem bytesOf_seen : Tryd.prog.bytesOf 36 = 40 := by kernel_rfl
theorem c_u8 : Tryd.prog.cellsOf 5 = 1 := by kernel_rfl

set_option maxRecDepth 100000 in
/-- three cells that read as a link address -/
theorem ad_of_trod {c0 c1 c2 : Value} {x : DataW H × List MemPlace} {fuel : Nat} (hf : DataW.trod enc Tryd.prog W 0 (fun _ => true) true fuel 28 [c0, c1, c2] = some x) :
    ∃ m s e : Int, c0 = .int .i64 m ∧ c1 = .int .u16 s ∧ c2 = .int .u64 e ∧ I64 m ∧ (0 ≤ s ∧ s < 65536) ∧ U64 e := by
  obtain ⟨xs, n, _, _, _, hlen, hk⟩ := DataW.trod_struct Tryd.underlying28 hf
  match xs, hlen with
  | [y0, y1, y2], _ =>
    obtain ⟨n0, e0, _, w0⟩ := DataW.trod_int Tryd.underlying3 (show _ = some y0 from hk 0 _ rfl)
    obtain ⟨n1, e1, _, w1⟩ := DataW.trod_int Tryd.underlying24 (show _ = some y1 from hk 1 _ rfl)
    obtain ⟨n2, e2, _, w2⟩ := DataW.trod_int Tryd.underlying26 (show _ = some y2 from hk 2 _ rfl)
    simp [c_int] at e0
    simp [c_short] at e1
    simp [c_eui] at e2
    exact ⟨n0, n1, n2, e0, e1, e2, lo_i64 w0, lo_u16 w1, lo_u64 w2⟩

set_option maxRecDepth 100000 in
/-- five cells that read as a received frame -/
theorem seen_of_trod {cs : List Value} {x : DataW H × List MemPlace} {fuel : Nat} (hf : DataW.trod enc Tryd.prog W 0 (fun _ => true) true fuel 36 cs = some x) :
    ∃ e : Ent, cs = el e := by
  obtain ⟨xs, n, _, _, hcl, hlen, hk⟩ := DataW.trod_struct Tryd.underlying36 hf
  rw [seen_cells] at hcl
  match cs, hcl with
  | [c0, c1, c2, c3, c4], _ =>
    match xs, hlen with
    | [y0, y1, y2], _ =>
      have k0 := hk 0 _ rfl
      obtain ⟨n1, e1, _, w1⟩ := DataW.trod_int Tryd.underlying5 (show _ = some y1 from hk 1 _ rfl)
      obtain ⟨n2, e2, _, w2⟩ := DataW.trod_int Tryd.underlying3 (show _ = some y2 from hk 2 _ rfl)
      simp [c_u8] at e1
      simp [c_int] at e2
      simp only [c_addr, List.drop, List.take, List.getElem?_cons_zero] at k0
      obtain ⟨m, s, e, h0, h1, h2, _⟩ := ad_of_trod k0
      subst h0 h1 h2 e1 e2
      exact ⟨⟨m, s, e, n1, n2⟩, rfl⟩

theorem cells_at {a : Addr} {cs : List Value} {n : Nat} (h : W.cells? 0 a n = some cs) (i : Nat) (hi : i < n) : W.cell? (a.add i) = cs[i]? := by
  exact (World.cells?_some h).2.2 i hi

set_option maxRecDepth 100000 in
/-- a list of received frames, from its reading -/
theorem view_seen {v : Value} {d : DataW H} {p : List MemPlace} (hval : Value.okWide Tryd.prog W .any base 22 v) (h : DataW.Trod enc Tryd.prog W 0 (fun _ => true) true 22 v d p)
    (hz : (d.weights Tryd.prog 22).all (· ≤ reachBytes) = true) :
    ∃ a len cap l, v = .slice a len cap ∧ IsE W a len cap l := by
  obtain ⟨a, len, cap, rfl⟩ := okWide_slice Tryd.underlying22 hval
  obtain ⟨fuel, hf⟩ := h
  rcases DataW.trod_slice Tryd.underlying22 hf with ⟨hcs, _⟩ | ⟨x, len', cap', elems, rest, n, rfl, hcs, hd, _, hl, hm, hlen, hel, hsp, _⟩
  · simp [Value.cells] at hcs
    obtain ⟨rfl, rfl, rfl⟩ := hcs
    exact ⟨none, 0, 0, [], rfl, IsE.zero W⟩
  · simp [Value.cells] at hcs
    obtain ⟨rfl, rfl, rfl⟩ := hcs
    simp only [Prod.mk.injEq] at hd
    obtain ⟨rfl, _⟩ := hd
    obtain ⟨hrl, hr⟩ := hsp rfl
    rw [seen_cells] at hel hr
    have hcap : cap ≤ 281474976710656 := by
      have h1 := List.all_eq_true.1 hz ((((elems.map (·.1)).length + (rest.map (·.1)).length)) * Tryd.prog.bytesOf 36) (by simp [DataW.weights, Tryd.underlying22])
      rw [bytesOf_seen] at h1
      simp [reachBytes] at h1
      omega
    have each : ∀ i, ∃ e : Ent, i < len → ∀ j, j < 5 → W.cell? ((x.add (i * 5)).add j) = (el e)[j]? := by
      intro i
      by_cases hi : i < len
      · have h1 := hel i hi
        rw [List.getElem?_eq_getElem (by omega), Option.bind_eq_some_iff] at h1
        obtain ⟨cs, h2, h3⟩ := h1
        obtain ⟨e, rfl⟩ := seen_of_trod h3
        exact ⟨e, fun _ j hj => cells_at h2 j hj⟩
      · exact ⟨dE, fun h => absurd h hi⟩
    obtain ⟨f, hf2⟩ := Classical.axiomOfChoice each
    have first : 0 < cap → ∃ u, W.cell? x = some u := by
      intro hc
      have hh : ∃ y, (W.cells? 0 (x.add (0 * 5)) 5).bind (DataW.trod enc Tryd.prog W 0 (fun _ => true) true n 36) = some y := by
        by_cases h0 : 0 < len
        · exact ⟨_, (hel 0 h0).trans (List.getElem?_eq_getElem (by omega))⟩
        · have := hr 0 (by omega)
          rw [show (len + 0) * 5 = 0 * 5 from by omega] at this
          exact ⟨_, this.trans (List.getElem?_eq_getElem (by omega))⟩
      obtain ⟨y, hy⟩ := hh
      rw [Option.bind_eq_some_iff] at hy
      obtain ⟨cs, h2, h3⟩ := hy
      obtain ⟨e, rfl⟩ := seen_of_trod h3
      have := cells_at h2 0 (by omega)
      exact ⟨.int .i64 e.m, by simpa [Addr.add, el] using this⟩
    refine ⟨some x, len, cap, (List.range len).map f, rfl, ⟨by simp, hl, by omega, by omega, by simp, ?_⟩⟩
    intro y hy
    simp at hy
    subst hy
    refine ⟨fun hc => ?_, fun j hj => ?_⟩
    · obtain ⟨u, hu⟩ := first hc
      exact ⟨World.cell?_spot hu, block_lt_of_cell hu⟩
    · have e : ((List.range len).map f).getD j dE = f j := by simp [List.getD_eq_getElem?_getD, hj]
      rw [e]
      obtain ⟨u, hu⟩ := first (by omega)
      have hsp := World.cell?_spot hu
      obtain ⟨xb, xo, xs⟩ := x
      simp at hsp
      subst hsp
      intro i u2 hi
      have hi5 : i < 5 := by have := (List.getElem?_eq_some_iff.1 hi).1; simpa [length_el] using this
      have := hf2 j hj i hi5
      rw [Addr.add_mid, Addr.add_mid] at this
      exact this.trans hi

set_option maxRecDepth 100000 in
/-- a link address by value, from its reading -/
theorem view_addr {v : Value} {d : DataW H} {p : List MemPlace} (hval : Value.okWide Tryd.prog W .any base 28 v) (h : DataW.Trod enc Tryd.prog W 0 (fun _ => true) true 28 v d p) :
    ∃ m s e : Int, v = av m s e ∧ I64 m ∧ (0 ≤ s ∧ s < 65536) ∧ U64 e := by
  obtain ⟨c0, c1, c2, y0, y1, y2, m, rfl, rfl, rfl, hy0, hy1, hy2⟩ := open_agg3 Tryd.underlying28 (by kernel_rfl) c_addr hval h
  obtain ⟨n0, e0, _, w0⟩ := DataW.trod_int Tryd.underlying3 hy0
  obtain ⟨n1, e1, _, w1⟩ := DataW.trod_int Tryd.underlying24 hy1
  obtain ⟨n2, e2, _, w2⟩ := DataW.trod_int Tryd.underlying26 hy2
  simp at e0 e1 e2
  subst e0 e1 e2
  exact ⟨n0, n1, n2, rfl, lo_i64 w0, lo_u16 w1, lo_u64 w2⟩
end
end Go.Proofs.YtcmpdpcncjggkaaDoor
