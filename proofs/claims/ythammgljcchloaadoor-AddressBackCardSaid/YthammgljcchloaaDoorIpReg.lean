/-
  A region that draws its order and loads keys: such a load is taken first.
-/
import Derived.Test.YthammgljcchloaaDoorIp
import Derived.Deep.RegionHeld3
namespace Go.Proofs.YthammgljcchloaaDoor
open Go.RowKit

theorem wpAnyH_ip {ops : Array Oper} {Q : Exit → Act → World → Prop} {S : World → Prop} {i : Nat} {oi : Oper} {fuel : Nat} {listed : Array Bool} {a : Act} {w : World} {g : Nat} {l : List UInt8} (hi : ops[i]? = some oi)
    (hs : Region.noSelect ops = true) (hf : Region.free .any ops listed i = true) (hr : (Region.ready .any ops listed).contains i = true)
    (hQ : ∀ c a w, Q (.panic c) (a.put oi.dst (iv l)) w → Q (.panic c) a w) (hw : Region.wanted oi (yielded ops a.tmps) = true) (x : Operand) (ho : oi.op = .load 23 x) (hx : a.eval x = .pointer (some ⟨g, 0, none⟩))
    (hl : l.length = 16) (hR : ∀ w, S w → w.rangeAt g 0 (l.map bv)) (hS : S w)
    (h : wpAnyH Tryd.prog .any ops Q S fuel (listed.setIfInBounds i true) (a.put oi.dst (iv l)) w) : wpAnyH Tryd.prog .any ops Q S (fuel + 1) listed a w :=
  wpAnyH_take hi hs hf hr hQ (yieldsIf_load_mid hw 23 x ho g 0 hx (l.map bv) _ hR Tryd.underlying23 rfl (by rw [List.length_map, hl]; exact ip_info)) hS h
end Go.Proofs.YthammgljcchloaaDoor
