/-
  A region that draws its order and loads link addresses: such a load is taken first.
-/
import Derived.Test.YtcmpdpcncjggkaaDoorTapeAd
import Derived.Deep.RegionHeld3
namespace Go.Proofs.YtcmpdpcncjggkaaDoor
open Go.RowKit
set_option linter.unusedSimpArgs false
set_option linter.unusedVariables false

theorem wpAnyH_addr {ops : Array Oper} {Q : Exit → Act → World → Prop} {S : World → Prop} {i : Nat} {oi : Oper} {fuel : Nat} {listed : Array Bool} {a : Act} {w : World} {g o : Nat} {m s e : Int} (hi : ops[i]? = some oi)
    (hs : Region.noSelect ops = true) (hf : Region.free .any ops listed i = true) (hr : (Region.ready .any ops listed).contains i = true)
    (hQ : ∀ c a w, Q (.panic c) (a.put oi.dst (av m s e)) w → Q (.panic c) a w) (hw : Region.wanted oi (yielded ops a.tmps) = true) (x : Operand) (ho : oi.op = .load 28 x) (hx : a.eval x = .pointer (some ⟨g, o, none⟩))
    (hR : ∀ w, S w → w.rangeAt g o (avl m s e)) (hS : S w)
    (h : wpAnyH Tryd.prog .any ops Q S fuel (listed.setIfInBounds i true) (a.put oi.dst (av m s e)) w) : wpAnyH Tryd.prog .any ops Q S (fuel + 1) listed a w :=
  wpAnyH_take hi hs hf hr hQ (yieldsIf_load_mid hw 28 x ho g o hx (avl m s e) _ hR Tryd.underlying28 rfl addr_info) hS h
end Go.Proofs.YtcmpdpcncjggkaaDoor
