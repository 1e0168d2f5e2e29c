/-
  No cell of these rows narrows 'for every input' (looked for: loops, veiled, ifaces, maps, wideKeys, modest, calm, conditions, laid).
  DERIVED. THE GIVEN ROWS OF THIS SEAT. 8 by the template 'for every input the law returns true; each argument reads behind the call as it read before'; 0 by the template 'total and deterministic' (their statements: YtgacmiobfopoeaaTotals.lean).
  GIVEN WITH THE SEED: the statements are not yours to turn. If you find one false, say at which input.
  Laid BY PROGRAM, IN A SANDBOX (cutbox-rows.mjs): the forced cells as the released guide's own fill.sh prints them over the translation 5c11b59254e8d3be… (all of the seat's roots in one cut). By AI agents, Wed Nov 11 2026. No macro, syntax, notation, axiom, sorry.
-/
import Derived.Test.YtgacmiobfopoeaaChecked
import GoSem.Claim
import GoSem.ClaimJoined
import GoSem.ClaimMapViews
import Derived.JoinedTies
import Derived.KernelRfl
namespace Go.Proofs.Ytgacmiobfopoeaa
/- THE CELL 'sum', in the pinned program and in every row, IS THE sha256 OF THE DUMP (.gsa) THAT YtgacmiobfopoeaaProg.lean LOADS. Nothing in Lean hashes anything: it is a label: what it is worth is what the hold of that sum in a sandbox is worth. -/
noncomputable def Try.pinned : Pinned := { name := "ytgacmiobfopoeaa", sum := "5c11b59254e8d3bedd8bc205cdd2940a3ce6d175f89f6fa455f0aa83288bdc31", checked := Try.checked }
namespace Rows
def none {H : Type} : Left H := { results := [], args := [] }

/-- 'multihoplaw02.ChecksumSums': WHATEVER THE INPUT: true; the input reads as it did. -/
def checksumSumsSpec : ChangeSpec := { name := "checksumSums", fn := fun _ => fun
  | [d1, d2, d3, d4, d5] => { results := [.lit (.bool true)], args := [d1, d2, d3, d4, d5] }
  | _ => none }
def checksumSumsRow : OpenClaim := { program := "ytgacmiobfopoeaa", sum := "5c11b59254e8d3bedd8bc205cdd2940a3ce6d175f89f6fa455f0aa83288bdc31", func := "multihop/multihoplaw02.ChecksumSums", spec := "checksumSums", apart := false }
def ChecksumSumsSaid : Prop := checksumSumsRow.holds Try.pinned (OpenSpec.ofChange checksumSumsSpec)

/-- ITS FALSE NEIGHBOUR: 'it returns false'. Refute it at one input. -/
def checksumSumsWrong : ChangeSpec := { name := "checksumSums", fn := fun _ => fun
  | [d1, d2, d3, d4, d5] => { results := [.lit (.bool false)], args := [d1, d2, d3, d4, d5] }
  | _ => none }
def ChecksumSumsWrongFalsely : Prop := checksumSumsRow.holds Try.pinned (OpenSpec.ofChange checksumSumsWrong)

/-- 'multihoplaw02.ChecksumCRCs': WHATEVER THE INPUT: true; the input reads as it did. -/
def checksumCRCsSpec : ChangeSpec := { name := "checksumCRCs", fn := fun _ => fun
  | [d1, d2] => { results := [.lit (.bool true)], args := [d1, d2] }
  | _ => none }
def checksumCRCsRow : OpenClaim := { program := "ytgacmiobfopoeaa", sum := "5c11b59254e8d3bedd8bc205cdd2940a3ce6d175f89f6fa455f0aa83288bdc31", func := "multihop/multihoplaw02.ChecksumCRCs", spec := "checksumCRCs", apart := false }
def ChecksumCRCsSaid : Prop := checksumCRCsRow.holds Try.pinned (OpenSpec.ofChange checksumCRCsSpec)

/-- ITS FALSE NEIGHBOUR: 'it returns false'. Refute it at one input. -/
def checksumCRCsWrong : ChangeSpec := { name := "checksumCRCs", fn := fun _ => fun
  | [d1, d2] => { results := [.lit (.bool false)], args := [d1, d2] }
  | _ => none }
def ChecksumCRCsWrongFalsely : Prop := checksumCRCsRow.holds Try.pinned (OpenSpec.ofChange checksumCRCsWrong)

/-- 'multihoplaw02.ChecksumZero': WHATEVER THE INPUT: true; the input reads as it did. -/
def checksumZeroSpec : ChangeSpec := { name := "checksumZero", fn := fun _ => fun
  | [d] => { results := [.lit (.bool true)], args := [d] }
  | _ => none }
def checksumZeroRow : OpenClaim := { program := "ytgacmiobfopoeaa", sum := "5c11b59254e8d3bedd8bc205cdd2940a3ce6d175f89f6fa455f0aa83288bdc31", func := "multihop/multihoplaw02.ChecksumZero", spec := "checksumZero", apart := false }
def ChecksumZeroSaid : Prop := checksumZeroRow.holds Try.pinned (OpenSpec.ofChange checksumZeroSpec)

/-- ITS FALSE NEIGHBOUR: 'it returns false'. Refute it at one input. -/
def checksumZeroWrong : ChangeSpec := { name := "checksumZero", fn := fun _ => fun
  | [d] => { results := [.lit (.bool false)], args := [d] }
  | _ => none }
def ChecksumZeroWrongFalsely : Prop := checksumZeroRow.holds Try.pinned (OpenSpec.ofChange checksumZeroWrong)

/-- 'multihoplaw02.ChecksumUpdates': WHATEVER THE INPUT: true; the input reads as it did. -/
def checksumUpdatesSpec : ChangeSpec := { name := "checksumUpdates", fn := fun _ => fun
  | [d1, d2, d3] => { results := [.lit (.bool true)], args := [d1, d2, d3] }
  | _ => none }
def checksumUpdatesRow : OpenClaim := { program := "ytgacmiobfopoeaa", sum := "5c11b59254e8d3bedd8bc205cdd2940a3ce6d175f89f6fa455f0aa83288bdc31", func := "multihop/multihoplaw02.ChecksumUpdates", spec := "checksumUpdates", apart := false }
def ChecksumUpdatesSaid : Prop := checksumUpdatesRow.holds Try.pinned (OpenSpec.ofChange checksumUpdatesSpec)

/-- ITS FALSE NEIGHBOUR: 'it returns false'. Refute it at one input. -/
def checksumUpdatesWrong : ChangeSpec := { name := "checksumUpdates", fn := fun _ => fun
  | [d1, d2, d3] => { results := [.lit (.bool false)], args := [d1, d2, d3] }
  | _ => none }
def ChecksumUpdatesWrongFalsely : Prop := checksumUpdatesRow.holds Try.pinned (OpenSpec.ofChange checksumUpdatesWrong)

/-- 'multihoplaw02.ChecksumParts': WHATEVER THE INPUT: true; the input reads as it did. -/
def checksumPartsSpec : ChangeSpec := { name := "checksumParts", fn := fun _ => fun
  | [d1, d2, d3] => { results := [.lit (.bool true)], args := [d1, d2, d3] }
  | _ => none }
def checksumPartsRow : OpenClaim := { program := "ytgacmiobfopoeaa", sum := "5c11b59254e8d3bedd8bc205cdd2940a3ce6d175f89f6fa455f0aa83288bdc31", func := "multihop/multihoplaw02.ChecksumParts", spec := "checksumParts", apart := false }
def ChecksumPartsSaid : Prop := checksumPartsRow.holds Try.pinned (OpenSpec.ofChange checksumPartsSpec)

/-- ITS FALSE NEIGHBOUR: 'it returns false'. Refute it at one input. -/
def checksumPartsWrong : ChangeSpec := { name := "checksumParts", fn := fun _ => fun
  | [d1, d2, d3] => { results := [.lit (.bool false)], args := [d1, d2, d3] }
  | _ => none }
def ChecksumPartsWrongFalsely : Prop := checksumPartsRow.holds Try.pinned (OpenSpec.ofChange checksumPartsWrong)

/-- 'multihoplaw02.ChecksumExtends': WHATEVER THE INPUT: true; the input reads as it did. -/
def checksumExtendsSpec : ChangeSpec := { name := "checksumExtends", fn := fun _ => fun
  | [d1, d2] => { results := [.lit (.bool true)], args := [d1, d2] }
  | _ => none }
def checksumExtendsRow : OpenClaim := { program := "ytgacmiobfopoeaa", sum := "5c11b59254e8d3bedd8bc205cdd2940a3ce6d175f89f6fa455f0aa83288bdc31", func := "multihop/multihoplaw02.ChecksumExtends", spec := "checksumExtends", apart := false }
def ChecksumExtendsSaid : Prop := checksumExtendsRow.holds Try.pinned (OpenSpec.ofChange checksumExtendsSpec)

/-- ITS FALSE NEIGHBOUR: 'it returns false'. Refute it at one input. -/
def checksumExtendsWrong : ChangeSpec := { name := "checksumExtends", fn := fun _ => fun
  | [d1, d2] => { results := [.lit (.bool false)], args := [d1, d2] }
  | _ => none }
def ChecksumExtendsWrongFalsely : Prop := checksumExtendsRow.holds Try.pinned (OpenSpec.ofChange checksumExtendsWrong)

/-- 'multihoplaw02.ChecksumBursts': WHATEVER THE INPUT: true; the input reads as it did. -/
def checksumBurstsSpec : ChangeSpec := { name := "checksumBursts", fn := fun _ => fun
  | [d1, d2, d3] => { results := [.lit (.bool true)], args := [d1, d2, d3] }
  | _ => none }
def checksumBurstsRow : OpenClaim := { program := "ytgacmiobfopoeaa", sum := "5c11b59254e8d3bedd8bc205cdd2940a3ce6d175f89f6fa455f0aa83288bdc31", func := "multihop/multihoplaw02.ChecksumBursts", spec := "checksumBursts", apart := false }
def ChecksumBurstsSaid : Prop := checksumBurstsRow.holds Try.pinned (OpenSpec.ofChange checksumBurstsSpec)

/-- ITS FALSE NEIGHBOUR: 'it returns false'. Refute it at one input. -/
def checksumBurstsWrong : ChangeSpec := { name := "checksumBursts", fn := fun _ => fun
  | [d1, d2, d3] => { results := [.lit (.bool false)], args := [d1, d2, d3] }
  | _ => none }
def ChecksumBurstsWrongFalsely : Prop := checksumBurstsRow.holds Try.pinned (OpenSpec.ofChange checksumBurstsWrong)

/-- 'multihoplaw02.ChecksumOrder': WHATEVER THE INPUT: true; the input reads as it did. -/
def checksumOrderSpec : ChangeSpec := { name := "checksumOrder", fn := fun _ => fun
  | [d1, d2, d3] => { results := [.lit (.bool true)], args := [d1, d2, d3] }
  | _ => none }
def checksumOrderRow : OpenClaim := { program := "ytgacmiobfopoeaa", sum := "5c11b59254e8d3bedd8bc205cdd2940a3ce6d175f89f6fa455f0aa83288bdc31", func := "multihop/multihoplaw02.ChecksumOrder", spec := "checksumOrder", apart := false }
def ChecksumOrderSaid : Prop := checksumOrderRow.holds Try.pinned (OpenSpec.ofChange checksumOrderSpec)

/-- ITS FALSE NEIGHBOUR: 'it returns false'. Refute it at one input. -/
def checksumOrderWrong : ChangeSpec := { name := "checksumOrder", fn := fun _ => fun
  | [d1, d2, d3] => { results := [.lit (.bool false)], args := [d1, d2, d3] }
  | _ => none }
def ChecksumOrderWrongFalsely : Prop := checksumOrderRow.holds Try.pinned (OpenSpec.ofChange checksumOrderWrong)

/- THE SECOND FORM. 'bulk': how many values and letters a reading holds, each counted each time it is reached (what is shared counts as often as it is met; a slice's spare places count too). A statement '..UptoSaid' is the law's where the arguments, and the package variables that the reading takes, are together of bulk at most 1048576: NARROWER than '..Said'. Prove '..Said' where nothing that the law and all that it calls make is longer than what came in: it says more and counts as full. Else prove '..UptoSaid'. A law counts once. -/
mutual
def uptoBulk {H : Type} : DataW H → Nat
  | .lit (.string bytes) => bytes.length + 1
  | .lit _ => 1
  | .nil => 1
  | .ptr d => uptoBulk d + 1
  | .slice elems spare => uptoBulkAll elems + uptoBulkAll spare + 1
  | .agg parts => uptoBulkAll parts + 1
  | .iface _ d => uptoBulk d + 1
  | .map entries => uptoBulkEntries entries + 1
  | .held _ => 1
def uptoBulkAll {H : Type} : List (DataW H) → Nat
  | [] => 0
  | d :: r => uptoBulk d + uptoBulkAll r
def uptoBulkEntries {H : Type} : List (Lit × DataW H) → Nat
  | [] => 0
  | x :: r => uptoBulkEntry x + uptoBulkEntries r
def uptoBulkEntry {H : Type} : Lit × DataW H → Nat
  | (.string bytes, d) => bytes.length + uptoBulk d + 1
  | (_, d) => uptoBulk d + 1
 end
def uptoSmall : (H : Type) → List (DataW H) → Bool := fun _ ds => decide (uptoBulkAll ds ≤ 1048576)
def OpenSpec.upto (s : _root_.Go.ChangeSpec) : _root_.Go.OpenSpec := { _root_.Go.OpenSpec.ofChange s with cond := some uptoSmall }

/-- 'multihoplaw02.ChecksumSums', WHERE WHAT IT READS IS OF BULK AT MOST 1048576: true; the input reads as it did. -/
def checksumSumsUptoRow : OpenClaim := { program := "ytgacmiobfopoeaa", sum := "5c11b59254e8d3bedd8bc205cdd2940a3ce6d175f89f6fa455f0aa83288bdc31", func := "multihop/multihoplaw02.ChecksumSums", spec := "checksumSums", apart := false, narrowed := true }
def ChecksumSumsUptoSaid : Prop := checksumSumsUptoRow.holds Try.pinned (OpenSpec.upto checksumSumsSpec)

/-- 'multihoplaw02.ChecksumCRCs', WHERE WHAT IT READS IS OF BULK AT MOST 1048576: true; the input reads as it did. -/
def checksumCRCsUptoRow : OpenClaim := { program := "ytgacmiobfopoeaa", sum := "5c11b59254e8d3bedd8bc205cdd2940a3ce6d175f89f6fa455f0aa83288bdc31", func := "multihop/multihoplaw02.ChecksumCRCs", spec := "checksumCRCs", apart := false, narrowed := true }
def ChecksumCRCsUptoSaid : Prop := checksumCRCsUptoRow.holds Try.pinned (OpenSpec.upto checksumCRCsSpec)

/-- 'multihoplaw02.ChecksumZero', WHERE WHAT IT READS IS OF BULK AT MOST 1048576: true; the input reads as it did. -/
def checksumZeroUptoRow : OpenClaim := { program := "ytgacmiobfopoeaa", sum := "5c11b59254e8d3bedd8bc205cdd2940a3ce6d175f89f6fa455f0aa83288bdc31", func := "multihop/multihoplaw02.ChecksumZero", spec := "checksumZero", apart := false, narrowed := true }
def ChecksumZeroUptoSaid : Prop := checksumZeroUptoRow.holds Try.pinned (OpenSpec.upto checksumZeroSpec)

/-- 'multihoplaw02.ChecksumUpdates', WHERE WHAT IT READS IS OF BULK AT MOST 1048576: true; the input reads as it did. -/
def checksumUpdatesUptoRow : OpenClaim := { program := "ytgacmiobfopoeaa", sum := "5c11b59254e8d3bedd8bc205cdd2940a3ce6d175f89f6fa455f0aa83288bdc31", func := "multihop/multihoplaw02.ChecksumUpdates", spec := "checksumUpdates", apart := false, narrowed := true }
def ChecksumUpdatesUptoSaid : Prop := checksumUpdatesUptoRow.holds Try.pinned (OpenSpec.upto checksumUpdatesSpec)

/-- 'multihoplaw02.ChecksumParts', WHERE WHAT IT READS IS OF BULK AT MOST 1048576: true; the input reads as it did. -/
def checksumPartsUptoRow : OpenClaim := { program := "ytgacmiobfopoeaa", sum := "5c11b59254e8d3bedd8bc205cdd2940a3ce6d175f89f6fa455f0aa83288bdc31", func := "multihop/multihoplaw02.ChecksumParts", spec := "checksumParts", apart := false, narrowed := true }
def ChecksumPartsUptoSaid : Prop := checksumPartsUptoRow.holds Try.pinned (OpenSpec.upto checksumPartsSpec)

/-- 'multihoplaw02.ChecksumExtends', WHERE WHAT IT READS IS OF BULK AT MOST 1048576: true; the input reads as it did. -/
def checksumExtendsUptoRow : OpenClaim := { program := "ytgacmiobfopoeaa", sum := "5c11b59254e8d3bedd8bc205cdd2940a3ce6d175f89f6fa455f0aa83288bdc31", func := "multihop/multihoplaw02.ChecksumExtends", spec := "checksumExtends", apart := false, narrowed := true }
def ChecksumExtendsUptoSaid : Prop := checksumExtendsUptoRow.holds Try.pinned (OpenSpec.upto checksumExtendsSpec)

/-- 'multihoplaw02.ChecksumBursts', WHERE WHAT IT READS IS OF BULK AT MOST 1048576: true; the input reads as it did. -/
def checksumBurstsUptoRow : OpenClaim := { program := "ytgacmiobfopoeaa", sum := "5c11b59254e8d3bedd8bc205cdd2940a3ce6d175f89f6fa455f0aa83288bdc31", func := "multihop/multihoplaw02.ChecksumBursts", spec := "checksumBursts", apart := false, narrowed := true }
def ChecksumBurstsUptoSaid : Prop := checksumBurstsUptoRow.holds Try.pinned (OpenSpec.upto checksumBurstsSpec)

/-- 'multihoplaw02.ChecksumOrder', WHERE WHAT IT READS IS OF BULK AT MOST 1048576: true; the input reads as it did. -/
def checksumOrderUptoRow : OpenClaim := { program := "ytgacmiobfopoeaa", sum := "5c11b59254e8d3bedd8bc205cdd2940a3ce6d175f89f6fa455f0aa83288bdc31", func := "multihop/multihoplaw02.ChecksumOrder", spec := "checksumOrder", apart := false, narrowed := true }
def ChecksumOrderUptoSaid : Prop := checksumOrderUptoRow.holds Try.pinned (OpenSpec.upto checksumOrderSpec)

end Rows
end Go.Proofs.Ytgacmiobfopoeaa
