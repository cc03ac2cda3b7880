/-
  No cell of these rows narrows 'for every input' (looked for: loops, veiled, ifaces, maps, wideKeys, modest, calm, conditions, laid).
  DERIVED. THE GIVEN ROWS OF THIS SEAT. 12 by the template 'for every input the law returns true; each argument reads behind the call as it read before'; 0 by the template 'total and deterministic' (their statements: YthkndfkkgncjfaaTotals.lean).
  GIVEN WITH THE SEED: the statements are not yours to turn. If you find one false, say at which input.
  Laid BY PROGRAM, IN A SANDBOX (cutbox-rows.mjs): the forced cells as the released guide's own fill.sh prints them over the translation 5b3c1babfa0c094b… (all of the seat's roots in one cut). By AI agents, Wed Nov 11 2026. No macro, syntax, notation, axiom, sorry.
-/
import Derived.Test.YthkndfkkgncjfaaChecked
import GoSem.Claim
import GoSem.ClaimJoined
import GoSem.ClaimMapViews
import Derived.JoinedTies
import Derived.KernelRfl
namespace Go.Proofs.Ythkndfkkgncjfaa
/- THE CELL 'sum', in the pinned program and in every row, IS THE sha256 OF THE DUMP (.gsa) THAT YthkndfkkgncjfaaProg.lean LOADS. Nothing in Lean hashes anything: it is a label: what it is worth is what the hold of that sum in a sandbox is worth. -/
noncomputable def Try.pinned : Pinned := { name := "ythkndfkkgncjfaa", sum := "5b3c1babfa0c094bd3f579d7a7418923d7e9dc00074af736b6a874da20b511e5", checked := Try.checked }
namespace Rows
def none {H : Type} : Left H := { results := [], args := [] }

/-- 'foliolaw.Orders': WHATEVER THE INPUT: true; the input reads as it did. -/
def ordersSpec : ChangeSpec := { name := "orders", fn := fun _ => fun
  | [d] => { results := [.lit (.bool true)], args := [d] }
  | _ => none }
def ordersRow : OpenClaim := { program := "ythkndfkkgncjfaa", sum := "5b3c1babfa0c094bd3f579d7a7418923d7e9dc00074af736b6a874da20b511e5", func := "folio/foliolaw.Orders", spec := "orders", apart := false }
def OrdersSaid : Prop := ordersRow.holds Try.pinned (OpenSpec.ofChange ordersSpec)

/-- ITS FALSE NEIGHBOUR: 'it returns false'. Refute it at one input. -/
def ordersWrong : ChangeSpec := { name := "orders", fn := fun _ => fun
  | [d] => { results := [.lit (.bool false)], args := [d] }
  | _ => none }
def OrdersWrongFalsely : Prop := ordersRow.holds Try.pinned (OpenSpec.ofChange ordersWrong)

/-- 'foliolaw.Turns': WHATEVER THE INPUT: true; the input reads as it did. -/
def turnsSpec : ChangeSpec := { name := "turns", fn := fun _ => fun
  | [d1, d2, d3] => { results := [.lit (.bool true)], args := [d1, d2, d3] }
  | _ => none }
def turnsRow : OpenClaim := { program := "ythkndfkkgncjfaa", sum := "5b3c1babfa0c094bd3f579d7a7418923d7e9dc00074af736b6a874da20b511e5", func := "folio/foliolaw.Turns", spec := "turns", apart := false }
def TurnsSaid : Prop := turnsRow.holds Try.pinned (OpenSpec.ofChange turnsSpec)

/-- ITS FALSE NEIGHBOUR: 'it returns false'. Refute it at one input. -/
def turnsWrong : ChangeSpec := { name := "turns", fn := fun _ => fun
  | [d1, d2, d3] => { results := [.lit (.bool false)], args := [d1, d2, d3] }
  | _ => none }
def TurnsWrongFalsely : Prop := turnsRow.holds Try.pinned (OpenSpec.ofChange turnsWrong)

/-- 'foliokeep.Sorted': WHATEVER THE INPUT: true; the input reads as it did. -/
def sortedSpec : ChangeSpec := { name := "sorted", fn := fun _ => fun
  | [d] => { results := [.lit (.bool true)], args := [d] }
  | _ => none }
def sortedRow : OpenClaim := { program := "ythkndfkkgncjfaa", sum := "5b3c1babfa0c094bd3f579d7a7418923d7e9dc00074af736b6a874da20b511e5", func := "folio/foliokeep.Sorted", spec := "sorted", apart := false }
def SortedSaid : Prop := sortedRow.holds Try.pinned (OpenSpec.ofChange sortedSpec)

/-- ITS FALSE NEIGHBOUR: 'it returns false'. Refute it at one input. -/
def sortedWrong : ChangeSpec := { name := "sorted", fn := fun _ => fun
  | [d] => { results := [.lit (.bool false)], args := [d] }
  | _ => none }
def SortedWrongFalsely : Prop := sortedRow.holds Try.pinned (OpenSpec.ofChange sortedWrong)

/-- 'foliokeep.Round': WHATEVER THE INPUT: true; the input reads as it did. -/
def roundSpec : ChangeSpec := { name := "round", fn := fun _ => fun
  | [d1, d2, d3] => { results := [.lit (.bool true)], args := [d1, d2, d3] }
  | _ => none }
def roundRow : OpenClaim := { program := "ythkndfkkgncjfaa", sum := "5b3c1babfa0c094bd3f579d7a7418923d7e9dc00074af736b6a874da20b511e5", func := "folio/foliokeep.Round", spec := "round", apart := false }
def RoundSaid : Prop := roundRow.holds Try.pinned (OpenSpec.ofChange roundSpec)

/-- ITS FALSE NEIGHBOUR: 'it returns false'. Refute it at one input. -/
def roundWrong : ChangeSpec := { name := "round", fn := fun _ => fun
  | [d1, d2, d3] => { results := [.lit (.bool false)], args := [d1, d2, d3] }
  | _ => none }
def RoundWrongFalsely : Prop := roundRow.holds Try.pinned (OpenSpec.ofChange roundWrong)

/-- 'foliokeep.Found': WHATEVER THE INPUT: true; the input reads as it did. -/
def foundSpec : ChangeSpec := { name := "found", fn := fun _ => fun
  | [d1, d2] => { results := [.lit (.bool true)], args := [d1, d2] }
  | _ => none }
def foundRow : OpenClaim := { program := "ythkndfkkgncjfaa", sum := "5b3c1babfa0c094bd3f579d7a7418923d7e9dc00074af736b6a874da20b511e5", func := "folio/foliokeep.Found", spec := "found", apart := false }
def FoundSaid : Prop := foundRow.holds Try.pinned (OpenSpec.ofChange foundSpec)

/-- ITS FALSE NEIGHBOUR: 'it returns false'. Refute it at one input. -/
def foundWrong : ChangeSpec := { name := "found", fn := fun _ => fun
  | [d1, d2] => { results := [.lit (.bool false)], args := [d1, d2] }
  | _ => none }
def FoundWrongFalsely : Prop := foundRow.holds Try.pinned (OpenSpec.ofChange foundWrong)

/-- 'foliolaw.Changes': WHATEVER THE INPUT: true; the input reads as it did. -/
def changesSpec : ChangeSpec := { name := "changes", fn := fun _ => fun
  | [d] => { results := [.lit (.bool true)], args := [d] }
  | _ => none }
def changesRow : OpenClaim := { program := "ythkndfkkgncjfaa", sum := "5b3c1babfa0c094bd3f579d7a7418923d7e9dc00074af736b6a874da20b511e5", func := "folio/foliolaw.Changes", spec := "changes", apart := false }
def ChangesSaid : Prop := changesRow.holds Try.pinned (OpenSpec.ofChange changesSpec)

/-- ITS FALSE NEIGHBOUR: 'it returns false'. Refute it at one input. -/
def changesWrong : ChangeSpec := { name := "changes", fn := fun _ => fun
  | [d] => { results := [.lit (.bool false)], args := [d] }
  | _ => none }
def ChangesWrongFalsely : Prop := changesRow.holds Try.pinned (OpenSpec.ofChange changesWrong)

/-- 'foliolaw.Reads': WHATEVER THE INPUT: true; the input reads as it did. -/
def readsSpec : ChangeSpec := { name := "reads", fn := fun _ => fun
  | [d] => { results := [.lit (.bool true)], args := [d] }
  | _ => none }
def readsRow : OpenClaim := { program := "ythkndfkkgncjfaa", sum := "5b3c1babfa0c094bd3f579d7a7418923d7e9dc00074af736b6a874da20b511e5", func := "folio/foliolaw.Reads", spec := "reads", apart := false }
def ReadsSaid : Prop := readsRow.holds Try.pinned (OpenSpec.ofChange readsSpec)

/-- ITS FALSE NEIGHBOUR: 'it returns false'. Refute it at one input. -/
def readsWrong : ChangeSpec := { name := "reads", fn := fun _ => fun
  | [d] => { results := [.lit (.bool false)], args := [d] }
  | _ => none }
def ReadsWrongFalsely : Prop := readsRow.holds Try.pinned (OpenSpec.ofChange readsWrong)

/-- 'foliolaw.Counts': WHATEVER THE INPUT: true; the input reads as it did. -/
def countsSpec : ChangeSpec := { name := "counts", fn := fun _ => fun
  | [d] => { results := [.lit (.bool true)], args := [d] }
  | _ => none }
def countsRow : OpenClaim := { program := "ythkndfkkgncjfaa", sum := "5b3c1babfa0c094bd3f579d7a7418923d7e9dc00074af736b6a874da20b511e5", func := "folio/foliolaw.Counts", spec := "counts", apart := false }
def CountsSaid : Prop := countsRow.holds Try.pinned (OpenSpec.ofChange countsSpec)

/-- ITS FALSE NEIGHBOUR: 'it returns false'. Refute it at one input. -/
def countsWrong : ChangeSpec := { name := "counts", fn := fun _ => fun
  | [d] => { results := [.lit (.bool false)], args := [d] }
  | _ => none }
def CountsWrongFalsely : Prop := countsRow.holds Try.pinned (OpenSpec.ofChange countsWrong)

/-- 'foliolaw.Locates': WHATEVER THE INPUT: true; the input reads as it did. -/
def locatesSpec : ChangeSpec := { name := "locates", fn := fun _ => fun
  | [d] => { results := [.lit (.bool true)], args := [d] }
  | _ => none }
def locatesRow : OpenClaim := { program := "ythkndfkkgncjfaa", sum := "5b3c1babfa0c094bd3f579d7a7418923d7e9dc00074af736b6a874da20b511e5", func := "folio/foliolaw.Locates", spec := "locates", apart := false }
def LocatesSaid : Prop := locatesRow.holds Try.pinned (OpenSpec.ofChange locatesSpec)

/-- ITS FALSE NEIGHBOUR: 'it returns false'. Refute it at one input. -/
def locatesWrong : ChangeSpec := { name := "locates", fn := fun _ => fun
  | [d] => { results := [.lit (.bool false)], args := [d] }
  | _ => none }
def LocatesWrongFalsely : Prop := locatesRow.holds Try.pinned (OpenSpec.ofChange locatesWrong)

/-- 'foliokeep.Kept': WHATEVER THE INPUT: true; the input reads as it did. -/
def keptSpec : ChangeSpec := { name := "kept", fn := fun _ => fun
  | [d1, d2, d3] => { results := [.lit (.bool true)], args := [d1, d2, d3] }
  | _ => none }
def keptRow : OpenClaim := { program := "ythkndfkkgncjfaa", sum := "5b3c1babfa0c094bd3f579d7a7418923d7e9dc00074af736b6a874da20b511e5", func := "folio/foliokeep.Kept", spec := "kept", apart := false }
def KeptSaid : Prop := keptRow.holds Try.pinned (OpenSpec.ofChange keptSpec)

/-- ITS FALSE NEIGHBOUR: 'it returns false'. Refute it at one input. -/
def keptWrong : ChangeSpec := { name := "kept", fn := fun _ => fun
  | [d1, d2, d3] => { results := [.lit (.bool false)], args := [d1, d2, d3] }
  | _ => none }
def KeptWrongFalsely : Prop := keptRow.holds Try.pinned (OpenSpec.ofChange keptWrong)

/-- 'foliokeep.Paged': WHATEVER THE INPUT: true; the input reads as it did. -/
def pagedSpec : ChangeSpec := { name := "paged", fn := fun _ => fun
  | [d1, d2, d3, d4] => { results := [.lit (.bool true)], args := [d1, d2, d3, d4] }
  | _ => none }
def pagedRow : OpenClaim := { program := "ythkndfkkgncjfaa", sum := "5b3c1babfa0c094bd3f579d7a7418923d7e9dc00074af736b6a874da20b511e5", func := "folio/foliokeep.Paged", spec := "paged", apart := false }
def PagedSaid : Prop := pagedRow.holds Try.pinned (OpenSpec.ofChange pagedSpec)

/-- ITS FALSE NEIGHBOUR: 'it returns false'. Refute it at one input. -/
def pagedWrong : ChangeSpec := { name := "paged", fn := fun _ => fun
  | [d1, d2, d3, d4] => { results := [.lit (.bool false)], args := [d1, d2, d3, d4] }
  | _ => none }
def PagedWrongFalsely : Prop := pagedRow.holds Try.pinned (OpenSpec.ofChange pagedWrong)

/-- 'foliokeep.Alike': WHATEVER THE INPUT: true; the input reads as it did. -/
def alikeSpec : ChangeSpec := { name := "alike", fn := fun _ => fun
  | [d1, d2, d3, d4, d5] => { results := [.lit (.bool true)], args := [d1, d2, d3, d4, d5] }
  | _ => none }
def alikeRow : OpenClaim := { program := "ythkndfkkgncjfaa", sum := "5b3c1babfa0c094bd3f579d7a7418923d7e9dc00074af736b6a874da20b511e5", func := "folio/foliokeep.Alike", spec := "alike", apart := false }
def AlikeSaid : Prop := alikeRow.holds Try.pinned (OpenSpec.ofChange alikeSpec)

/-- ITS FALSE NEIGHBOUR: 'it returns false'. Refute it at one input. -/
def alikeWrong : ChangeSpec := { name := "alike", fn := fun _ => fun
  | [d1, d2, d3, d4, d5] => { results := [.lit (.bool false)], args := [d1, d2, d3, d4, d5] }
  | _ => none }
def AlikeWrongFalsely : Prop := alikeRow.holds Try.pinned (OpenSpec.ofChange alikeWrong)

/- THE SECOND FORM. 'bulk': how many values and letters a reading holds, each counted each time it is reached (what is shared counts as often as it is met; a slice's spare places count too). A statement '..UptoSaid' is the law's where the arguments, and the package variables that the reading takes, are together of bulk at most 1048576: NARROWER than '..Said'. Prove '..Said' where nothing that the law and all that it calls make is longer than what came in: it says more and counts as full. Else prove '..UptoSaid'. A law counts once. -/
mutual
def uptoBulk {H : Type} : DataW H → Nat
  | .lit (.string bytes) => bytes.length + 1
  | .lit _ => 1
  | .nil => 1
  | .ptr d => uptoBulk d + 1
  | .slice elems spare => uptoBulkAll elems + uptoBulkAll spare + 1
  | .agg parts => uptoBulkAll parts + 1
  | .iface _ d => uptoBulk d + 1
  | .map entries => uptoBulkEntries entries + 1
  | .held _ => 1
def uptoBulkAll {H : Type} : List (DataW H) → Nat
  | [] => 0
  | d :: r => uptoBulk d + uptoBulkAll r
def uptoBulkEntries {H : Type} : List (Lit × DataW H) → Nat
  | [] => 0
  | x :: r => uptoBulkEntry x + uptoBulkEntries r
def uptoBulkEntry {H : Type} : Lit × DataW H → Nat
  | (.string bytes, d) => bytes.length + uptoBulk d + 1
  | (_, d) => uptoBulk d + 1
 end
def uptoSmall : (H : Type) → List (DataW H) → Bool := fun _ ds => decide (uptoBulkAll ds ≤ 1048576)
def OpenSpec.upto (s : _root_.Go.ChangeSpec) : _root_.Go.OpenSpec := { _root_.Go.OpenSpec.ofChange s with cond := some uptoSmall }

/-- 'foliolaw.Orders', WHERE WHAT IT READS IS OF BULK AT MOST 1048576: true; the input reads as it did. -/
def ordersUptoRow : OpenClaim := { program := "ythkndfkkgncjfaa", sum := "5b3c1babfa0c094bd3f579d7a7418923d7e9dc00074af736b6a874da20b511e5", func := "folio/foliolaw.Orders", spec := "orders", apart := false, narrowed := true }
def OrdersUptoSaid : Prop := ordersUptoRow.holds Try.pinned (OpenSpec.upto ordersSpec)

/-- 'foliolaw.Turns', WHERE WHAT IT READS IS OF BULK AT MOST 1048576: true; the input reads as it did. -/
def turnsUptoRow : OpenClaim := { program := "ythkndfkkgncjfaa", sum := "5b3c1babfa0c094bd3f579d7a7418923d7e9dc00074af736b6a874da20b511e5", func := "folio/foliolaw.Turns", spec := "turns", apart := false, narrowed := true }
def TurnsUptoSaid : Prop := turnsUptoRow.holds Try.pinned (OpenSpec.upto turnsSpec)

/-- 'foliokeep.Sorted', WHERE WHAT IT READS IS OF BULK AT MOST 1048576: true; the input reads as it did. -/
def sortedUptoRow : OpenClaim := { program := "ythkndfkkgncjfaa", sum := "5b3c1babfa0c094bd3f579d7a7418923d7e9dc00074af736b6a874da20b511e5", func := "folio/foliokeep.Sorted", spec := "sorted", apart := false, narrowed := true }
def SortedUptoSaid : Prop := sortedUptoRow.holds Try.pinned (OpenSpec.upto sortedSpec)

/-- 'foliokeep.Round', WHERE WHAT IT READS IS OF BULK AT MOST 1048576: true; the input reads as it did. -/
def roundUptoRow : OpenClaim := { program := "ythkndfkkgncjfaa", sum := "5b3c1babfa0c094bd3f579d7a7418923d7e9dc00074af736b6a874da20b511e5", func := "folio/foliokeep.Round", spec := "round", apart := false, narrowed := true }
def RoundUptoSaid : Prop := roundUptoRow.holds Try.pinned (OpenSpec.upto roundSpec)

/-- 'foliokeep.Found', WHERE WHAT IT READS IS OF BULK AT MOST 1048576: true; the input reads as it did. -/
def foundUptoRow : OpenClaim := { program := "ythkndfkkgncjfaa", sum := "5b3c1babfa0c094bd3f579d7a7418923d7e9dc00074af736b6a874da20b511e5", func := "folio/foliokeep.Found", spec := "found", apart := false, narrowed := true }
def FoundUptoSaid : Prop := foundUptoRow.holds Try.pinned (OpenSpec.upto foundSpec)

/-- 'foliolaw.Changes', WHERE WHAT IT READS IS OF BULK AT MOST 1048576: true; the input reads as it did. -/
def changesUptoRow : OpenClaim := { program := "ythkndfkkgncjfaa", sum := "5b3c1babfa0c094bd3f579d7a7418923d7e9dc00074af736b6a874da20b511e5", func := "folio/foliolaw.Changes", spec := "changes", apart := false, narrowed := true }
def ChangesUptoSaid : Prop := changesUptoRow.holds Try.pinned (OpenSpec.upto changesSpec)

/-- 'foliolaw.Reads', WHERE WHAT IT READS IS OF BULK AT MOST 1048576: true; the input reads as it did. -/
def readsUptoRow : OpenClaim := { program := "ythkndfkkgncjfaa", sum := "5b3c1babfa0c094bd3f579d7a7418923d7e9dc00074af736b6a874da20b511e5", func := "folio/foliolaw.Reads", spec := "reads", apart := false, narrowed := true }
def ReadsUptoSaid : Prop := readsUptoRow.holds Try.pinned (OpenSpec.upto readsSpec)

/-- 'foliolaw.Counts', WHERE WHAT IT READS IS OF BULK AT MOST 1048576: true; the input reads as it did. -/
def countsUptoRow : OpenClaim := { program := "ythkndfkkgncjfaa", sum := "5b3c1babfa0c094bd3f579d7a7418923d7e9dc00074af736b6a874da20b511e5", func := "folio/foliolaw.Counts", spec := "counts", apart := false, narrowed := true }
def CountsUptoSaid : Prop := countsUptoRow.holds Try.pinned (OpenSpec.upto countsSpec)

/-- 'foliolaw.Locates', WHERE WHAT IT READS IS OF BULK AT MOST 1048576: true; the input reads as it did. -/
def locatesUptoRow : OpenClaim := { program := "ythkndfkkgncjfaa", sum := "5b3c1babfa0c094bd3f579d7a7418923d7e9dc00074af736b6a874da20b511e5", func := "folio/foliolaw.Locates", spec := "locates", apart := false, narrowed := true }
def LocatesUptoSaid : Prop := locatesUptoRow.holds Try.pinned (OpenSpec.upto locatesSpec)

/-- 'foliokeep.Kept', WHERE WHAT IT READS IS OF BULK AT MOST 1048576: true; the input reads as it did. -/
def keptUptoRow : OpenClaim := { program := "ythkndfkkgncjfaa", sum := "5b3c1babfa0c094bd3f579d7a7418923d7e9dc00074af736b6a874da20b511e5", func := "folio/foliokeep.Kept", spec := "kept", apart := false, narrowed := true }
def KeptUptoSaid : Prop := keptUptoRow.holds Try.pinned (OpenSpec.upto keptSpec)

/-- 'foliokeep.Paged', WHERE WHAT IT READS IS OF BULK AT MOST 1048576: true; the input reads as it did. -/
def pagedUptoRow : OpenClaim := { program := "ythkndfkkgncjfaa", sum := "5b3c1babfa0c094bd3f579d7a7418923d7e9dc00074af736b6a874da20b511e5", func := "folio/foliokeep.Paged", spec := "paged", apart := false, narrowed := true }
def PagedUptoSaid : Prop := pagedUptoRow.holds Try.pinned (OpenSpec.upto pagedSpec)

/-- 'foliokeep.Alike', WHERE WHAT IT READS IS OF BULK AT MOST 1048576: true; the input reads as it did. -/
def alikeUptoRow : OpenClaim := { program := "ythkndfkkgncjfaa", sum := "5b3c1babfa0c094bd3f579d7a7418923d7e9dc00074af736b6a874da20b511e5", func := "folio/foliokeep.Alike", spec := "alike", apart := false, narrowed := true }
def AlikeUptoSaid : Prop := alikeUptoRow.holds Try.pinned (OpenSpec.upto alikeSpec)

end Rows
end Go.Proofs.Ythkndfkkgncjfaa
