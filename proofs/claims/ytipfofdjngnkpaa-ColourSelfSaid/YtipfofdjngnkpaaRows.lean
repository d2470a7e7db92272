/-
  No cell of these rows narrows 'for every input' (looked for: loops, veiled, ifaces, maps, wideKeys, modest, calm, conditions, laid).
  DERIVED. THE GIVEN ROWS OF THIS SEAT. 8 by the template 'for every input the law returns true; each argument reads behind the call as it read before'; 0 by the template 'total and deterministic' (their statements: YtipfofdjngnkpaaTotals.lean).
  GIVEN WITH THE SEED: the statements are not yours to turn. If you find one false, say at which input.
  Laid BY PROGRAM, IN A SANDBOX (cutbox-rows.mjs): the forced cells as the released guide's own fill.sh prints them over the translation 15c9ce01448d70f8… (all of the seat's roots in one cut). By AI agents, Wed Nov 11 2026. No macro, syntax, notation, axiom, sorry.
-/
import Derived.Test.YtipfofdjngnkpaaChecked
import GoSem.Claim
import GoSem.ClaimJoined
import GoSem.ClaimMapViews
import Derived.JoinedTies
import Derived.KernelRfl
namespace Go.Proofs.Ytipfofdjngnkpaa
/- THE CELL 'sum', in the pinned program and in every row, IS THE sha256 OF THE DUMP (.gsa) THAT YtipfofdjngnkpaaProg.lean LOADS. Nothing in Lean hashes anything: it is a label: what it is worth is what the hold of that sum in a sandbox is worth. -/
noncomputable def Try.pinned : Pinned := { name := "ytipfofdjngnkpaa", sum := "15c9ce01448d70f88aca5b61aaa17eb8d5bbfff567d8c828724a0f4650d92aa3", checked := Try.checked }
namespace Rows
def none {H : Type} : Left H := { results := [], args := [] }

/-- 'luminairelaw11.ColourMixes': WHATEVER THE INPUT: true; the input reads as it did. -/
def colourMixesSpec : ChangeSpec := { name := "colourMixes", fn := fun _ => fun
  | [d1, d2] => { results := [.lit (.bool true)], args := [d1, d2] }
  | _ => none }
def colourMixesRow : OpenClaim := { program := "ytipfofdjngnkpaa", sum := "15c9ce01448d70f88aca5b61aaa17eb8d5bbfff567d8c828724a0f4650d92aa3", func := "luminaire/luminairelaw11.ColourMixes", spec := "colourMixes", unfollowed := true, recurses := true, apart := false }
def ColourMixesSaid : Prop := colourMixesRow.holds Try.pinned (OpenSpec.ofChange colourMixesSpec)

/-- ITS FALSE NEIGHBOUR: 'it returns false'. Refute it at one input. -/
def colourMixesWrong : ChangeSpec := { name := "colourMixes", fn := fun _ => fun
  | [d1, d2] => { results := [.lit (.bool false)], args := [d1, d2] }
  | _ => none }
def ColourMixesWrongFalsely : Prop := colourMixesRow.holds Try.pinned (OpenSpec.ofChange colourMixesWrong)

/-- 'luminairelaw11.ColourLights': WHATEVER THE INPUT: true; the input reads as it did. -/
def colourLightsSpec : ChangeSpec := { name := "colourLights", fn := fun _ => fun
  | [d1, d2] => { results := [.lit (.bool true)], args := [d1, d2] }
  | _ => none }
def colourLightsRow : OpenClaim := { program := "ytipfofdjngnkpaa", sum := "15c9ce01448d70f88aca5b61aaa17eb8d5bbfff567d8c828724a0f4650d92aa3", func := "luminaire/luminairelaw11.ColourLights", spec := "colourLights", unfollowed := true, recurses := true, apart := false }
def ColourLightsSaid : Prop := colourLightsRow.holds Try.pinned (OpenSpec.ofChange colourLightsSpec)

/-- ITS FALSE NEIGHBOUR: 'it returns false'. Refute it at one input. -/
def colourLightsWrong : ChangeSpec := { name := "colourLights", fn := fun _ => fun
  | [d1, d2] => { results := [.lit (.bool false)], args := [d1, d2] }
  | _ => none }
def ColourLightsWrongFalsely : Prop := colourLightsRow.holds Try.pinned (OpenSpec.ofChange colourLightsWrong)

/-- 'luminairelaw11.ColourWheels': WHATEVER THE INPUT: true; the input reads as it did. -/
def colourWheelsSpec : ChangeSpec := { name := "colourWheels", fn := fun _ => fun
  | [d] => { results := [.lit (.bool true)], args := [d] }
  | _ => none }
def colourWheelsRow : OpenClaim := { program := "ytipfofdjngnkpaa", sum := "15c9ce01448d70f88aca5b61aaa17eb8d5bbfff567d8c828724a0f4650d92aa3", func := "luminaire/luminairelaw11.ColourWheels", spec := "colourWheels", unfollowed := true, recurses := true, apart := false }
def ColourWheelsSaid : Prop := colourWheelsRow.holds Try.pinned (OpenSpec.ofChange colourWheelsSpec)

/-- ITS FALSE NEIGHBOUR: 'it returns false'. Refute it at one input. -/
def colourWheelsWrong : ChangeSpec := { name := "colourWheels", fn := fun _ => fun
  | [d] => { results := [.lit (.bool false)], args := [d] }
  | _ => none }
def ColourWheelsWrongFalsely : Prop := colourWheelsRow.holds Try.pinned (OpenSpec.ofChange colourWheelsWrong)

/-- 'luminairelaw11.ColourNearest': WHATEVER THE INPUT: true; the input reads as it did. -/
def colourNearestSpec : ChangeSpec := { name := "colourNearest", fn := fun _ => fun
  | [d1, d2] => { results := [.lit (.bool true)], args := [d1, d2] }
  | _ => none }
def colourNearestRow : OpenClaim := { program := "ytipfofdjngnkpaa", sum := "15c9ce01448d70f88aca5b61aaa17eb8d5bbfff567d8c828724a0f4650d92aa3", func := "luminaire/luminairelaw11.ColourNearest", spec := "colourNearest", unfollowed := true, recurses := true, apart := false }
def ColourNearestSaid : Prop := colourNearestRow.holds Try.pinned (OpenSpec.ofChange colourNearestSpec)

/-- ITS FALSE NEIGHBOUR: 'it returns false'. Refute it at one input. -/
def colourNearestWrong : ChangeSpec := { name := "colourNearest", fn := fun _ => fun
  | [d1, d2] => { results := [.lit (.bool false)], args := [d1, d2] }
  | _ => none }
def ColourNearestWrongFalsely : Prop := colourNearestRow.holds Try.pinned (OpenSpec.ofChange colourNearestWrong)

/-- 'luminairelaw11.ColourReturns': WHATEVER THE INPUT: true; the input reads as it did. -/
def colourReturnsSpec : ChangeSpec := { name := "colourReturns", fn := fun _ => fun
  | [d1, d2] => { results := [.lit (.bool true)], args := [d1, d2] }
  | _ => none }
def colourReturnsRow : OpenClaim := { program := "ytipfofdjngnkpaa", sum := "15c9ce01448d70f88aca5b61aaa17eb8d5bbfff567d8c828724a0f4650d92aa3", func := "luminaire/luminairelaw11.ColourReturns", spec := "colourReturns", unfollowed := true, recurses := true, apart := false }
def ColourReturnsSaid : Prop := colourReturnsRow.holds Try.pinned (OpenSpec.ofChange colourReturnsSpec)

/-- ITS FALSE NEIGHBOUR: 'it returns false'. Refute it at one input. -/
def colourReturnsWrong : ChangeSpec := { name := "colourReturns", fn := fun _ => fun
  | [d1, d2] => { results := [.lit (.bool false)], args := [d1, d2] }
  | _ => none }
def ColourReturnsWrongFalsely : Prop := colourReturnsRow.holds Try.pinned (OpenSpec.ofChange colourReturnsWrong)

/-- 'luminairelaw11.ColourOrders': WHATEVER THE INPUT: true; the input reads as it did. -/
def colourOrdersSpec : ChangeSpec := { name := "colourOrders", fn := fun _ => fun
  | [d1, d2, d3] => { results := [.lit (.bool true)], args := [d1, d2, d3] }
  | _ => none }
def colourOrdersRow : OpenClaim := { program := "ytipfofdjngnkpaa", sum := "15c9ce01448d70f88aca5b61aaa17eb8d5bbfff567d8c828724a0f4650d92aa3", func := "luminaire/luminairelaw11.ColourOrders", spec := "colourOrders", unfollowed := true, recurses := true, apart := false }
def ColourOrdersSaid : Prop := colourOrdersRow.holds Try.pinned (OpenSpec.ofChange colourOrdersSpec)

/-- ITS FALSE NEIGHBOUR: 'it returns false'. Refute it at one input. -/
def colourOrdersWrong : ChangeSpec := { name := "colourOrders", fn := fun _ => fun
  | [d1, d2, d3] => { results := [.lit (.bool false)], args := [d1, d2, d3] }
  | _ => none }
def ColourOrdersWrongFalsely : Prop := colourOrdersRow.holds Try.pinned (OpenSpec.ofChange colourOrdersWrong)

/-- 'luminairelaw11.ColourHues': WHATEVER THE INPUT: true; the input reads as it did. -/
def colourHuesSpec : ChangeSpec := { name := "colourHues", fn := fun _ => fun
  | [d1, d2] => { results := [.lit (.bool true)], args := [d1, d2] }
  | _ => none }
def colourHuesRow : OpenClaim := { program := "ytipfofdjngnkpaa", sum := "15c9ce01448d70f88aca5b61aaa17eb8d5bbfff567d8c828724a0f4650d92aa3", func := "luminaire/luminairelaw11.ColourHues", spec := "colourHues", unfollowed := true, recurses := true, apart := false }
def ColourHuesSaid : Prop := colourHuesRow.holds Try.pinned (OpenSpec.ofChange colourHuesSpec)

/-- ITS FALSE NEIGHBOUR: 'it returns false'. Refute it at one input. -/
def colourHuesWrong : ChangeSpec := { name := "colourHues", fn := fun _ => fun
  | [d1, d2] => { results := [.lit (.bool false)], args := [d1, d2] }
  | _ => none }
def ColourHuesWrongFalsely : Prop := colourHuesRow.holds Try.pinned (OpenSpec.ofChange colourHuesWrong)

/-- 'luminairelaw11.ColourSelf': WHATEVER THE INPUT: true; the input reads as it did. -/
def colourSelfSpec : ChangeSpec := { name := "colourSelf", fn := fun _ => fun
  | [d1, d2, d3] => { results := [.lit (.bool true)], args := [d1, d2, d3] }
  | _ => none }
def colourSelfRow : OpenClaim := { program := "ytipfofdjngnkpaa", sum := "15c9ce01448d70f88aca5b61aaa17eb8d5bbfff567d8c828724a0f4650d92aa3", func := "luminaire/luminairelaw11.ColourSelf", spec := "colourSelf", unfollowed := true, recurses := true, apart := false }
def ColourSelfSaid : Prop := colourSelfRow.holds Try.pinned (OpenSpec.ofChange colourSelfSpec)

/-- ITS FALSE NEIGHBOUR: 'it returns false'. Refute it at one input. -/
def colourSelfWrong : ChangeSpec := { name := "colourSelf", fn := fun _ => fun
  | [d1, d2, d3] => { results := [.lit (.bool false)], args := [d1, d2, d3] }
  | _ => none }
def ColourSelfWrongFalsely : Prop := colourSelfRow.holds Try.pinned (OpenSpec.ofChange colourSelfWrong)

/- THE SECOND FORM. 'bulk': how many values and letters a reading holds, each counted each time it is reached (what is shared counts as often as it is met; a slice's spare places count too). A statement '..UptoSaid' is the law's where the arguments, and the package variables that the reading takes, are together of bulk at most 1048576: NARROWER than '..Said'. Prove '..Said' where nothing that the law and all that it calls make is longer than what came in: it says more and counts as full. Else prove '..UptoSaid'. A law counts once. -/
mutual
def uptoBulk {H : Type} : DataW H → Nat
  | .lit (.string bytes) => bytes.length + 1
  | .lit _ => 1
  | .nil => 1
  | .ptr d => uptoBulk d + 1
  | .slice elems spare => uptoBulkAll elems + uptoBulkAll spare + 1
  | .agg parts => uptoBulkAll parts + 1
  | .iface _ d => uptoBulk d + 1
  | .map entries => uptoBulkEntries entries + 1
  | .held _ => 1
def uptoBulkAll {H : Type} : List (DataW H) → Nat
  | [] => 0
  | d :: r => uptoBulk d + uptoBulkAll r
def uptoBulkEntries {H : Type} : List (Lit × DataW H) → Nat
  | [] => 0
  | x :: r => uptoBulkEntry x + uptoBulkEntries r
def uptoBulkEntry {H : Type} : Lit × DataW H → Nat
  | (.string bytes, d) => bytes.length + uptoBulk d + 1
  | (_, d) => uptoBulk d + 1
 end
def uptoSmall : (H : Type) → List (DataW H) → Bool := fun _ ds => decide (uptoBulkAll ds ≤ 1048576)
def OpenSpec.upto (s : _root_.Go.ChangeSpec) : _root_.Go.OpenSpec := { _root_.Go.OpenSpec.ofChange s with cond := some uptoSmall }

/-- 'luminairelaw11.ColourMixes', WHERE WHAT IT READS IS OF BULK AT MOST 1048576: true; the input reads as it did. -/
def colourMixesUptoRow : OpenClaim := { program := "ytipfofdjngnkpaa", sum := "15c9ce01448d70f88aca5b61aaa17eb8d5bbfff567d8c828724a0f4650d92aa3", func := "luminaire/luminairelaw11.ColourMixes", spec := "colourMixes", unfollowed := true, recurses := true, apart := false, narrowed := true }
def ColourMixesUptoSaid : Prop := colourMixesUptoRow.holds Try.pinned (OpenSpec.upto colourMixesSpec)

/-- 'luminairelaw11.ColourLights', WHERE WHAT IT READS IS OF BULK AT MOST 1048576: true; the input reads as it did. -/
def colourLightsUptoRow : OpenClaim := { program := "ytipfofdjngnkpaa", sum := "15c9ce01448d70f88aca5b61aaa17eb8d5bbfff567d8c828724a0f4650d92aa3", func := "luminaire/luminairelaw11.ColourLights", spec := "colourLights", unfollowed := true, recurses := true, apart := false, narrowed := true }
def ColourLightsUptoSaid : Prop := colourLightsUptoRow.holds Try.pinned (OpenSpec.upto colourLightsSpec)

/-- 'luminairelaw11.ColourWheels', WHERE WHAT IT READS IS OF BULK AT MOST 1048576: true; the input reads as it did. -/
def colourWheelsUptoRow : OpenClaim := { program := "ytipfofdjngnkpaa", sum := "15c9ce01448d70f88aca5b61aaa17eb8d5bbfff567d8c828724a0f4650d92aa3", func := "luminaire/luminairelaw11.ColourWheels", spec := "colourWheels", unfollowed := true, recurses := true, apart := false, narrowed := true }
def ColourWheelsUptoSaid : Prop := colourWheelsUptoRow.holds Try.pinned (OpenSpec.upto colourWheelsSpec)

/-- 'luminairelaw11.ColourNearest', WHERE WHAT IT READS IS OF BULK AT MOST 1048576: true; the input reads as it did. -/
def colourNearestUptoRow : OpenClaim := { program := "ytipfofdjngnkpaa", sum := "15c9ce01448d70f88aca5b61aaa17eb8d5bbfff567d8c828724a0f4650d92aa3", func := "luminaire/luminairelaw11.ColourNearest", spec := "colourNearest", unfollowed := true, recurses := true, apart := false, narrowed := true }
def ColourNearestUptoSaid : Prop := colourNearestUptoRow.holds Try.pinned (OpenSpec.upto colourNearestSpec)

/-- 'luminairelaw11.ColourReturns', WHERE WHAT IT READS IS OF BULK AT MOST 1048576: true; the input reads as it did. -/
def colourReturnsUptoRow : OpenClaim := { program := "ytipfofdjngnkpaa", sum := "15c9ce01448d70f88aca5b61aaa17eb8d5bbfff567d8c828724a0f4650d92aa3", func := "luminaire/luminairelaw11.ColourReturns", spec := "colourReturns", unfollowed := true, recurses := true, apart := false, narrowed := true }
def ColourReturnsUptoSaid : Prop := colourReturnsUptoRow.holds Try.pinned (OpenSpec.upto colourReturnsSpec)

/-- 'luminairelaw11.ColourOrders', WHERE WHAT IT READS IS OF BULK AT MOST 1048576: true; the input reads as it did. -/
def colourOrdersUptoRow : OpenClaim := { program := "ytipfofdjngnkpaa", sum := "15c9ce01448d70f88aca5b61aaa17eb8d5bbfff567d8c828724a0f4650d92aa3", func := "luminaire/luminairelaw11.ColourOrders", spec := "colourOrders", unfollowed := true, recurses := true, apart := false, narrowed := true }
def ColourOrdersUptoSaid : Prop := colourOrdersUptoRow.holds Try.pinned (OpenSpec.upto colourOrdersSpec)

/-- 'luminairelaw11.ColourHues', WHERE WHAT IT READS IS OF BULK AT MOST 1048576: true; the input reads as it did. -/
def colourHuesUptoRow : OpenClaim := { program := "ytipfofdjngnkpaa", sum := "15c9ce01448d70f88aca5b61aaa17eb8d5bbfff567d8c828724a0f4650d92aa3", func := "luminaire/luminairelaw11.ColourHues", spec := "colourHues", unfollowed := true, recurses := true, apart := false, narrowed := true }
def ColourHuesUptoSaid : Prop := colourHuesUptoRow.holds Try.pinned (OpenSpec.upto colourHuesSpec)

/-- 'luminairelaw11.ColourSelf', WHERE WHAT IT READS IS OF BULK AT MOST 1048576: true; the input reads as it did. -/
def colourSelfUptoRow : OpenClaim := { program := "ytipfofdjngnkpaa", sum := "15c9ce01448d70f88aca5b61aaa17eb8d5bbfff567d8c828724a0f4650d92aa3", func := "luminaire/luminairelaw11.ColourSelf", spec := "colourSelf", unfollowed := true, recurses := true, apart := false, narrowed := true }
def ColourSelfUptoSaid : Prop := colourSelfUptoRow.holds Try.pinned (OpenSpec.upto colourSelfSpec)

end Rows
end Go.Proofs.Ytipfofdjngnkpaa
