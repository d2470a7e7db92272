/-
  No cell of these rows narrows 'for every input' (looked for: loops, veiled, ifaces, maps, wideKeys, modest, calm, conditions, laid).
  DERIVED. THE GIVEN ROWS OF THIS SEAT. 8 by the template 'for every input the law returns true; each argument reads behind the call as it read before'; 0 by the template 'total and deterministic' (their statements: YtebniicnaofdoaaTotals.lean).
  GIVEN WITH THE SEED: the statements are not yours to turn. If you find one false, say at which input.
  Laid BY PROGRAM, IN A SANDBOX (cutbox-rows.mjs): the forced cells as the released guide's own fill.sh prints them over the translation 747dc3e34144daf1… (all of the seat's roots in one cut). By AI agents, Wed Nov 11 2026. No macro, syntax, notation, axiom, sorry.
-/
import Derived.Test.YtebniicnaofdoaaChecked
import GoSem.Claim
import GoSem.ClaimJoined
import GoSem.ClaimMapViews
import Derived.JoinedTies
import Derived.KernelRfl
namespace Go.Proofs.Ytebniicnaofdoaa
/- THE CELL 'sum', in the pinned program and in every row, IS THE sha256 OF THE DUMP (.gsa) THAT YtebniicnaofdoaaProg.lean LOADS. Nothing in Lean hashes anything: it is a label: what it is worth is what the hold of that sum in a sandbox is worth. -/
noncomputable def Try.pinned : Pinned := { name := "ytebniicnaofdoaa", sum := "747dc3e34144daf1871c52691998ce62f820287e5ab013465ad30fe137286456", checked := Try.checked }
namespace Rows
def none {H : Type} : Left H := { results := [], args := [] }

/-- 'luminairelaw08.RecordInts': WHATEVER THE INPUT: true; the input reads as it did. -/
def recordIntsSpec : ChangeSpec := { name := "recordInts", fn := fun _ => fun
  | [d1, d2, d3] => { results := [.lit (.bool true)], args := [d1, d2, d3] }
  | _ => none }
def recordIntsRow : OpenClaim := { program := "ytebniicnaofdoaa", sum := "747dc3e34144daf1871c52691998ce62f820287e5ab013465ad30fe137286456", func := "luminaire/luminairelaw08.RecordInts", spec := "recordInts", apart := false }
def RecordIntsSaid : Prop := recordIntsRow.holds Try.pinned (OpenSpec.ofChange recordIntsSpec)

/-- ITS FALSE NEIGHBOUR: 'it returns false'. Refute it at one input. -/
def recordIntsWrong : ChangeSpec := { name := "recordInts", fn := fun _ => fun
  | [d1, d2, d3] => { results := [.lit (.bool false)], args := [d1, d2, d3] }
  | _ => none }
def RecordIntsWrongFalsely : Prop := recordIntsRow.holds Try.pinned (OpenSpec.ofChange recordIntsWrong)

/-- 'luminairelaw08.RecordTexts': WHATEVER THE INPUT: true; the input reads as it did. -/
def recordTextsSpec : ChangeSpec := { name := "recordTexts", fn := fun _ => fun
  | [d1, d2, d3] => { results := [.lit (.bool true)], args := [d1, d2, d3] }
  | _ => none }
def recordTextsRow : OpenClaim := { program := "ytebniicnaofdoaa", sum := "747dc3e34144daf1871c52691998ce62f820287e5ab013465ad30fe137286456", func := "luminaire/luminairelaw08.RecordTexts", spec := "recordTexts", apart := false }
def RecordTextsSaid : Prop := recordTextsRow.holds Try.pinned (OpenSpec.ofChange recordTextsSpec)

/-- ITS FALSE NEIGHBOUR: 'it returns false'. Refute it at one input. -/
def recordTextsWrong : ChangeSpec := { name := "recordTexts", fn := fun _ => fun
  | [d1, d2, d3] => { results := [.lit (.bool false)], args := [d1, d2, d3] }
  | _ => none }
def RecordTextsWrongFalsely : Prop := recordTextsRow.holds Try.pinned (OpenSpec.ofChange recordTextsWrong)

/-- 'luminairelaw08.RecordPacks': WHATEVER THE INPUT: true; the input reads as it did. -/
def recordPacksSpec : ChangeSpec := { name := "recordPacks", fn := fun _ => fun
  | [d] => { results := [.lit (.bool true)], args := [d] }
  | _ => none }
def recordPacksRow : OpenClaim := { program := "ytebniicnaofdoaa", sum := "747dc3e34144daf1871c52691998ce62f820287e5ab013465ad30fe137286456", func := "luminaire/luminairelaw08.RecordPacks", spec := "recordPacks", inPlace := ["internal/abi.NoEscape"], apart := false }
def RecordPacksSaid : Prop := recordPacksRow.holds Try.pinned (OpenSpec.ofChange recordPacksSpec)

/-- ITS FALSE NEIGHBOUR: 'it returns false'. Refute it at one input. -/
def recordPacksWrong : ChangeSpec := { name := "recordPacks", fn := fun _ => fun
  | [d] => { results := [.lit (.bool false)], args := [d] }
  | _ => none }
def RecordPacksWrongFalsely : Prop := recordPacksRow.holds Try.pinned (OpenSpec.ofChange recordPacksWrong)

/-- 'luminairelaw08.RecordReads': WHATEVER THE INPUT: true; the input reads as it did. -/
def recordReadsSpec : ChangeSpec := { name := "recordReads", fn := fun _ => fun
  | [d1, d2] => { results := [.lit (.bool true)], args := [d1, d2] }
  | _ => none }
def recordReadsRow : OpenClaim := { program := "ytebniicnaofdoaa", sum := "747dc3e34144daf1871c52691998ce62f820287e5ab013465ad30fe137286456", func := "luminaire/luminairelaw08.RecordReads", spec := "recordReads", apart := false }
def RecordReadsSaid : Prop := recordReadsRow.holds Try.pinned (OpenSpec.ofChange recordReadsSpec)

/-- ITS FALSE NEIGHBOUR: 'it returns false'. Refute it at one input. -/
def recordReadsWrong : ChangeSpec := { name := "recordReads", fn := fun _ => fun
  | [d1, d2] => { results := [.lit (.bool false)], args := [d1, d2] }
  | _ => none }
def RecordReadsWrongFalsely : Prop := recordReadsRow.holds Try.pinned (OpenSpec.ofChange recordReadsWrong)

/-- 'luminairelaw08.RecordNumbers': WHATEVER THE INPUT: true; the input reads as it did. -/
def recordNumbersSpec : ChangeSpec := { name := "recordNumbers", fn := fun _ => fun
  | [d1, d2] => { results := [.lit (.bool true)], args := [d1, d2] }
  | _ => none }
def recordNumbersRow : OpenClaim := { program := "ytebniicnaofdoaa", sum := "747dc3e34144daf1871c52691998ce62f820287e5ab013465ad30fe137286456", func := "luminaire/luminairelaw08.RecordNumbers", spec := "recordNumbers", apart := false }
def RecordNumbersSaid : Prop := recordNumbersRow.holds Try.pinned (OpenSpec.ofChange recordNumbersSpec)

/-- ITS FALSE NEIGHBOUR: 'it returns false'. Refute it at one input. -/
def recordNumbersWrong : ChangeSpec := { name := "recordNumbers", fn := fun _ => fun
  | [d1, d2] => { results := [.lit (.bool false)], args := [d1, d2] }
  | _ => none }
def RecordNumbersWrongFalsely : Prop := recordNumbersRow.holds Try.pinned (OpenSpec.ofChange recordNumbersWrong)

/-- 'luminairelaw08.RecordReturns': WHATEVER THE INPUT: true; the input reads as it did. -/
def recordReturnsSpec : ChangeSpec := { name := "recordReturns", fn := fun _ => fun
  | [d1, d2] => { results := [.lit (.bool true)], args := [d1, d2] }
  | _ => none }
def recordReturnsRow : OpenClaim := { program := "ytebniicnaofdoaa", sum := "747dc3e34144daf1871c52691998ce62f820287e5ab013465ad30fe137286456", func := "luminaire/luminairelaw08.RecordReturns", spec := "recordReturns", inPlace := ["internal/abi.NoEscape"], unfollowed := true, recurses := true, apart := false }
def RecordReturnsSaid : Prop := recordReturnsRow.holds Try.pinned (OpenSpec.ofChange recordReturnsSpec)

/-- ITS FALSE NEIGHBOUR: 'it returns false'. Refute it at one input. -/
def recordReturnsWrong : ChangeSpec := { name := "recordReturns", fn := fun _ => fun
  | [d1, d2] => { results := [.lit (.bool false)], args := [d1, d2] }
  | _ => none }
def RecordReturnsWrongFalsely : Prop := recordReturnsRow.holds Try.pinned (OpenSpec.ofChange recordReturnsWrong)

/-- 'luminairelaw08.RecordSpoils': WHATEVER THE INPUT: true; the input reads as it did. -/
def recordSpoilsSpec : ChangeSpec := { name := "recordSpoils", fn := fun _ => fun
  | [d1, d2, d3] => { results := [.lit (.bool true)], args := [d1, d2, d3] }
  | _ => none }
def recordSpoilsRow : OpenClaim := { program := "ytebniicnaofdoaa", sum := "747dc3e34144daf1871c52691998ce62f820287e5ab013465ad30fe137286456", func := "luminaire/luminairelaw08.RecordSpoils", spec := "recordSpoils", unfollowed := true, recurses := true, apart := false }
def RecordSpoilsSaid : Prop := recordSpoilsRow.holds Try.pinned (OpenSpec.ofChange recordSpoilsSpec)

/-- ITS FALSE NEIGHBOUR: 'it returns false'. Refute it at one input. -/
def recordSpoilsWrong : ChangeSpec := { name := "recordSpoils", fn := fun _ => fun
  | [d1, d2, d3] => { results := [.lit (.bool false)], args := [d1, d2, d3] }
  | _ => none }
def RecordSpoilsWrongFalsely : Prop := recordSpoilsRow.holds Try.pinned (OpenSpec.ofChange recordSpoilsWrong)

/-- 'luminairelaw08.RecordSums': WHATEVER THE INPUT: true; the input reads as it did. -/
def recordSumsSpec : ChangeSpec := { name := "recordSums", fn := fun _ => fun
  | [d1, d2] => { results := [.lit (.bool true)], args := [d1, d2] }
  | _ => none }
def recordSumsRow : OpenClaim := { program := "ytebniicnaofdoaa", sum := "747dc3e34144daf1871c52691998ce62f820287e5ab013465ad30fe137286456", func := "luminaire/luminairelaw08.RecordSums", spec := "recordSums", apart := false }
def RecordSumsSaid : Prop := recordSumsRow.holds Try.pinned (OpenSpec.ofChange recordSumsSpec)

/-- ITS FALSE NEIGHBOUR: 'it returns false'. Refute it at one input. -/
def recordSumsWrong : ChangeSpec := { name := "recordSums", fn := fun _ => fun
  | [d1, d2] => { results := [.lit (.bool false)], args := [d1, d2] }
  | _ => none }
def RecordSumsWrongFalsely : Prop := recordSumsRow.holds Try.pinned (OpenSpec.ofChange recordSumsWrong)

/- THE SECOND FORM. 'bulk': how many values and letters a reading holds, each counted each time it is reached (what is shared counts as often as it is met; a slice's spare places count too). A statement '..UptoSaid' is the law's where the arguments, and the package variables that the reading takes, are together of bulk at most 1048576: NARROWER than '..Said'. Prove '..Said' where nothing that the law and all that it calls make is longer than what came in: it says more and counts as full. Else prove '..UptoSaid'. A law counts once. -/
mutual
def uptoBulk {H : Type} : DataW H → Nat
  | .lit (.string bytes) => bytes.length + 1
  | .lit _ => 1
  | .nil => 1
  | .ptr d => uptoBulk d + 1
  | .slice elems spare => uptoBulkAll elems + uptoBulkAll spare + 1
  | .agg parts => uptoBulkAll parts + 1
  | .iface _ d => uptoBulk d + 1
  | .map entries => uptoBulkEntries entries + 1
  | .held _ => 1
def uptoBulkAll {H : Type} : List (DataW H) → Nat
  | [] => 0
  | d :: r => uptoBulk d + uptoBulkAll r
def uptoBulkEntries {H : Type} : List (Lit × DataW H) → Nat
  | [] => 0
  | x :: r => uptoBulkEntry x + uptoBulkEntries r
def uptoBulkEntry {H : Type} : Lit × DataW H → Nat
  | (.string bytes, d) => bytes.length + uptoBulk d + 1
  | (_, d) => uptoBulk d + 1
 end
def uptoSmall : (H : Type) → List (DataW H) → Bool := fun _ ds => decide (uptoBulkAll ds ≤ 1048576)
def OpenSpec.upto (s : _root_.Go.ChangeSpec) : _root_.Go.OpenSpec := { _root_.Go.OpenSpec.ofChange s with cond := some uptoSmall }

/-- 'luminairelaw08.RecordInts', WHERE WHAT IT READS IS OF BULK AT MOST 1048576: true; the input reads as it did. -/
def recordIntsUptoRow : OpenClaim := { program := "ytebniicnaofdoaa", sum := "747dc3e34144daf1871c52691998ce62f820287e5ab013465ad30fe137286456", func := "luminaire/luminairelaw08.RecordInts", spec := "recordInts", apart := false, narrowed := true }
def RecordIntsUptoSaid : Prop := recordIntsUptoRow.holds Try.pinned (OpenSpec.upto recordIntsSpec)

/-- 'luminairelaw08.RecordTexts', WHERE WHAT IT READS IS OF BULK AT MOST 1048576: true; the input reads as it did. -/
def recordTextsUptoRow : OpenClaim := { program := "ytebniicnaofdoaa", sum := "747dc3e34144daf1871c52691998ce62f820287e5ab013465ad30fe137286456", func := "luminaire/luminairelaw08.RecordTexts", spec := "recordTexts", apart := false, narrowed := true }
def RecordTextsUptoSaid : Prop := recordTextsUptoRow.holds Try.pinned (OpenSpec.upto recordTextsSpec)

/-- 'luminairelaw08.RecordPacks', WHERE WHAT IT READS IS OF BULK AT MOST 1048576: true; the input reads as it did. -/
def recordPacksUptoRow : OpenClaim := { program := "ytebniicnaofdoaa", sum := "747dc3e34144daf1871c52691998ce62f820287e5ab013465ad30fe137286456", func := "luminaire/luminairelaw08.RecordPacks", spec := "recordPacks", inPlace := ["internal/abi.NoEscape"], apart := false, narrowed := true }
def RecordPacksUptoSaid : Prop := recordPacksUptoRow.holds Try.pinned (OpenSpec.upto recordPacksSpec)

/-- 'luminairelaw08.RecordReads', WHERE WHAT IT READS IS OF BULK AT MOST 1048576: true; the input reads as it did. -/
def recordReadsUptoRow : OpenClaim := { program := "ytebniicnaofdoaa", sum := "747dc3e34144daf1871c52691998ce62f820287e5ab013465ad30fe137286456", func := "luminaire/luminairelaw08.RecordReads", spec := "recordReads", apart := false, narrowed := true }
def RecordReadsUptoSaid : Prop := recordReadsUptoRow.holds Try.pinned (OpenSpec.upto recordReadsSpec)

/-- 'luminairelaw08.RecordNumbers', WHERE WHAT IT READS IS OF BULK AT MOST 1048576: true; the input reads as it did. -/
def recordNumbersUptoRow : OpenClaim := { program := "ytebniicnaofdoaa", sum := "747dc3e34144daf1871c52691998ce62f820287e5ab013465ad30fe137286456", func := "luminaire/luminairelaw08.RecordNumbers", spec := "recordNumbers", apart := false, narrowed := true }
def RecordNumbersUptoSaid : Prop := recordNumbersUptoRow.holds Try.pinned (OpenSpec.upto recordNumbersSpec)

/-- 'luminairelaw08.RecordReturns', WHERE WHAT IT READS IS OF BULK AT MOST 1048576: true; the input reads as it did. -/
def recordReturnsUptoRow : OpenClaim := { program := "ytebniicnaofdoaa", sum := "747dc3e34144daf1871c52691998ce62f820287e5ab013465ad30fe137286456", func := "luminaire/luminairelaw08.RecordReturns", spec := "recordReturns", inPlace := ["internal/abi.NoEscape"], unfollowed := true, recurses := true, apart := false, narrowed := true }
def RecordReturnsUptoSaid : Prop := recordReturnsUptoRow.holds Try.pinned (OpenSpec.upto recordReturnsSpec)

/-- 'luminairelaw08.RecordSpoils', WHERE WHAT IT READS IS OF BULK AT MOST 1048576: true; the input reads as it did. -/
def recordSpoilsUptoRow : OpenClaim := { program := "ytebniicnaofdoaa", sum := "747dc3e34144daf1871c52691998ce62f820287e5ab013465ad30fe137286456", func := "luminaire/luminairelaw08.RecordSpoils", spec := "recordSpoils", unfollowed := true, recurses := true, apart := false, narrowed := true }
def RecordSpoilsUptoSaid : Prop := recordSpoilsUptoRow.holds Try.pinned (OpenSpec.upto recordSpoilsSpec)

/-- 'luminairelaw08.RecordSums', WHERE WHAT IT READS IS OF BULK AT MOST 1048576: true; the input reads as it did. -/
def recordSumsUptoRow : OpenClaim := { program := "ytebniicnaofdoaa", sum := "747dc3e34144daf1871c52691998ce62f820287e5ab013465ad30fe137286456", func := "luminaire/luminairelaw08.RecordSums", spec := "recordSums", apart := false, narrowed := true }
def RecordSumsUptoSaid : Prop := recordSumsUptoRow.holds Try.pinned (OpenSpec.upto recordSumsSpec)

end Rows
end Go.Proofs.Ytebniicnaofdoaa
