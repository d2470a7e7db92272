/-
  NARROWER THAN 'FOR EVERY INPUT', by the rows' own cells (each row's printed sentence says how): GlideLevels: laid · GlideGoes: laid · GlideChains: laid · GlideReads: laid · GlideMonotone: laid · GlideOvertakes: laid · GlideBends: laid · TopGlidesContinuous: laid · TopGlidesRaw: laid · TopGlidesArrive: laid.
  DERIVED. THE GIVEN ROWS OF THIS SEAT. 10 by the template 'for every input the law returns true; each argument reads behind the call as it read before'; 0 by the template 'total and deterministic' (their statements: YtflkgkchoagphaaGreatDoorTotals.lean).
  GIVEN WITH THE SEED: the statements are not yours to turn. If you find one false, say at which input.
  Laid BY PROGRAM, IN A SANDBOX (cutbox-rows.mjs): the forced cells as the released guide's own fill.sh prints them over the translation d0289ecbae622e7e… (all of the seat's roots in one cut). By AI agents, Wed Nov 11 2026. No macro, syntax, notation, axiom, sorry.
-/
import Derived.Test.YtflkgkchoagphaaGreatDoorChecked
import GoSem.Claim
import GoSem.ClaimJoined
import GoSem.ClaimMapViews
import Derived.JoinedTies
import Derived.KernelRfl
namespace Go.Proofs.YtflkgkchoagphaaGreatDoor
/- THE CELL 'sum', in the pinned program and in every row, IS THE sha256 OF THE DUMP (.gsa) THAT YtflkgkchoagphaaGreatDoorProg.lean LOADS. Nothing in Lean hashes anything: it is a label: what it is worth is what the hold of that sum in a sandbox is worth. -/
noncomputable def Tryz.pinned : Pinned := { name := "ytflkgkchoagphaagreatdoor", sum := "d0289ecbae622e7e55bb4f7d5e2660046b4629ee1ebb0e61c9701ae85136b854", checked := Tryz.checked }
namespace Rows
def none {H : Type} : Left H := { results := [], args := [] }

/- WHAT THE LISTED PACKAGE-LEVEL VARIABLES READ AS WHEN THE CALL BEGINS. Each datum BY PROGRAM (the guide's laid-datum.mjs) off the statement by which the dump's own 'gosem.cut.vars' lays the variable. In a bare row this is a premise. The card (YtflkgkchoagphaaGreatDoorCards.lean) ties it to the program's text. -/
def laid_math_bits_deBruijn32tab {H : Type} : DataW H := .agg [.lit (.int .u8 0), .lit (.int .u8 1), .lit (.int .u8 28), .lit (.int .u8 2), .lit (.int .u8 29), .lit (.int .u8 14), .lit (.int .u8 24), .lit (.int .u8 3), .lit (.int .u8 30), .lit (.int .u8 22), .lit (.int .u8 20), .lit (.int .u8 15), .lit (.int .u8 25), .lit (.int .u8 17), .lit (.int .u8 4), .lit (.int .u8 8), .lit (.int .u8 31), .lit (.int .u8 27), .lit (.int .u8 13), .lit (.int .u8 23), .lit (.int .u8 21), .lit (.int .u8 19), .lit (.int .u8 16), .lit (.int .u8 7), .lit (.int .u8 26), .lit (.int .u8 12), .lit (.int .u8 18), .lit (.int .u8 6), .lit (.int .u8 11), .lit (.int .u8 5), .lit (.int .u8 10), .lit (.int .u8 9)]
def laid_math_bits_deBruijn64tab {H : Type} : DataW H := .agg [.lit (.int .u8 0), .lit (.int .u8 1), .lit (.int .u8 56), .lit (.int .u8 2), .lit (.int .u8 57), .lit (.int .u8 49), .lit (.int .u8 28), .lit (.int .u8 3), .lit (.int .u8 61), .lit (.int .u8 58), .lit (.int .u8 42), .lit (.int .u8 50), .lit (.int .u8 38), .lit (.int .u8 29), .lit (.int .u8 17), .lit (.int .u8 4), .lit (.int .u8 62), .lit (.int .u8 47), .lit (.int .u8 59), .lit (.int .u8 36), .lit (.int .u8 45), .lit (.int .u8 43), .lit (.int .u8 51), .lit (.int .u8 22), .lit (.int .u8 53), .lit (.int .u8 39), .lit (.int .u8 33), .lit (.int .u8 30), .lit (.int .u8 24), .lit (.int .u8 18), .lit (.int .u8 12), .lit (.int .u8 5), .lit (.int .u8 63), .lit (.int .u8 55), .lit (.int .u8 48), .lit (.int .u8 27), .lit (.int .u8 60), .lit (.int .u8 41), .lit (.int .u8 37), .lit (.int .u8 16), .lit (.int .u8 46), .lit (.int .u8 35), .lit (.int .u8 44), .lit (.int .u8 21), .lit (.int .u8 52), .lit (.int .u8 32), .lit (.int .u8 23), .lit (.int .u8 11), .lit (.int .u8 54), .lit (.int .u8 26), .lit (.int .u8 40), .lit (.int .u8 15), .lit (.int .u8 34), .lit (.int .u8 20), .lit (.int .u8 31), .lit (.int .u8 10), .lit (.int .u8 25), .lit (.int .u8 14), .lit (.int .u8 19), .lit (.int .u8 9), .lit (.int .u8 13), .lit (.int .u8 8), .lit (.int .u8 7), .lit (.int .u8 6)]
def laid_internal_strconv_uint64pow10 {H : Type} : DataW H := .agg [.lit (.int .u64 1), .lit (.int .u64 10), .lit (.int .u64 100), .lit (.int .u64 1000), .lit (.int .u64 10000), .lit (.int .u64 100000), .lit (.int .u64 1000000), .lit (.int .u64 10000000), .lit (.int .u64 100000000), .lit (.int .u64 1000000000), .lit (.int .u64 10000000000), .lit (.int .u64 100000000000), .lit (.int .u64 1000000000000), .lit (.int .u64 10000000000000), .lit (.int .u64 100000000000000), .lit (.int .u64 1000000000000000), .lit (.int .u64 10000000000000000), .lit (.int .u64 100000000000000000), .lit (.int .u64 1000000000000000000), .lit (.int .u64 10000000000000000000)]
def laid_strconv_ErrRange {H : Type} : DataW H := .iface "*errors.errorString" (.ptr (.agg [.lit (.string [118, 97, 108, 117, 101, 32, 111, 117, 116, 32, 111, 102, 32, 114, 97, 110, 103, 101])]))
def laid_strconv_ErrSyntax {H : Type} : DataW H := .iface "*errors.errorString" (.ptr (.agg [.lit (.string [105, 110, 118, 97, 108, 105, 100, 32, 115, 121, 110, 116, 97, 120])]))

/-- 'luminairelaw03.GlideLevels': WHATEVER THE INPUT: true; the input reads as it did. -/
def glideLevelsSpec : ChangeSpec := { name := "glideLevels", fn := fun _ => fun
  | [d1, d2] => { results := [.lit (.bool true)], args := [d1, d2] }
  | _ => none }
def glideLevelsRow : OpenClaim := { program := "ytflkgkchoagphaagreatdoor", sum := "d0289ecbae622e7e55bb4f7d5e2660046b4629ee1ebb0e61c9701ae85136b854", func := "luminaire/luminairelaw03.GlideLevels", spec := "glideLevels", inPlace := ["internal/bytealg.IndexByteString", "internal/bytealg.IndexString", "math/bits.Add64"], unfollowed := true, recurses := true, named := ["internal/bytealg.MaxLen", "internal/strconv.uint64pow10", "math/bits.deBruijn32tab", "math/bits.deBruijn64tab", "math/bits.divideError", "math/bits.overflowError", "strconv.ErrSyntax", "strconv.ErrRange"], apart := false, laid := [("math/bits.deBruijn32tab", laid_math_bits_deBruijn32tab), ("math/bits.deBruijn64tab", laid_math_bits_deBruijn64tab), ("internal/strconv.uint64pow10", laid_internal_strconv_uint64pow10), ("strconv.ErrRange", laid_strconv_ErrRange), ("strconv.ErrSyntax", laid_strconv_ErrSyntax)] }
def GlideLevelsSaid : Prop := glideLevelsRow.holds Tryz.pinned (OpenSpec.ofChange glideLevelsSpec)

/-- ITS FALSE NEIGHBOUR: 'it returns false'. Refute it at one input. -/
def glideLevelsWrong : ChangeSpec := { name := "glideLevels", fn := fun _ => fun
  | [d1, d2] => { results := [.lit (.bool false)], args := [d1, d2] }
  | _ => none }
def GlideLevelsWrongFalsely : Prop := glideLevelsRow.holds Tryz.pinned (OpenSpec.ofChange glideLevelsWrong)

/-- 'luminairelaw03.GlideGoes': WHATEVER THE INPUT: true; the input reads as it did. -/
def glideGoesSpec : ChangeSpec := { name := "glideGoes", fn := fun _ => fun
  | [d1, d2] => { results := [.lit (.bool true)], args := [d1, d2] }
  | _ => none }
def glideGoesRow : OpenClaim := { program := "ytflkgkchoagphaagreatdoor", sum := "d0289ecbae622e7e55bb4f7d5e2660046b4629ee1ebb0e61c9701ae85136b854", func := "luminaire/luminairelaw03.GlideGoes", spec := "glideGoes", inPlace := ["internal/bytealg.IndexByteString", "internal/bytealg.IndexString", "math/bits.Add64"], unfollowed := true, recurses := true, named := ["internal/bytealg.MaxLen", "internal/strconv.uint64pow10", "math/bits.deBruijn32tab", "math/bits.deBruijn64tab", "math/bits.divideError", "math/bits.overflowError", "strconv.ErrSyntax", "strconv.ErrRange"], apart := false, laid := [("math/bits.deBruijn32tab", laid_math_bits_deBruijn32tab), ("math/bits.deBruijn64tab", laid_math_bits_deBruijn64tab), ("internal/strconv.uint64pow10", laid_internal_strconv_uint64pow10), ("strconv.ErrRange", laid_strconv_ErrRange), ("strconv.ErrSyntax", laid_strconv_ErrSyntax)] }
def GlideGoesSaid : Prop := glideGoesRow.holds Tryz.pinned (OpenSpec.ofChange glideGoesSpec)

/-- ITS FALSE NEIGHBOUR: 'it returns false'. Refute it at one input. -/
def glideGoesWrong : ChangeSpec := { name := "glideGoes", fn := fun _ => fun
  | [d1, d2] => { results := [.lit (.bool false)], args := [d1, d2] }
  | _ => none }
def GlideGoesWrongFalsely : Prop := glideGoesRow.holds Tryz.pinned (OpenSpec.ofChange glideGoesWrong)

/-- 'luminairelaw03.GlideChains': WHATEVER THE INPUT: true; the input reads as it did. -/
def glideChainsSpec : ChangeSpec := { name := "glideChains", fn := fun _ => fun
  | [d1, d2] => { results := [.lit (.bool true)], args := [d1, d2] }
  | _ => none }
def glideChainsRow : OpenClaim := { program := "ytflkgkchoagphaagreatdoor", sum := "d0289ecbae622e7e55bb4f7d5e2660046b4629ee1ebb0e61c9701ae85136b854", func := "luminaire/luminairelaw03.GlideChains", spec := "glideChains", inPlace := ["internal/bytealg.IndexByteString", "internal/bytealg.IndexString", "math/bits.Add64"], unfollowed := true, recurses := true, named := ["internal/bytealg.MaxLen", "internal/strconv.uint64pow10", "math/bits.deBruijn32tab", "math/bits.deBruijn64tab", "math/bits.divideError", "math/bits.overflowError", "strconv.ErrSyntax", "strconv.ErrRange"], apart := false, laid := [("math/bits.deBruijn32tab", laid_math_bits_deBruijn32tab), ("math/bits.deBruijn64tab", laid_math_bits_deBruijn64tab), ("internal/strconv.uint64pow10", laid_internal_strconv_uint64pow10), ("strconv.ErrRange", laid_strconv_ErrRange), ("strconv.ErrSyntax", laid_strconv_ErrSyntax)] }
def GlideChainsSaid : Prop := glideChainsRow.holds Tryz.pinned (OpenSpec.ofChange glideChainsSpec)

/-- ITS FALSE NEIGHBOUR: 'it returns false'. Refute it at one input. -/
def glideChainsWrong : ChangeSpec := { name := "glideChains", fn := fun _ => fun
  | [d1, d2] => { results := [.lit (.bool false)], args := [d1, d2] }
  | _ => none }
def GlideChainsWrongFalsely : Prop := glideChainsRow.holds Tryz.pinned (OpenSpec.ofChange glideChainsWrong)

/-- 'luminairelaw03.GlideReads': WHATEVER THE INPUT: true; the input reads as it did. -/
def glideReadsSpec : ChangeSpec := { name := "glideReads", fn := fun _ => fun
  | [d1, d2] => { results := [.lit (.bool true)], args := [d1, d2] }
  | _ => none }
def glideReadsRow : OpenClaim := { program := "ytflkgkchoagphaagreatdoor", sum := "d0289ecbae622e7e55bb4f7d5e2660046b4629ee1ebb0e61c9701ae85136b854", func := "luminaire/luminairelaw03.GlideReads", spec := "glideReads", inPlace := ["internal/bytealg.IndexByteString", "internal/bytealg.IndexString", "math/bits.Add64"], unfollowed := true, recurses := true, named := ["internal/bytealg.MaxLen", "internal/strconv.uint64pow10", "math/bits.deBruijn32tab", "math/bits.deBruijn64tab", "math/bits.divideError", "math/bits.overflowError", "strconv.ErrSyntax", "strconv.ErrRange"], apart := false, laid := [("math/bits.deBruijn32tab", laid_math_bits_deBruijn32tab), ("math/bits.deBruijn64tab", laid_math_bits_deBruijn64tab), ("internal/strconv.uint64pow10", laid_internal_strconv_uint64pow10), ("strconv.ErrRange", laid_strconv_ErrRange), ("strconv.ErrSyntax", laid_strconv_ErrSyntax)] }
def GlideReadsSaid : Prop := glideReadsRow.holds Tryz.pinned (OpenSpec.ofChange glideReadsSpec)

/-- ITS FALSE NEIGHBOUR: 'it returns false'. Refute it at one input. -/
def glideReadsWrong : ChangeSpec := { name := "glideReads", fn := fun _ => fun
  | [d1, d2] => { results := [.lit (.bool false)], args := [d1, d2] }
  | _ => none }
def GlideReadsWrongFalsely : Prop := glideReadsRow.holds Tryz.pinned (OpenSpec.ofChange glideReadsWrong)

/-- 'luminairelaw03.GlideMonotone': WHATEVER THE INPUT: true; the input reads as it did. -/
def glideMonotoneSpec : ChangeSpec := { name := "glideMonotone", fn := fun _ => fun
  | [d1, d2, d3] => { results := [.lit (.bool true)], args := [d1, d2, d3] }
  | _ => none }
def glideMonotoneRow : OpenClaim := { program := "ytflkgkchoagphaagreatdoor", sum := "d0289ecbae622e7e55bb4f7d5e2660046b4629ee1ebb0e61c9701ae85136b854", func := "luminaire/luminairelaw03.GlideMonotone", spec := "glideMonotone", inPlace := ["internal/bytealg.IndexByteString", "internal/bytealg.IndexString", "math/bits.Add64"], unfollowed := true, recurses := true, named := ["internal/bytealg.MaxLen", "internal/strconv.uint64pow10", "math/bits.deBruijn32tab", "math/bits.deBruijn64tab", "math/bits.divideError", "math/bits.overflowError", "strconv.ErrSyntax", "strconv.ErrRange"], apart := false, laid := [("math/bits.deBruijn32tab", laid_math_bits_deBruijn32tab), ("math/bits.deBruijn64tab", laid_math_bits_deBruijn64tab), ("internal/strconv.uint64pow10", laid_internal_strconv_uint64pow10), ("strconv.ErrRange", laid_strconv_ErrRange), ("strconv.ErrSyntax", laid_strconv_ErrSyntax)] }
def GlideMonotoneSaid : Prop := glideMonotoneRow.holds Tryz.pinned (OpenSpec.ofChange glideMonotoneSpec)

/-- ITS FALSE NEIGHBOUR: 'it returns false'. Refute it at one input. -/
def glideMonotoneWrong : ChangeSpec := { name := "glideMonotone", fn := fun _ => fun
  | [d1, d2, d3] => { results := [.lit (.bool false)], args := [d1, d2, d3] }
  | _ => none }
def GlideMonotoneWrongFalsely : Prop := glideMonotoneRow.holds Tryz.pinned (OpenSpec.ofChange glideMonotoneWrong)

/-- 'luminairelaw03.GlideOvertakes': WHATEVER THE INPUT: true; the input reads as it did. -/
def glideOvertakesSpec : ChangeSpec := { name := "glideOvertakes", fn := fun _ => fun
  | [d1, d2, d3] => { results := [.lit (.bool true)], args := [d1, d2, d3] }
  | _ => none }
def glideOvertakesRow : OpenClaim := { program := "ytflkgkchoagphaagreatdoor", sum := "d0289ecbae622e7e55bb4f7d5e2660046b4629ee1ebb0e61c9701ae85136b854", func := "luminaire/luminairelaw03.GlideOvertakes", spec := "glideOvertakes", inPlace := ["internal/bytealg.IndexByteString", "internal/bytealg.IndexString", "math/bits.Add64"], unfollowed := true, recurses := true, named := ["internal/bytealg.MaxLen", "internal/strconv.uint64pow10", "math/bits.deBruijn32tab", "math/bits.deBruijn64tab", "math/bits.divideError", "math/bits.overflowError", "strconv.ErrSyntax", "strconv.ErrRange"], apart := false, laid := [("math/bits.deBruijn32tab", laid_math_bits_deBruijn32tab), ("math/bits.deBruijn64tab", laid_math_bits_deBruijn64tab), ("internal/strconv.uint64pow10", laid_internal_strconv_uint64pow10), ("strconv.ErrRange", laid_strconv_ErrRange), ("strconv.ErrSyntax", laid_strconv_ErrSyntax)] }
def GlideOvertakesSaid : Prop := glideOvertakesRow.holds Tryz.pinned (OpenSpec.ofChange glideOvertakesSpec)

/-- ITS FALSE NEIGHBOUR: 'it returns false'. Refute it at one input. -/
def glideOvertakesWrong : ChangeSpec := { name := "glideOvertakes", fn := fun _ => fun
  | [d1, d2, d3] => { results := [.lit (.bool false)], args := [d1, d2, d3] }
  | _ => none }
def GlideOvertakesWrongFalsely : Prop := glideOvertakesRow.holds Tryz.pinned (OpenSpec.ofChange glideOvertakesWrong)

/-- 'luminairelaw03.GlideBends': WHATEVER THE INPUT: true; the input reads as it did. -/
def glideBendsSpec : ChangeSpec := { name := "glideBends", fn := fun _ => fun
  | [d1, d2, d3] => { results := [.lit (.bool true)], args := [d1, d2, d3] }
  | _ => none }
def glideBendsRow : OpenClaim := { program := "ytflkgkchoagphaagreatdoor", sum := "d0289ecbae622e7e55bb4f7d5e2660046b4629ee1ebb0e61c9701ae85136b854", func := "luminaire/luminairelaw03.GlideBends", spec := "glideBends", inPlace := ["internal/bytealg.IndexByteString", "internal/bytealg.IndexString", "math/bits.Add64"], unfollowed := true, recurses := true, named := ["internal/bytealg.MaxLen", "internal/strconv.uint64pow10", "math/bits.deBruijn32tab", "math/bits.deBruijn64tab", "math/bits.divideError", "math/bits.overflowError", "strconv.ErrSyntax", "strconv.ErrRange"], apart := false, laid := [("math/bits.deBruijn32tab", laid_math_bits_deBruijn32tab), ("math/bits.deBruijn64tab", laid_math_bits_deBruijn64tab), ("internal/strconv.uint64pow10", laid_internal_strconv_uint64pow10), ("strconv.ErrRange", laid_strconv_ErrRange), ("strconv.ErrSyntax", laid_strconv_ErrSyntax)] }
def GlideBendsSaid : Prop := glideBendsRow.holds Tryz.pinned (OpenSpec.ofChange glideBendsSpec)

/-- ITS FALSE NEIGHBOUR: 'it returns false'. Refute it at one input. -/
def glideBendsWrong : ChangeSpec := { name := "glideBends", fn := fun _ => fun
  | [d1, d2, d3] => { results := [.lit (.bool false)], args := [d1, d2, d3] }
  | _ => none }
def GlideBendsWrongFalsely : Prop := glideBendsRow.holds Tryz.pinned (OpenSpec.ofChange glideBendsWrong)

/-- 'luminairetop.TopGlidesContinuous': WHATEVER THE INPUT: true; the input reads as it did. -/
def topGlidesContinuousSpec : ChangeSpec := { name := "topGlidesContinuous", fn := fun _ => fun
  | [d1, d2, d3] => { results := [.lit (.bool true)], args := [d1, d2, d3] }
  | _ => none }
def topGlidesContinuousRow : OpenClaim := { program := "ytflkgkchoagphaagreatdoor", sum := "d0289ecbae622e7e55bb4f7d5e2660046b4629ee1ebb0e61c9701ae85136b854", func := "luminaire/luminairetop.TopGlidesContinuous", spec := "topGlidesContinuous", inPlace := ["internal/bytealg.IndexByteString", "internal/bytealg.IndexString", "math/bits.Add64"], unfollowed := true, recurses := true, named := ["internal/strconv.uint64pow10", "math/bits.deBruijn32tab", "math/bits.deBruijn64tab", "internal/bytealg.MaxLen", "math/bits.divideError", "math/bits.overflowError", "strconv.ErrSyntax", "strconv.ErrRange"], apart := false, laid := [("math/bits.deBruijn32tab", laid_math_bits_deBruijn32tab), ("math/bits.deBruijn64tab", laid_math_bits_deBruijn64tab), ("internal/strconv.uint64pow10", laid_internal_strconv_uint64pow10), ("strconv.ErrRange", laid_strconv_ErrRange), ("strconv.ErrSyntax", laid_strconv_ErrSyntax)] }
def TopGlidesContinuousSaid : Prop := topGlidesContinuousRow.holds Tryz.pinned (OpenSpec.ofChange topGlidesContinuousSpec)

/-- ITS FALSE NEIGHBOUR: 'it returns false'. Refute it at one input. -/
def topGlidesContinuousWrong : ChangeSpec := { name := "topGlidesContinuous", fn := fun _ => fun
  | [d1, d2, d3] => { results := [.lit (.bool false)], args := [d1, d2, d3] }
  | _ => none }
def TopGlidesContinuousWrongFalsely : Prop := topGlidesContinuousRow.holds Tryz.pinned (OpenSpec.ofChange topGlidesContinuousWrong)

/-- 'luminairetop.TopGlidesRaw': WHATEVER THE INPUT: true; the input reads as it did. -/
def topGlidesRawSpec : ChangeSpec := { name := "topGlidesRaw", fn := fun _ => fun
  | [d1, d2, d3] => { results := [.lit (.bool true)], args := [d1, d2, d3] }
  | _ => none }
def topGlidesRawRow : OpenClaim := { program := "ytflkgkchoagphaagreatdoor", sum := "d0289ecbae622e7e55bb4f7d5e2660046b4629ee1ebb0e61c9701ae85136b854", func := "luminaire/luminairetop.TopGlidesRaw", spec := "topGlidesRaw", inPlace := ["internal/bytealg.IndexByteString", "internal/bytealg.IndexString", "math/bits.Add64"], unfollowed := true, recurses := true, named := ["internal/strconv.uint64pow10", "math/bits.deBruijn32tab", "math/bits.deBruijn64tab", "internal/bytealg.MaxLen", "math/bits.divideError", "math/bits.overflowError", "strconv.ErrSyntax", "strconv.ErrRange"], apart := false, laid := [("math/bits.deBruijn32tab", laid_math_bits_deBruijn32tab), ("math/bits.deBruijn64tab", laid_math_bits_deBruijn64tab), ("internal/strconv.uint64pow10", laid_internal_strconv_uint64pow10), ("strconv.ErrRange", laid_strconv_ErrRange), ("strconv.ErrSyntax", laid_strconv_ErrSyntax)] }
def TopGlidesRawSaid : Prop := topGlidesRawRow.holds Tryz.pinned (OpenSpec.ofChange topGlidesRawSpec)

/-- ITS FALSE NEIGHBOUR: 'it returns false'. Refute it at one input. -/
def topGlidesRawWrong : ChangeSpec := { name := "topGlidesRaw", fn := fun _ => fun
  | [d1, d2, d3] => { results := [.lit (.bool false)], args := [d1, d2, d3] }
  | _ => none }
def TopGlidesRawWrongFalsely : Prop := topGlidesRawRow.holds Tryz.pinned (OpenSpec.ofChange topGlidesRawWrong)

/-- 'luminairetop.TopGlidesArrive': WHATEVER THE INPUT: true; the input reads as it did. -/
def topGlidesArriveSpec : ChangeSpec := { name := "topGlidesArrive", fn := fun _ => fun
  | [d1, d2, d3] => { results := [.lit (.bool true)], args := [d1, d2, d3] }
  | _ => none }
def topGlidesArriveRow : OpenClaim := { program := "ytflkgkchoagphaagreatdoor", sum := "d0289ecbae622e7e55bb4f7d5e2660046b4629ee1ebb0e61c9701ae85136b854", func := "luminaire/luminairetop.TopGlidesArrive", spec := "topGlidesArrive", inPlace := ["internal/bytealg.IndexByteString", "internal/bytealg.IndexString", "math/bits.Add64", "internal/abi.NoEscape", "internal/bytealg.MakeNoZero"], unfollowed := true, recurses := true, named := ["internal/strconv.uint64pow10", "math/bits.deBruijn32tab", "math/bits.deBruijn64tab", "internal/bytealg.MaxLen", "math/bits.divideError", "math/bits.overflowError", "strconv.ErrSyntax", "strconv.ErrRange"], apart := false, laid := [("math/bits.deBruijn32tab", laid_math_bits_deBruijn32tab), ("math/bits.deBruijn64tab", laid_math_bits_deBruijn64tab), ("internal/strconv.uint64pow10", laid_internal_strconv_uint64pow10), ("strconv.ErrRange", laid_strconv_ErrRange), ("strconv.ErrSyntax", laid_strconv_ErrSyntax)] }
def TopGlidesArriveSaid : Prop := topGlidesArriveRow.holds Tryz.pinned (OpenSpec.ofChange topGlidesArriveSpec)

/-- ITS FALSE NEIGHBOUR: 'it returns false'. Refute it at one input. -/
def topGlidesArriveWrong : ChangeSpec := { name := "topGlidesArrive", fn := fun _ => fun
  | [d1, d2, d3] => { results := [.lit (.bool false)], args := [d1, d2, d3] }
  | _ => none }
def TopGlidesArriveWrongFalsely : Prop := topGlidesArriveRow.holds Tryz.pinned (OpenSpec.ofChange topGlidesArriveWrong)

/- THE SECOND FORM. 'bulk': how many values and letters a reading holds, each counted each time it is reached (what is shared counts as often as it is met; a slice's spare places count too). A statement '..UptoSaid' is the law's where the arguments, and the package variables that the reading takes, are together of bulk at most 1048576: NARROWER than '..Said'. Prove '..Said' where nothing that the law and all that it calls make is longer than what came in: it says more and counts as full. Else prove '..UptoSaid'. A law counts once. -/
mutual
def uptoBulk {H : Type} : DataW H → Nat
  | .lit (.string bytes) => bytes.length + 1
  | .lit _ => 1
  | .nil => 1
  | .ptr d => uptoBulk d + 1
  | .slice elems spare => uptoBulkAll elems + uptoBulkAll spare + 1
  | .agg parts => uptoBulkAll parts + 1
  | .iface _ d => uptoBulk d + 1
  | .map entries => uptoBulkEntries entries + 1
  | .held _ => 1
def uptoBulkAll {H : Type} : List (DataW H) → Nat
  | [] => 0
  | d :: r => uptoBulk d + uptoBulkAll r
def uptoBulkEntries {H : Type} : List (Lit × DataW H) → Nat
  | [] => 0
  | x :: r => uptoBulkEntry x + uptoBulkEntries r
def uptoBulkEntry {H : Type} : Lit × DataW H → Nat
  | (.string bytes, d) => bytes.length + uptoBulk d + 1
  | (_, d) => uptoBulk d + 1
 end
def uptoSmall : (H : Type) → List (DataW H) → Bool := fun _ ds => decide (uptoBulkAll ds ≤ 1048576)
def OpenSpec.upto (s : _root_.Go.ChangeSpec) : _root_.Go.OpenSpec := { _root_.Go.OpenSpec.ofChange s with cond := some uptoSmall }

/-- 'luminairelaw03.GlideLevels', WHERE WHAT IT READS IS OF BULK AT MOST 1048576: true; the input reads as it did. -/
def glideLevelsUptoRow : OpenClaim := { program := "ytflkgkchoagphaagreatdoor", sum := "d0289ecbae622e7e55bb4f7d5e2660046b4629ee1ebb0e61c9701ae85136b854", func := "luminaire/luminairelaw03.GlideLevels", spec := "glideLevels", inPlace := ["internal/bytealg.IndexByteString", "internal/bytealg.IndexString", "math/bits.Add64"], unfollowed := true, recurses := true, named := ["internal/bytealg.MaxLen", "internal/strconv.uint64pow10", "math/bits.deBruijn32tab", "math/bits.deBruijn64tab", "math/bits.divideError", "math/bits.overflowError", "strconv.ErrSyntax", "strconv.ErrRange"], apart := false, laid := [("math/bits.deBruijn32tab", laid_math_bits_deBruijn32tab), ("math/bits.deBruijn64tab", laid_math_bits_deBruijn64tab), ("internal/strconv.uint64pow10", laid_internal_strconv_uint64pow10), ("strconv.ErrRange", laid_strconv_ErrRange), ("strconv.ErrSyntax", laid_strconv_ErrSyntax)], narrowed := true }
def GlideLevelsUptoSaid : Prop := glideLevelsUptoRow.holds Tryz.pinned (OpenSpec.upto glideLevelsSpec)

/-- 'luminairelaw03.GlideGoes', WHERE WHAT IT READS IS OF BULK AT MOST 1048576: true; the input reads as it did. -/
def glideGoesUptoRow : OpenClaim := { program := "ytflkgkchoagphaagreatdoor", sum := "d0289ecbae622e7e55bb4f7d5e2660046b4629ee1ebb0e61c9701ae85136b854", func := "luminaire/luminairelaw03.GlideGoes", spec := "glideGoes", inPlace := ["internal/bytealg.IndexByteString", "internal/bytealg.IndexString", "math/bits.Add64"], unfollowed := true, recurses := true, named := ["internal/bytealg.MaxLen", "internal/strconv.uint64pow10", "math/bits.deBruijn32tab", "math/bits.deBruijn64tab", "math/bits.divideError", "math/bits.overflowError", "strconv.ErrSyntax", "strconv.ErrRange"], apart := false, laid := [("math/bits.deBruijn32tab", laid_math_bits_deBruijn32tab), ("math/bits.deBruijn64tab", laid_math_bits_deBruijn64tab), ("internal/strconv.uint64pow10", laid_internal_strconv_uint64pow10), ("strconv.ErrRange", laid_strconv_ErrRange), ("strconv.ErrSyntax", laid_strconv_ErrSyntax)], narrowed := true }
def GlideGoesUptoSaid : Prop := glideGoesUptoRow.holds Tryz.pinned (OpenSpec.upto glideGoesSpec)

/-- 'luminairelaw03.GlideChains', WHERE WHAT IT READS IS OF BULK AT MOST 1048576: true; the input reads as it did. -/
def glideChainsUptoRow : OpenClaim := { program := "ytflkgkchoagphaagreatdoor", sum := "d0289ecbae622e7e55bb4f7d5e2660046b4629ee1ebb0e61c9701ae85136b854", func := "luminaire/luminairelaw03.GlideChains", spec := "glideChains", inPlace := ["internal/bytealg.IndexByteString", "internal/bytealg.IndexString", "math/bits.Add64"], unfollowed := true, recurses := true, named := ["internal/bytealg.MaxLen", "internal/strconv.uint64pow10", "math/bits.deBruijn32tab", "math/bits.deBruijn64tab", "math/bits.divideError", "math/bits.overflowError", "strconv.ErrSyntax", "strconv.ErrRange"], apart := false, laid := [("math/bits.deBruijn32tab", laid_math_bits_deBruijn32tab), ("math/bits.deBruijn64tab", laid_math_bits_deBruijn64tab), ("internal/strconv.uint64pow10", laid_internal_strconv_uint64pow10), ("strconv.ErrRange", laid_strconv_ErrRange), ("strconv.ErrSyntax", laid_strconv_ErrSyntax)], narrowed := true }
def GlideChainsUptoSaid : Prop := glideChainsUptoRow.holds Tryz.pinned (OpenSpec.upto glideChainsSpec)

/-- 'luminairelaw03.GlideReads', WHERE WHAT IT READS IS OF BULK AT MOST 1048576: true; the input reads as it did. -/
def glideReadsUptoRow : OpenClaim := { program := "ytflkgkchoagphaagreatdoor", sum := "d0289ecbae622e7e55bb4f7d5e2660046b4629ee1ebb0e61c9701ae85136b854", func := "luminaire/luminairelaw03.GlideReads", spec := "glideReads", inPlace := ["internal/bytealg.IndexByteString", "internal/bytealg.IndexString", "math/bits.Add64"], unfollowed := true, recurses := true, named := ["internal/bytealg.MaxLen", "internal/strconv.uint64pow10", "math/bits.deBruijn32tab", "math/bits.deBruijn64tab", "math/bits.divideError", "math/bits.overflowError", "strconv.ErrSyntax", "strconv.ErrRange"], apart := false, laid := [("math/bits.deBruijn32tab", laid_math_bits_deBruijn32tab), ("math/bits.deBruijn64tab", laid_math_bits_deBruijn64tab), ("internal/strconv.uint64pow10", laid_internal_strconv_uint64pow10), ("strconv.ErrRange", laid_strconv_ErrRange), ("strconv.ErrSyntax", laid_strconv_ErrSyntax)], narrowed := true }
def GlideReadsUptoSaid : Prop := glideReadsUptoRow.holds Tryz.pinned (OpenSpec.upto glideReadsSpec)

/-- 'luminairelaw03.GlideMonotone', WHERE WHAT IT READS IS OF BULK AT MOST 1048576: true; the input reads as it did. -/
def glideMonotoneUptoRow : OpenClaim := { program := "ytflkgkchoagphaagreatdoor", sum := "d0289ecbae622e7e55bb4f7d5e2660046b4629ee1ebb0e61c9701ae85136b854", func := "luminaire/luminairelaw03.GlideMonotone", spec := "glideMonotone", inPlace := ["internal/bytealg.IndexByteString", "internal/bytealg.IndexString", "math/bits.Add64"], unfollowed := true, recurses := true, named := ["internal/bytealg.MaxLen", "internal/strconv.uint64pow10", "math/bits.deBruijn32tab", "math/bits.deBruijn64tab", "math/bits.divideError", "math/bits.overflowError", "strconv.ErrSyntax", "strconv.ErrRange"], apart := false, laid := [("math/bits.deBruijn32tab", laid_math_bits_deBruijn32tab), ("math/bits.deBruijn64tab", laid_math_bits_deBruijn64tab), ("internal/strconv.uint64pow10", laid_internal_strconv_uint64pow10), ("strconv.ErrRange", laid_strconv_ErrRange), ("strconv.ErrSyntax", laid_strconv_ErrSyntax)], narrowed := true }
def GlideMonotoneUptoSaid : Prop := glideMonotoneUptoRow.holds Tryz.pinned (OpenSpec.upto glideMonotoneSpec)

/-- 'luminairelaw03.GlideOvertakes', WHERE WHAT IT READS IS OF BULK AT MOST 1048576: true; the input reads as it did. -/
def glideOvertakesUptoRow : OpenClaim := { program := "ytflkgkchoagphaagreatdoor", sum := "d0289ecbae622e7e55bb4f7d5e2660046b4629ee1ebb0e61c9701ae85136b854", func := "luminaire/luminairelaw03.GlideOvertakes", spec := "glideOvertakes", inPlace := ["internal/bytealg.IndexByteString", "internal/bytealg.IndexString", "math/bits.Add64"], unfollowed := true, recurses := true, named := ["internal/bytealg.MaxLen", "internal/strconv.uint64pow10", "math/bits.deBruijn32tab", "math/bits.deBruijn64tab", "math/bits.divideError", "math/bits.overflowError", "strconv.ErrSyntax", "strconv.ErrRange"], apart := false, laid := [("math/bits.deBruijn32tab", laid_math_bits_deBruijn32tab), ("math/bits.deBruijn64tab", laid_math_bits_deBruijn64tab), ("internal/strconv.uint64pow10", laid_internal_strconv_uint64pow10), ("strconv.ErrRange", laid_strconv_ErrRange), ("strconv.ErrSyntax", laid_strconv_ErrSyntax)], narrowed := true }
def GlideOvertakesUptoSaid : Prop := glideOvertakesUptoRow.holds Tryz.pinned (OpenSpec.upto glideOvertakesSpec)

/-- 'luminairelaw03.GlideBends', WHERE WHAT IT READS IS OF BULK AT MOST 1048576: true; the input reads as it did. -/
def glideBendsUptoRow : OpenClaim := { program := "ytflkgkchoagphaagreatdoor", sum := "d0289ecbae622e7e55bb4f7d5e2660046b4629ee1ebb0e61c9701ae85136b854", func := "luminaire/luminairelaw03.GlideBends", spec := "glideBends", inPlace := ["internal/bytealg.IndexByteString", "internal/bytealg.IndexString", "math/bits.Add64"], unfollowed := true, recurses := true, named := ["internal/bytealg.MaxLen", "internal/strconv.uint64pow10", "math/bits.deBruijn32tab", "math/bits.deBruijn64tab", "math/bits.divideError", "math/bits.overflowError", "strconv.ErrSyntax", "strconv.ErrRange"], apart := false, laid := [("math/bits.deBruijn32tab", laid_math_bits_deBruijn32tab), ("math/bits.deBruijn64tab", laid_math_bits_deBruijn64tab), ("internal/strconv.uint64pow10", laid_internal_strconv_uint64pow10), ("strconv.ErrRange", laid_strconv_ErrRange), ("strconv.ErrSyntax", laid_strconv_ErrSyntax)], narrowed := true }
def GlideBendsUptoSaid : Prop := glideBendsUptoRow.holds Tryz.pinned (OpenSpec.upto glideBendsSpec)

/-- 'luminairetop.TopGlidesContinuous', WHERE WHAT IT READS IS OF BULK AT MOST 1048576: true; the input reads as it did. -/
def topGlidesContinuousUptoRow : OpenClaim := { program := "ytflkgkchoagphaagreatdoor", sum := "d0289ecbae622e7e55bb4f7d5e2660046b4629ee1ebb0e61c9701ae85136b854", func := "luminaire/luminairetop.TopGlidesContinuous", spec := "topGlidesContinuous", inPlace := ["internal/bytealg.IndexByteString", "internal/bytealg.IndexString", "math/bits.Add64"], unfollowed := true, recurses := true, named := ["internal/strconv.uint64pow10", "math/bits.deBruijn32tab", "math/bits.deBruijn64tab", "internal/bytealg.MaxLen", "math/bits.divideError", "math/bits.overflowError", "strconv.ErrSyntax", "strconv.ErrRange"], apart := false, laid := [("math/bits.deBruijn32tab", laid_math_bits_deBruijn32tab), ("math/bits.deBruijn64tab", laid_math_bits_deBruijn64tab), ("internal/strconv.uint64pow10", laid_internal_strconv_uint64pow10), ("strconv.ErrRange", laid_strconv_ErrRange), ("strconv.ErrSyntax", laid_strconv_ErrSyntax)], narrowed := true }
def TopGlidesContinuousUptoSaid : Prop := topGlidesContinuousUptoRow.holds Tryz.pinned (OpenSpec.upto topGlidesContinuousSpec)

/-- 'luminairetop.TopGlidesRaw', WHERE WHAT IT READS IS OF BULK AT MOST 1048576: true; the input reads as it did. -/
def topGlidesRawUptoRow : OpenClaim := { program := "ytflkgkchoagphaagreatdoor", sum := "d0289ecbae622e7e55bb4f7d5e2660046b4629ee1ebb0e61c9701ae85136b854", func := "luminaire/luminairetop.TopGlidesRaw", spec := "topGlidesRaw", inPlace := ["internal/bytealg.IndexByteString", "internal/bytealg.IndexString", "math/bits.Add64"], unfollowed := true, recurses := true, named := ["internal/strconv.uint64pow10", "math/bits.deBruijn32tab", "math/bits.deBruijn64tab", "internal/bytealg.MaxLen", "math/bits.divideError", "math/bits.overflowError", "strconv.ErrSyntax", "strconv.ErrRange"], apart := false, laid := [("math/bits.deBruijn32tab", laid_math_bits_deBruijn32tab), ("math/bits.deBruijn64tab", laid_math_bits_deBruijn64tab), ("internal/strconv.uint64pow10", laid_internal_strconv_uint64pow10), ("strconv.ErrRange", laid_strconv_ErrRange), ("strconv.ErrSyntax", laid_strconv_ErrSyntax)], narrowed := true }
def TopGlidesRawUptoSaid : Prop := topGlidesRawUptoRow.holds Tryz.pinned (OpenSpec.upto topGlidesRawSpec)

/-- 'luminairetop.TopGlidesArrive', WHERE WHAT IT READS IS OF BULK AT MOST 1048576: true; the input reads as it did. -/
def topGlidesArriveUptoRow : OpenClaim := { program := "ytflkgkchoagphaagreatdoor", sum := "d0289ecbae622e7e55bb4f7d5e2660046b4629ee1ebb0e61c9701ae85136b854", func := "luminaire/luminairetop.TopGlidesArrive", spec := "topGlidesArrive", inPlace := ["internal/bytealg.IndexByteString", "internal/bytealg.IndexString", "math/bits.Add64", "internal/abi.NoEscape", "internal/bytealg.MakeNoZero"], unfollowed := true, recurses := true, named := ["internal/strconv.uint64pow10", "math/bits.deBruijn32tab", "math/bits.deBruijn64tab", "internal/bytealg.MaxLen", "math/bits.divideError", "math/bits.overflowError", "strconv.ErrSyntax", "strconv.ErrRange"], apart := false, laid := [("math/bits.deBruijn32tab", laid_math_bits_deBruijn32tab), ("math/bits.deBruijn64tab", laid_math_bits_deBruijn64tab), ("internal/strconv.uint64pow10", laid_internal_strconv_uint64pow10), ("strconv.ErrRange", laid_strconv_ErrRange), ("strconv.ErrSyntax", laid_strconv_ErrSyntax)], narrowed := true }
def TopGlidesArriveUptoSaid : Prop := topGlidesArriveUptoRow.holds Tryz.pinned (OpenSpec.upto topGlidesArriveSpec)

end Rows
end Go.Proofs.YtflkgkchoagphaaGreatDoor
