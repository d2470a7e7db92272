/- What calls return from whatever world that has grown. -/
import Derived.Test.YtlbnibicehpobaaGreatDoorRef01a
set_option linter.unusedVariables false
set_option linter.unusedSimpArgs false
namespace Go.Proofs.YtlbnibicehpobaaGreatDoor
open Go.RowKit
open Z

/-- from each world that has grown out of w0 the call returns v, and the world has only grown -/
def Ret (w0 : World) (f : FuncId) (args : Array Value) (v : Value) : Prop :=
  ∀ w, Gr w0 w → Calls Tryz.prog f args w (fun e w' => e = .returned v ∧ Gr w0 w')
theorem Ret.mk {w0 : World} {f : FuncId} {args : Array Value} {v : Value} (h : ∀ w, Gr w0 w → Calls Tryz.prog f args w (fun e w' => e = .returned v ∧ Gr w w')) : Ret w0 f args v :=
  fun w hg => (h w hg).mono fun _ _ ⟨h1, h2⟩ => ⟨h1, Gr.trans hg h2⟩
theorem Ret.same {w0 : World} {f : FuncId} {args : Array Value} {v : Value} (h : ∀ w, Calls Tryz.prog f args w (fun e w' => e = .returned v ∧ w = w')) : Ret w0 f args v :=
  fun w hg => (h w).mono fun _ _ ⟨h1, h2⟩ => ⟨h1, h2 ▸ hg⟩
theorem Ret.cast {w0 : World} {f : FuncId} {args : Array Value} {v v' : Value} (h : Ret w0 f args v) (e : v = v') : Ret w0 f args v' := e ▸ h
/-- a pair of a text and an int; two ints -/
def vSI (p : ByteArray × Int) : Value := .tuple #[.string p.1, .int .i64 p.2]
def vII (p : Int × Int) : Value := .tuple #[.int .i64 p.1, .int .i64 p.2]
end Go.Proofs.YtlbnibicehpobaaGreatDoor
