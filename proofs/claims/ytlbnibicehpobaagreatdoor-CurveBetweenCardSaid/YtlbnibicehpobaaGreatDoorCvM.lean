/- Curves: mathematics of a segment that climbs. -/
import Derived.Test.YtlbnibicehpobaaGreatDoorMath
set_option linter.unusedVariables false
set_option linter.unusedSimpArgs false
namespace Go.Proofs.YtlbnibicehpobaaGreatDoor.Z
open Go
theorem climb_dvd {base den1 up1 rest wide c2 q3 denL q4 restL denW denL2 restW restL2 : Int} (hw : c2 ∣ wide) (hd : c2 ∣ base * denL + up1 * restL)
    (e3 : den1 = q3 * wide + denL) (e4 : rest = q4 * wide + restL) (e5 : den1 = denW * c2 + denL2) (e6 : rest = restW * c2 + restL2) : c2 ∣ base * denL2 + up1 * restL2 := by
  obtain ⟨a, ha⟩ := hw
  obtain ⟨b, hb⟩ := hd
  refine ⟨b + base * q3 * a + up1 * q4 * a - base * denW - up1 * restW, ?_⟩
  have h1 : denL = den1 - q3 * wide := by omega
  have h2 : restL = rest - q4 * wide := by omega
  have h3 : denL2 = den1 - denW * c2 := by omega
  have h4 : restL2 = rest - restW * c2 := by omega
  subst h1; subst h2; subst h3; subst h4; subst ha
  grind
/-- what climb computes: its numerator and denominator are the value's, but for a common factor -/
theorem climb_eq {num0 den0 whole rest up wide fy fx base g1 up1 den1 c2 w2 denW denL2 restW restL2 left num den : Int}
    (e0 : num0 = whole * den0 + rest) (eb : base = wide * fy + up * (whole - fx)) (eu : up = g1 * up1) (ed : den0 = g1 * den1)
    (e5 : den1 = denW * c2 + denL2) (e6 : rest = restW * c2 + restL2) (el : left * c2 = base * denL2 + up1 * restL2) (ew : wide = w2 * c2)
    (en : num = base * denW + up1 * restW + left) (ef : den = w2 * den1) :
    num * (c2 * g1) = wide * fy * den0 + up * (num0 - fx * den0) ∧ den * (c2 * g1) = wide * den0 := by
  constructor
  · have h : num * c2 = base * den1 + up1 * rest := by subst en; rw [e5, e6]; grind
    have h2 : num * (c2 * g1) = (base * den1 + up1 * rest) * g1 := by rw [← h]; grind
    rw [h2, eb, e0, ed, eu]
    grind
  · subst ef; subst ew; subst ed; grind
end Go.Proofs.YtlbnibicehpobaaGreatDoor.Z
