/- Laws of layer 2: RatioLimits. -/
import Derived.Test.YtjoipfiomeocoabGreatDoorLaw02a
set_option linter.unusedVariables false
set_option linter.unusedSimpArgs false
namespace Go.Proofs.YtjoipfiomeocoabGreatDoor
open Go.RowKit Go.Shelf
open Z

/-- some text of up to 5000 bytes -/
def LRet (w : World) (e : Ending) (w' : World) : Prop := ∃ r : ByteArray, e = .returned (.string r) ∧ r.size ≤ 5000 ∧ Gr w w'
theorem size_app (a b : ByteArray) : (a ++ b).size = a.size + b.size := ByteArray.size_append
theorem rep_zeros (i : Nat) (w : World) (h2 : i ≤ 4099) : Calls Tryz.prog 50 #[.string ⟨#[48]⟩, .int .i64 (i : Int)] w (fun e w' => ∃ z : ByteArray, e = .returned (.string z) ∧ z.size = i ∧ Gr w w') := by
  have H := Tryz.strings_Repeat ⟨#[48]⟩ i w (by omega) (by show 1 * i ≤ _; omega)
  refine H.mono ?_
  rintro e w' ⟨rfl, hg⟩
  refine ⟨_, rfl, ?_, hg⟩
  have : (⟨(Lib.repeatL (⟨#[48]⟩ : ByteArray).data.toList i).toArray⟩ : ByteArray).size = (Lib.repeatL (⟨#[48]⟩ : ByteArray).data.toList i).length := by show Array.size _ = _; simp
  rw [this]
  have hl : ∀ k, (Lib.repeatL [48] k).length = k := fun k => by induction k <;> simp_all [Lib.repeatL]
  exact hl i
set_option maxHeartbeats 4000000 in
set_option maxRecDepth 100000 in
theorem l2_long (d e : Int) (w : World) (hd0 : 0 ≤ d) (hd1 : d ≤ 65535) (he0 : 0 ≤ e) (he1 : e ≤ 65535) : Calls Tryz.prog 18 #[.int .u16 d, .int .u16 e] w (fun en w' => LRet w en w') := by
  obtain ⟨r, hr⟩ : ∃ r : Nat, d.tmod 4100 = r ∧ r ≤ 4099 := ⟨(d.tmod 4100).toNat, by rw [Int.tmod_eq_emod_of_nonneg hd0]; omega, by rw [Int.tmod_eq_emod_of_nonneg hd0]; omega⟩
  obtain ⟨hr, hr1⟩ := hr
  obtain ⟨k, hk, hk1⟩ : ∃ k : Nat, e.tmod 5 = k ∧ k ≤ 4 := ⟨(e.tmod 5).toNat, by rw [Int.tmod_eq_emod_of_nonneg he0]; omega, by rw [Int.tmod_eq_emod_of_nonneg he0]; omega⟩
  have e2 : 2 + (r : Int) - 2 = r := by omega
  have HZ : Hid (∀ w, Calls Tryz.prog 50 #[.string ⟨#[48]⟩, .int .i64 (2 + (r : Int) - 2)] w (fun e w' => ∃ z : ByteArray, e = .returned (.string z) ∧ z.size = r ∧ Gr w w')) := fun w => by rw [e2]; exact rep_zeros r w hr1
  clear e2
  have hk5 : k = 0 ∨ k = 1 ∨ k = 2 ∨ k = 3 ∨ k = 4 := by omega
  rcases hk5 with rfl | rfl | rfl | rfl | rfl
  all_goals
    go_enter Tryz.func18, Tryz.ntmps18
    go_wp2_with fail
    refine (HZ.out _).mono ?_
    rintro en w1 ⟨z, rfl, hz, hg⟩
    have HG := Lib.hid hg; clear hg
    have HZ1 := Lib.hid hz
    have hz1 : z.size ≤ 4099 := by omega
    clear hz
    go_wp2
    go_ret
    refine ⟨_, rfl, ?_, ?_⟩
    · simp only [size_app, show ∀ c : UInt8, (⟨#[c]⟩ : ByteArray).size = 1 from fun _ => rfl]; omega
    · first | exact HG.out | exact HG.out.alloc _
section
variable {w0 : World} (htab : Tab w0) (hmx : Mx w0)
include htab hmx
set_option maxHeartbeats 4000000 in
set_option maxRecDepth 100000 in
theorem l2_RatioLimits {x y den : Int} (hx : 0 ≤ x ∧ x ≤ 65535) (hy : 0 ≤ y ∧ y ≤ 65535) (hd : 0 ≤ den ∧ den ≤ 65535) : Ret w0 4 #[.int .u16 x, .int .u16 y, .int .u16 den] (.bool true) := by
  obtain ⟨hd0, hd1⟩ := hd
  obtain ⟨m, hm, hm1⟩ : ∃ m : Nat, den.tdiv 5 = m ∧ m ≤ 65535 := ⟨(den.tdiv 5).toNat, by rw [Int.tdiv_eq_ediv_of_nonneg hd0]; omega, by rw [Int.tdiv_eq_ediv_of_nonneg hd0]; omega⟩
  have AW := Lib.hid (l2_awake htab hmx)
  have HL1 := Lib.hid (fun w => l2_long x den w hx.1 hx.2 hd0 hd1)
  have HL2 := Lib.hid (fun w => l2_long y (m : Int) w hy.1 hy.2 (by omega) (by omega))
  have HT := Lib.hid htab
  have HX := Lib.hid hmx
  clear htab hmx hx hy
  intro w hg
  have HG := Lib.hid hg; clear hg
  go_enter Tryz.func4, Tryz.ntmps4
  go_wp2_with fail
  refine (HL1.out _).mono ?_
  rintro en w1 ⟨a, rfl, ha, hg⟩
  replace HG := Lib.hid (Gr.trans HG.out hg); clear hg
  go_wp2_with fail
  refine (HL2.out _).mono ?_
  rintro en w1 ⟨b, rfl, hb, hg⟩
  replace HG := Lib.hid (Gr.trans HG.out hg); clear hg
  have CQ := Lib.hid (ret_QCheck HT.out HX.out (s := a) (by omega))
  have CR := Lib.hid (r2_Check (w0 := w0) a (by omega))
  have qm := ret_QMul HT.out HX.out (s := a) (t := b) (by omega) (by omega)
  have rm := ret_Mul2 (w0 := w0) (s := a) (t := b) (by omega) (by omega)
  obtain ⟨pm, hpm⟩ : ∃ p, p = op2 a b mulR := ⟨_, rfl⟩
  rw [← hpm] at qm rm
  obtain ⟨vm, em⟩ := pm
  have Qm := Lib.hid (Ret.si qm rfl)
  have Rm := Lib.hid (Ret.si rm rfl)
  clear qm rm hpm
  have qa := ret_QAdd HT.out HX.out (s := a) (t := b) (by omega) (by omega)
  have ra := ret_Add2 (w0 := w0) (s := a) (t := b) (by omega) (by omega)
  obtain ⟨pa, hpa⟩ : ∃ p, p = op2 a b addR := ⟨_, rfl⟩
  rw [← hpa] at qa ra
  obtain ⟨va, ea⟩ := pa
  have Qa := Lib.hid (Ret.si qa rfl)
  have Ra := Lib.hid (Ret.si ra rfl)
  clear qa ra hpa
  generalize chkS a = c at *
  go_wp2_with fail
  refine (CQ.out _ HG.out).mono ?_
  rintro e w1 ⟨rfl, hg⟩
  replace HG := Lib.hid hg; clear hg
  go_wp2_with fail
  refine (CR.out _ HG.out).mono ?_
  rintro e w1 ⟨rfl, hg⟩
  replace HG := Lib.hid hg; clear hg
  go_wp2_with fail
  refine (Qm.out _ HG.out).mono ?_
  rintro e w1 ⟨rfl, hg⟩
  replace HG := Lib.hid hg; clear hg
  go_wp2_with fail
  refine (Rm.out _ HG.out).mono ?_
  rintro e w1 ⟨rfl, hg⟩
  replace HG := Lib.hid hg; clear hg
  go_wp2_with fail
  refine (Qa.out _ HG.out).mono ?_
  rintro e w1 ⟨rfl, hg⟩
  replace HG := Lib.hid hg; clear hg
  go_wp2_with fail
  refine (Ra.out _ HG.out).mono ?_
  rintro e w1 ⟨rfl, hg⟩
  replace HG := Lib.hid hg; clear hg
  go_wp2_with fail
  refine (AW.out _ HG.out).mono ?_
  rintro e w1 ⟨rfl, hg⟩
  replace HG := Lib.hid hg; clear hg
  go_wp2
  go_ret
  exact ⟨rfl, HG.out⟩
end
end Go.Proofs.YtjoipfiomeocoabGreatDoor
