/- Curves: slopes; own lists of points. -/
import Derived.Test.YtlbnibicehpobaaGreatDoorCvB
import Derived.Deep.OwnRows
import Derived.OwnWalk
import Derived.Laws.AppendOwn
import Derived.Laws.Rows
set_option linter.unusedVariables false
set_option linter.unusedSimpArgs false
namespace Go.Proofs.YtlbnibicehpobaaGreatDoor.Z
open Go
def yAt (l : Pts) (k : Nat) : Int := (l[k]?.map (·.2)).getD 0
def upT (l : Pts) : Nat → Bool
  | 0 => true
  | k + 1 => upT l k && decide (yAt l k < yAt l (k + 1))
def dnT (l : Pts) : Nat → Bool
  | 0 => true
  | k + 1 => dnT l k && decide (yAt l (k + 1) < yAt l k)
/-- the slope of a right curve -/
def steepC (l : Pts) : Int := if upT l (l.length - 1) = true then 1 else if dnT l (l.length - 1) = true then -1 else 0
theorem yAt_eq {l : Pts} {k : Nat} (h : k < l.length) : yAt l k = l[k].2 := by unfold yAt; rw [List.getElem?_eq_getElem h]; rfl
def slopeC (l : Pts) : Int × Int := if cvC l ≠ 0 then (0, cvC l) else (steepC l, 0)
def flipP (l : Pts) : Pts := l.map fun p => (p.1, 65535 - p.2)
def flipC (l : Pts) : Pts × Int := if cvC l ≠ 0 then ([], cvC l) else (flipP l, 0)
theorem cvC_len {l : Pts} (h : cvC l = 0) : 2 ≤ l.length ∧ l.length ≤ 16 := by
  unfold cvC at h
  split at h
  · simp at h
  · split at h
    · simp at h
    · omega
def pv (l : Pts) : List Value := l.flatMap fun r => [.int .i64 r.1, .int .i64 r.2]
theorem pv_snoc (l : Pts) (f t : Int) : pv (l ++ [(f, t)]) = pv l ++ [.int .i64 f, .int .i64 t] := by simp [pv]
theorem pv_get (l : Pts) (k : Nat) (hk : k < l.length) : (pv l)[k * 2]? = some (.int .i64 l[k].1) ∧ (pv l)[k * 2 + 1]? = some (.int .i64 l[k].2) := by
  induction l generalizing k with
  | nil => simp at hk
  | cons r l ih =>
    cases k with
    | zero => exact ⟨rfl, rfl⟩
    | succ k =>
      have := ih k (by simpa using hk)
      rw [show (k + 1) * 2 = k * 2 + 1 + 1 by omega]
      simpa [pv] using this
end Go.Proofs.YtlbnibicehpobaaGreatDoor.Z
namespace Go.Proofs.YtlbnibicehpobaaGreatDoor
open Go.RowKit Go.Shelf
open Z
set_option maxRecDepth 100000 in
set_option maxHeartbeats 4000000 in
theorem r9_Steep (a : Option Addr) (R : Pts) (cap : Nat) (w : World) (hR : PtAt w a R) (h1 : 1 ≤ R.length) (hlen : R.length ≤ 10000000000000) :
    Calls Tryz.prog 46 #[.slice a R.length cap] w fun e w' => e = .returned (.int .i64 (steepC R)) ∧ Gr w w' := by
  obtain ⟨b, off, rfl, hc⟩ := hR.block (by omega)
  have HC := Lib.hid hc
  obtain ⟨m, hm⟩ : ∃ m, R.length = m + 1 := ⟨R.length - 1, by omega⟩
  have HM := Lib.hid hm
  have hs : steepC R = if upT R m = true then 1 else if dnT R m = true then -1 else 0 := by unfold steepC; rw [hm]; rfl
  obtain ⟨U, hU⟩ : ∃ U, upT R m = U := ⟨_, rfl⟩
  obtain ⟨D, hD⟩ : ∃ D, dnT R m = D := ⟨_, rfl⟩
  rw [hU, hD] at hs
  rw [hs]
  have HU0 := Lib.hid hU
  have HD0 := Lib.hid hD
  clear hU hD
  have hkm : (((m + 1 : Nat)) : Int) = (m : Int) + 1 := by omega
  rw [hm] at hlen ⊢
  clear hR hc hs hm h1
  go_enter Tryz.func46, Tryz.ntmps46
  go_wp2
  go_loopw [3, 4, 5] (fun u d i wr => ∃ k : Nat, i = .int .i64 ((k : Int) + 1) ∧ k ≤ m ∧ u = .bool (upT R k) ∧ d = .bool (dnT R k) ∧ Hid (Gr w wr)) (fun _ _ i _ => m + 1 - (intOf i).toNat)
  case atStart => exact ⟨0, rfl, by omega, rfl, rfl, Lib.hid (Gr.refl w)⟩
  case round =>
    obtain ⟨k, rfl, hk, rfl, rfl, HG⟩ := hrel
    by_cases hlt : k < m
    · have l0 : k < R.length := by rw [HM.out]; omega
      have l1 : k + 1 < R.length := by rw [HM.out]; omega
      have d0 := cv_cell HG.out (HC.out k l0).2
      have d1 := cv_cell HG.out (HC.out (k + 1) l1).2
      have hu : upT R (k + 1) = (upT R k && decide (R[k].2 < R[k + 1].2)) := by rw [upT, yAt_eq l0, yAt_eq l1]
      have hd : dnT R (k + 1) = (dnT R k && decide (R[k + 1].2 < R[k].2)) := by rw [dnT, yAt_eq l0, yAt_eq l1]
      have HU := Lib.hid hu
      have HD := Lib.hid hd
      generalize R[k].2 = q at *
      generalize R[k + 1].2 = t at *
      generalize upT R k = u at *
      generalize dnT R k = d at *
      have hb1 : k + 1 < m + 1 := by omega
      have hb0 : k < m + 1 := by omega
      clear hu hd l0 l1
      cases u <;> cases d
      all_goals
        go_wp2_with fail
        go_quiet (fail)
        rename_i nq
        have HG3 := Lib.hid (below_drewN HG.out nq)
        replace d0 := cv_cell (below_drewN (Gr.refl wr) nq) d0
        replace d1 := cv_cell (below_drewN (Gr.refl wr) nq) d1
        clear HG
        generalize wr.drewN nq = w3 at *
        go_wp2_with fail
        go_quiet (fail)
        clear d0 d1
        go_wp2
        go_roundw
        case rel => exact ⟨k + 1, by go_num, by omega, by rw [HU.out]; rfl, by rw [HD.out]; rfl, Lib.hid (below_drewN HG3.out _)⟩
        case measure => simp [intOf]; omega
    · obtain rfl : k = m := by omega
      rw [HU0.out, HD0.out]
      clear HU0 HD0
      cases U <;> cases D
      all_goals
        go_wp2
        go_ret
        exact ⟨rfl, HG.out⟩
end Go.Proofs.YtlbnibicehpobaaGreatDoor
