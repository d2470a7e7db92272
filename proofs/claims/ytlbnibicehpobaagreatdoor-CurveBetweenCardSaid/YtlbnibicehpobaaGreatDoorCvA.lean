/- Curves: points in memory, Check of the program. -/
import Derived.Test.YtlbnibicehpobaaGreatDoorLvB
import Derived.Deep.QuietTactic
import Derived.BigQuiet
import Derived.IntWalk
import Derived.WalkKit
import Derived.WalkSpells
import Derived.WalkLawsBesides
import Derived.Lib.Hide
import Derived.LoopN
import Derived.Below
set_option linter.unusedVariables false
set_option linter.unusedSimpArgs false
namespace Go.Proofs.YtlbnibicehpobaaGreatDoor.Z
open Go
abbrev Pts := List (Int × Int)
/-- what Check answers of points behind one whose X is q -/
def cvL : Pts → Option Int → Int
  | [], _ => 0
  | p :: l, q => if (lvl p.1 && lvl p.2) = false then 2 else if (match q with | none => false | some x => decide (p.1 ≤ x)) = true then 9 else cvL l (some p.1)
def cvE (l : Pts) : Int := if (l.head?.map (·.1)) ≠ some 0 ∨ (l.getLast?.map (·.1)) ≠ some 65535 then 14 else 0
def cvC (l : Pts) : Int := if l.length < 2 then 14 else if 16 < l.length then 5 else if cvL l none ≠ 0 then cvL l none else cvE l
def prevX (l : Pts) (j : Nat) : Option Int := if j = 0 then none else (l[j - 1]?).map (·.1)
theorem prevX_succ {l : Pts} {j : Nat} (h : j < l.length) : prevX l (j + 1) = some l[j].1 := by
  unfold prevX
  rw [if_neg (by omega), Nat.add_sub_cancel, List.getElem?_eq_getElem h]; rfl
theorem cvE_zero {l : Pts} (h : 2 ≤ l.length) : cvE l = if l[0].1 = 0 ∧ l[l.length - 1].1 = 65535 then 0 else 14 := by
  unfold cvE
  rw [List.head?_eq_getElem?, List.getLast?_eq_getElem?, List.getElem?_eq_getElem (by omega), List.getElem?_eq_getElem (by omega)]
  simp only [Option.map_some, ne_eq, Option.some.injEq]
  by_cases h1 : l[0].1 = 0
  · by_cases h2 : l[l.length - 1].1 = 65535
    · rw [if_neg (by simp [h1, h2]), if_pos ⟨h1, h2⟩]
    · rw [if_pos (.inr h2), if_neg (fun h => h2 h.2)]
  · rw [if_pos (.inl h1), if_neg (fun h => h1 h.1)]
end Go.Proofs.YtlbnibicehpobaaGreatDoor.Z
namespace Go.Proofs.YtlbnibicehpobaaGreatDoor
open Go.RowKit Go.Shelf
open Z
theorem cv_cell {W w1 : World} (h : Gr W w1) {b o : Nat} {v : Value} (hc : W.cell? ⟨b, o, none⟩ = some v) : w1.cell? ⟨b, o, none⟩ = some v :=
  (Below.cell h (p := ⟨b, o, none⟩) (Nat.lt_of_not_le fun hl => by unfold World.cell? at hc; rw [Array.getElem?_eq_none hl] at hc; cases hc)).trans hc
/-- points in memory -/
def PtAt (W : World) (a : Option Addr) (R : Pts) : Prop :=
  (True ∧ R = []) ∨ ∃ b off, a = some ⟨b, off, none⟩ ∧ ∀ j (h : j < R.length), W.cell? ⟨b, off + j * 2, none⟩ = some (.int .i64 R[j].1) ∧ W.cell? ⟨b, off + j * 2 + 1, none⟩ = some (.int .i64 R[j].2)
theorem PtAt.gr {w w' : World} {a : Option Addr} {R : Pts} (h : PtAt w a R) (hg : Gr w w') : PtAt w' a R := by
  rcases h with h | ⟨b, off, ha, hc⟩
  · exact .inl h
  · exact .inr ⟨b, off, ha, fun j hj => ⟨cv_cell hg (hc j hj).1, cv_cell hg (hc j hj).2⟩⟩
theorem PtAt.block {w : World} {a : Option Addr} {R : Pts} (h : PtAt w a R) (h1 : 0 < R.length) : ∃ b off, a = some ⟨b, off, none⟩ ∧ ∀ j (h : j < R.length), w.cell? ⟨b, off + j * 2, none⟩ = some (.int .i64 R[j].1) ∧ w.cell? ⟨b, off + j * 2 + 1, none⟩ = some (.int .i64 R[j].2) := by
  rcases h with ⟨-, h⟩ | h
  · rw [h] at h1; simp at h1
  · exact h
/-- a block of one point -/
structure P2 (w : World) (n : Nat) (f t : Int) : Prop where
  c0 : w.cell? ⟨n, 0, none⟩ = some (.int .i64 f)
  c1 : w.cell? ⟨n, 1, none⟩ = some (.int .i64 t)
theorem P2.new (w : World) (f t : Int) (ty : TypeId) : P2 (w.alloc (.cells #[.int .i64 f, .int .i64 t] ty)) w.heap.size f t :=
  ⟨by rw [World.cell?_alloc_at _ _ _ _ rfl]; rfl, by rw [World.cell?_alloc_at _ _ _ _ rfl]; rfl⟩
set_option maxRecDepth 100000 in
set_option maxHeartbeats 4000000 in
theorem cv_Check (a : Option Addr) (R : Pts) (cap : Nat) (w : World) (hR : PtAt w a R) (hJ : ∀ p ∈ R, isJ p.1 ∧ isJ p.2) (hlen : R.length ≤ 10000000000000) :
    Calls Tryz.prog 15 #[.slice a R.length cap] w fun e w' => e = .returned (.int .i64 (cvC R)) ∧ Gr w w' := by
  have HR := Lib.hid hR
  have HJ := Lib.hid hJ
  obtain ⟨n, hn⟩ : ∃ n, R.length = n := ⟨_, rfl⟩
  have HE := Lib.hid hn
  by_cases h2 : R.length < 2
  · have hv : cvC R = 14 := by unfold cvC; rw [if_pos h2]
    rw [hv]
    rw [hn] at h2 hlen ⊢
    have k0 : decide ((n : Int) < 2) = true := decide_eq_true (by omega)
    have k1 : (n : Int) < 2 := by omega
    clear hv hR hJ hn h2
    go_enter Tryz.func15, Tryz.ntmps15
    go_wp2
    go_ret
    exact ⟨rfl, Gr.refl w⟩
  · by_cases h16 : 16 < R.length
    · have hv : cvC R = 5 := by unfold cvC; rw [if_neg h2, if_pos h16]
      rw [hv]
      rw [hn] at h2 h16 hlen ⊢
      have k0 : decide ((n : Int) < 2) = false := decide_eq_false (by omega)
      have k1 : decide ((16 : Int) < n) = true := decide_eq_true (by omega)
      have k2 : decide ((n : Int) > 16) = true := decide_eq_true (by omega)
      clear hv hR hJ hn
      go_enter Tryz.func15, Tryz.ntmps15
      go_wp2
      go_ret
      exact ⟨rfl, Gr.refl w⟩
    · obtain ⟨b, off, rfl, hc⟩ := hR.block (by omega)
      have HC := Lib.hid hc
      obtain ⟨V, hV⟩ : ∃ V, cvL R none = V := ⟨_, rfl⟩
      have hvc : cvC R = if V ≠ 0 then V else cvE R := by unfold cvC; rw [if_neg h2, if_neg h16, hV]
      have HVC := Lib.hid hvc
      have HV := Lib.hid (show cvL (R.drop 0) (prevX R 0) = V from hV)
      obtain ⟨U, hU⟩ : ∃ U, cvC R = U := ⟨_, rfl⟩
      rw [hU]
      rw [hU] at HVC
      rw [hn] at h2 h16 hlen ⊢
      have k0 : decide ((n : Int) < 2) = false := decide_eq_false (by omega)
      have k1 : decide ((16 : Int) < n) = false := decide_eq_false (by omega)
      have k2 : decide ((n : Int) > 16) = false := decide_eq_false (by omega)
      have H2 := Lib.hid h2
      clear hV hvc hU hR hJ hn hc h2
      go_enter Tryz.func15, Tryz.ntmps15
      go_wp2
      go_loopw [15] (fun i wr => ∃ j : Nat, i = .int .i64 j ∧ j ≤ n ∧ Hid (cvL (R.drop j) (prevX R j) = V) ∧ Hid (Gr w wr)) (fun i _ => n - (intOf i).toNat)
      case atStart => exact ⟨0, rfl, Nat.zero_le _, HV, Lib.hid (Gr.refl w)⟩
      case round =>
        obtain ⟨j, rfl, hj, HVj, HG⟩ := hrel
        by_cases hlt : j < n
        · have hltR : j < R.length := by rw [HE.out]; exact hlt
          have d0 := cv_cell HG.out (HC.out j hltR).1
          have d1 := cv_cell HG.out (HC.out j hltR).2
          have hv := HVj.out
          rw [List.drop_eq_getElem_cons hltR] at hv
          unfold cvL at hv
          have hps := prevX_succ hltR
          rw [← hps] at hv
          have hjx := HJ.out _ (List.getElem_mem hltR)
          have hprev : ∀ i (h : i < R.length), i + 1 = j → prevX R j = some R[i].1 ∧ wr.cell? ⟨b, off + i * 2, none⟩ = some (.int .i64 R[i].1) := fun i h e => by
            subst e; exact ⟨prevX_succ h, cv_cell HG.out (HC.out i h).1⟩
          generalize hx : R[j] = x at *
          obtain ⟨f, t⟩ := x
          simp only at d0 d1 hv hjx
          have HF := Lib.hid (fun w => lv_Check f w hjx.1)
          have HT := Lib.hid (fun w => lv_Check t w hjx.2)
          obtain ⟨p0, p1⟩ := id (P2.new wr f t 52)
          have HGX := Lib.hid (Gr.trans HG.out ((Gr.refl wr).alloc (.cells #[.int .i64 f, .int .i64 t] 52)))
          clear hjx
          cases hf : lvl f
          · rw [hf, if_pos (by simp)] at hv
            rw [hf, if_neg (by simp)] at HF
            subst hv
            have hU := HVC.out
            rw [if_pos (by decide)] at hU
            subst hU
            clear hprev hx hps HVj hf
            go_wp2_with fail
            refine (HF.out _).mono ?_; rintro e w2 ⟨rfl, rfl⟩
            go_wp2
            go_ret
            exact ⟨rfl, HGX.out⟩
          · rw [hf, if_pos rfl] at HF
            cases ht : lvl t
            · rw [hf, ht, if_pos (by simp)] at hv
              rw [ht, if_neg (by simp)] at HT
              subst hv
              have hU := HVC.out
              rw [if_pos (by decide)] at hU
              subst hU
              clear hprev hx hps HVj hf ht
              go_wp2_with fail
              refine (HF.out _).mono ?_; rintro e w2 ⟨rfl, rfl⟩
              go_wp2_with fail
              refine (HT.out _).mono ?_; rintro e w2 ⟨rfl, rfl⟩
              go_wp2
              go_ret
              exact ⟨rfl, HGX.out⟩
            · rw [ht, if_pos rfl] at HT
              rw [hf, ht, if_neg (by simp)] at hv
              clear hf ht
              cases j with
              | zero =>
                rw [if_neg (by simp [prevX])] at hv
                have HV2 := Lib.hid hv
                simp only [Nat.zero_mul, Nat.add_zero] at d0 d1
                clear hv hprev hx hps HVj
                go_wp2_with fail
                refine (HF.out _).mono ?_; rintro e w2 ⟨rfl, rfl⟩
                go_wp2_with fail
                refine (HT.out _).mono ?_; rintro e w2 ⟨rfl, rfl⟩
                go_wp2_with fail
                go_quiet (fail)
                rename_i nq
                have HG3 := Lib.hid (below_drewN HGX.out nq)
                go_wp2
                go_roundw
                case rel => exact ⟨0 + 1, by go_num, by omega, HV2, HG3⟩
                case measure => simp [intOf]; omega
              | succ i =>
                obtain ⟨hpe, m0⟩ := hprev i (by omega) rfl
                rw [hpe] at hv
                have hjq := (HJ.out _ (List.getElem_mem (show i < R.length by omega))).1
                generalize R[i].1 = q at *
                simp only at hv
                have m1 := cv_cell ((Gr.refl wr).alloc (.cells #[.int .i64 f, .int .i64 t] 52)) m0
                clear hprev hx hpe HVj hps hjq
                have hkc : ((i + 1 : Nat) : Int) = (i : Int) + 1 := by omega
                rw [hkc]
                clear hkc
                by_cases hle : f ≤ q
                · rw [if_pos (by simpa using hle)] at hv
                  subst hv
                  have hU := HVC.out
                  rw [if_pos (by decide)] at hU
                  subst hU
                  clear HVC
                  go_wp2_with fail
                  refine (HF.out _).mono ?_; rintro e w2 ⟨rfl, rfl⟩
                  go_wp2_with fail
                  refine (HT.out _).mono ?_; rintro e w2 ⟨rfl, rfl⟩
                  go_wp2_with fail
                  go_quiet (fail)
                  rename_i nq
                  have HG3 := Lib.hid (below_drewN HGX.out nq)
                  go_wp2
                  go_ret
                  exact ⟨rfl, HG3.out⟩
                · rw [if_neg (by simpa using hle)] at hv
                  have HV2 := Lib.hid hv
                  clear hv
                  have hlt2 : q < f := by omega
                  go_wp2_with fail
                  refine (HF.out _).mono ?_; rintro e w2 ⟨rfl, rfl⟩
                  go_wp2_with fail
                  refine (HT.out _).mono ?_; rintro e w2 ⟨rfl, rfl⟩
                  go_wp2_with fail
                  go_quiet (fail)
                  rename_i nq
                  have HG3 := Lib.hid (below_drewN HGX.out nq)
                  go_wp2
                  go_roundw
                  case rel => exact ⟨i + 1 + 1, by go_num, by omega, HV2, HG3⟩
                  case measure => simp [intOf]; omega
        · have hjl : j = n := by omega
          subst hjl
          have hv := HVj.out
          rw [List.drop_of_length_le (by rw [HE.out]; exact Nat.le_refl _)] at hv
          unfold cvL at hv
          subst hv
          have hU := HVC.out
          rw [if_neg (by simp)] at hU
          clear HVj HVC
          obtain ⟨m, rfl⟩ : ∃ m, j = m + 2 := ⟨j - 2, by have := H2.out; omega⟩
          have l0 : 0 < R.length := by rw [HE.out]; omega
          have l1 : m + 1 < R.length := by rw [HE.out]; omega
          have d0 := cv_cell HG.out (HC.out 0 l0).1
          have d1 := cv_cell HG.out (HC.out (m + 1) l1).1
          rw [cvE_zero (by rw [HE.out]; omega)] at hU
          have e2 : R[R.length - 1] = R[m + 1] := by congr 1; rw [HE.out]; omega
          rw [e2] at hU
          generalize R[0].1 = x at *
          generalize R[m + 1].1 = y at *
          simp only [Nat.zero_mul, Nat.add_zero] at d0
          have hkc : ((m + 2 : Nat) : Int) = (m : Int) + 2 := by omega
          have hwr : IntKind.i64.wrap ((m : Int) + 2 - 1) = ((m + 1 : Nat) : Int) := by rw [show (m : Int) + 2 - 1 = ((m + 1 : Nat) : Int) by omega]; exact IntWalk.i64_in _ (by omega)
          have hm1 : m + 1 < m + 2 := by omega
          have hm0 : 0 < m + 2 := by omega
          clear l0 l1 e2
          by_cases hx : x = 0
          · by_cases hy : y = 65535
            · rw [if_pos ⟨hx, hy⟩] at hU
              subst hx; subst hy; subst hU
              go_wp2
              go_ret
              exact ⟨rfl, HG.out⟩
            · rw [if_neg (fun h => hy h.2)] at hU
              subst hx; subst hU
              go_wp2
              go_ret
              exact ⟨rfl, HG.out⟩
          · rw [if_neg (fun h => hx h.1)] at hU
            subst hU
            go_wp2
            go_ret
            exact ⟨rfl, HG.out⟩
end Go.Proofs.YtlbnibicehpobaaGreatDoor
