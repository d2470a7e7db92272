/- Law 11: the reference's of, Shown and Light. -/
import Derived.Test.YtipfofdjngnkpaaCoP
set_option linter.unusedVariables false
set_option linter.unusedSimpArgs false
namespace Go.Proofs.Ytipfofdjngnkpaa
open Go.RowKit
open Z
theorem exec_min2 {o : Oper} {ev : Operand → Value} {w : World} {p q : Operand} {x y : Int} (ho : o.op = .call { callee := .builtin .min, args := #[p, q], argTypes := #[3, 3] })
    (hp : ev p = .int .i64 x) (hq : ev q = .int .i64 y) : (execOp ev o).run Try.prog w = .ok (.value (.int .i64 (min x y))) w := by
  have hv : (if y < x then y else x) = min x y := by split <;> omega
  unfold execOp
  rw [ho]
  simp [hp, hq, go_sem]
  rw [hv]
theorem wpl_min2 {ops : Array Oper} {rest : List Oper} {o : Oper} {a : Act} {Q : Exit → Act → World → Prop} {w : World} {p q : Operand} {x y : Int} (hg : o.guard = none) (ho : o.op = .call { callee := .builtin .min, args := #[p, q], argTypes := #[3, 3] })
    (hp : a.eval p = .int .i64 x) (hq : a.eval q = .int .i64 y) (hK : wpList Try.prog ops Q rest (a.put o.dst (.int .i64 (min x y))) w) : wpList Try.prog ops Q (o :: rest) a w := by
  refine wpList_plain hg fun K hK' => ?_
  unfold Oper.wp
  rw [exec_min2 ho hp hq, Oper.upon_value]
  exact hK' _ _ hK
set_option maxRecDepth 100000 in
set_option maxHeartbeats 1000000 in
theorem rf_of {a b : Option Addr} {l v : List Int} {ca cb : Nat} (x : Int) (w : World) (hr : RdI w a l) (hv : RdI w b v) (hl : l.length ≤ maxLen) (hlv : l.length = v.length) :
    Calls Try.prog 56 #[.slice a l.length ca, .slice b v.length cb, .int .i64 x] w fun e w' => e = .returned (.int .i64 (atA l v x)) ∧ w' = w := by
  have HP := Lib.hid (rf_place (cap := ca) x w hr hl)
  have hn := placeR_neg l x
  cases hc : l.contains x
  · have hv0 : atA l v x = 0 := atA_not (by intro h; rw [← List.contains_iff_mem] at h; rw [h] at hc; cases hc)
    rw [hv0]
    rw [hc] at hn
    generalize placeR l x = P at *
    have hn2 : decide (P < 0) = true := hn
    clear hr hv hlv hv0 hc hn
    generalize l.length = n1 at *
    generalize v.length = n2 at *
    go_enter Try.func56, Try.ntmps56
    go_wp2_with fail
    refine HP.out.mono ?_; rintro e w1 ⟨rfl, hw1⟩
    rw [hw1]
    go_wp2
    go_ret
    exact ⟨rfl, rfl⟩
  · have hm : x ∈ l := by rwa [List.contains_iff_mem] at hc
    obtain ⟨h1, h2⟩ := at_place hlv hm
    have hp : placeR l x = (l.idxOf x : Int) := by unfold placeR; rw [if_pos hc]
    rw [hc] at hn
    rw [hp] at HP hn
    rw [← h2]
    obtain ⟨b1, o1, rfl, hcell⟩ := hv _ h1
    have hn2 : decide (((l.idxOf x : Nat) : Int) < 0) = false := hn
    have hl2 : v.length ≤ 9223372036854775807 := by rw [← hlv]; exact hl
    generalize v[l.idxOf x] = y at *
    generalize l.idxOf x = k at *
    have hk0 : (0 : Int) ≤ (k : Int) := by omega
    have hk1 : (k : Int) < (v.length : Int) := by omega
    clear hr hv hlv hn h2 hm hp hc hl
    generalize l.length = n1 at *
    generalize v.length = n2 at *
    go_enter Try.func56, Try.ntmps56
    go_wp2_with fail
    refine HP.out.mono ?_; rintro e w1 ⟨rfl, hw1⟩
    rw [hw1]
    clear hw1
    go_wp2
    go_ret
    exact ⟨rfl, rfl⟩
set_option maxRecDepth 100000 in
set_option maxHeartbeats 2000000 in
theorem rf_Shown {a b : Option Addr} {l v : List Int} {ca cb : Nat} (w : World) (hr : RdI w a l) (hv : RdI w b v) (hl : l.length ≤ maxLen) (hlv : l.length = v.length) (hall : v.all isL = true) :
    Calls Try.prog 40 #[.slice a l.length ca, .slice b v.length cb] w fun e w' => e = .returned (vC (lightR l v)) ∧ Gr w w' := by
  have hb := fun k => atA_isL (l := l) hall k
  have HG := Lib.hid ((Gr.refl w).alloc (.cells #[.int .i64 0, .int .i64 0, .int .i64 0] 23))
  obtain ⟨W0, hW0⟩ : ∃ W0, W0 = w.alloc (.cells #[.int .i64 0, .int .i64 0, .int .i64 0] 23) := ⟨_, rfl⟩
  have HC := Lib.hid (show C3At W0 w.heap.size (0, 0, 0) by rw [hW0]; exact C3At.new w (0, 0, 0))
  rw [← hW0] at HG
  have HA := Lib.hid (rf_Additive (cap := ca) W0 (hr.gr HG.out) hl)
  have HO := Lib.hid (fun x => rf_of (ca := ca) (cb := cb) x W0 (hr.gr HG.out) (hv.gr HG.out) hl hlv)
  obtain ⟨V, hV⟩ : ∃ V, lightR l v = V := ⟨_, rfl⟩
  rw [hV]
  unfold lightR at hV
  have HW := Lib.hid hW0
  clear hW0 hr hv hall hl
  have hbr := fun k => hb k
  have HO3 := Lib.hid (HO.out 3)
  obtain ⟨a3, b3⟩ := hb 3
  generalize atA l v 3 = v3 at *
  have HO4 := Lib.hid (HO.out 4)
  obtain ⟨a4, b4⟩ := hb 4
  generalize atA l v 4 = v4 at *
  have HO5 := Lib.hid (HO.out 5)
  obtain ⟨a5, b5⟩ := hb 5
  generalize atA l v 5 = v5 at *
  have HO6 := Lib.hid (HO.out 6)
  obtain ⟨a6, b6⟩ := hb 6
  generalize atA l v 6 = v6 at *
  have HO8 := Lib.hid (HO.out 8)
  obtain ⟨a8, b8⟩ := hb 8
  generalize atA l v 8 = v8 at *
  have HO9 := Lib.hid (HO.out 9)
  obtain ⟨a9, b9⟩ := hb 9
  generalize atA l v 9 = v9 at *
  have HO10 := Lib.hid (HO.out 10)
  obtain ⟨a10, b10⟩ := hb 10
  generalize atA l v 10 = v10 at *
  clear HO hb hbr
  generalize addi l = ad at *
  clear hlv
  generalize l.length = n1 at *
  generalize v.length = n2 at *
  cases ad
  · have HV : Hid ((65535 - v8, 65535 - v9, 65535 - v10) = V) := Lib.hid (by simpa only [Bool.false_eq_true, if_false] using hV)
    clear hV
    go_enter Try.func40, Try.ntmps40
    go_wp2_with fail
    rw [← HW.out]
    refine HA.out.mono ?_; rintro e w1 ⟨rfl, hw1⟩
    rw [hw1]
    clear hw1 HW HA
    go_wp2_with fail
    refine HO8.out.mono ?_; rintro e w8 ⟨rfl, hw8⟩
    rw [hw8]
    clear hw8
    go_wp2_with fail
    refine HO9.out.mono ?_; rintro e w9 ⟨rfl, hw9⟩
    rw [hw9]
    clear hw9
    go_wp2_with fail
    refine HO10.out.mono ?_; rintro e w10 ⟨rfl, hw10⟩
    rw [hw10]
    clear hw10
    go_wp2_with (refine wpl_store3 (c := V) rfl rfl rfl (by rw [← HV.out]; rfl) HC.out ?_)
    refine bodyPost_ret (v := vC V) ?_ rfl ⟨rfl, HG.out.row (Nat.le_refl _) _⟩
    simp [results, Try.results40, asAddr, Act.put]
    rw [run_load3 (show C3At _ _ _ from HC.out.row V)]
  · have HV : Hid ((min 65535 (v3 + v6), min 65535 (v4 + v6), min 65535 (v5 + v6)) = V) := Lib.hid (by simpa only [if_true] using hV)
    clear hV
    go_enter Try.func40, Try.ntmps40
    go_wp2_with fail
    rw [← HW.out]
    refine HA.out.mono ?_; rintro e w1 ⟨rfl, hw1⟩
    rw [hw1]
    clear hw1 HW HA
    go_wp2_with fail
    refine HO6.out.mono ?_; rintro e w6 ⟨rfl, hw6⟩
    rw [hw6]
    clear hw6
    go_wp2_with fail
    refine HO3.out.mono ?_; rintro e w3 ⟨rfl, hw3⟩
    rw [hw3]
    clear hw3
    go_wp2_with (first | (refine wpl_min2 rfl rfl rfl rfl ?_))
    refine HO4.out.mono ?_; rintro e w4 ⟨rfl, hw4⟩
    rw [hw4]
    clear hw4
    go_wp2_with (first | (refine wpl_min2 rfl rfl rfl rfl ?_))
    refine HO5.out.mono ?_; rintro e w5 ⟨rfl, hw5⟩
    rw [hw5]
    clear hw5
    go_wp2_with (first | (refine wpl_min2 rfl rfl rfl rfl ?_) | refine wpl_store3 (c := V) rfl rfl rfl (by rw [← HV.out]; rfl) HC.out ?_)
    refine bodyPost_ret (v := vC V) ?_ rfl ⟨rfl, HG.out.row (Nat.le_refl _) _⟩
    simp [results, Try.results40, asAddr, Act.put]
    rw [run_load3 (show C3At _ _ _ from HC.out.row V)]
end Go.Proofs.Ytipfofdjngnkpaa
