/- T3: TopRangesTexts. -/
import Derived.Test.YtjideokeokmbaaaGreatDoorTpE
set_option linter.unusedVariables false
set_option linter.unusedSimpArgs false
namespace Go.Proofs.YtjideokeokmbaaaGreatDoor
open Go.RowKit Go.Shelf
open Z
theorem push_f2 {i : TypeInfo} (hi : Tryz.prog.info? 42 = some i) (hz0 : i.zero = some (.agg #[.int .i64 0, .int .i64 0])) (hz1 : i.size = 2) (hz2 : i.bytes = 16)
    {ops : Array Oper} {rest : List Oper} {o : Oper} {a : Act} {Q : Exit → Act → World → Prop} {w0 w : World} (hgd : o.guard = none) (s x : Operand)
    (ho : o.op = .call { callee := .builtin .append, args := #[s, x], argTypes := #[41, 41] }) (v : Value) (xs : List (Int × Int)) (hs : a.eval s = v) (hown : OwnF w0.heap.size w v xs) (hg : Gr w0 w)
    (f t : Int) (N : Nat) (hN : N = w.heap.size) (hx : a.eval x = .slice (some ⟨N, 0, none⟩) 1 1) (hlen : xs.length + 1 ≤ 8796093022208)
    (h : ∀ v' w', Hid (OwnF w0.heap.size w' v' (xs ++ [(f, t)])) → Gr w0 w' → wpList Tryz.prog ops Q rest (a.put o.dst v') w') :
    wpList Tryz.prog ops Q (o :: rest) a (w.alloc (.cells #[.int .i64 f, .int .i64 t] 42)) := by
  have hgs := hg.size
  subst hN
  refine wpList_append_own _ hgd s x _ ho w0.heap.size 42 i (.agg #[.int .i64 0, .int .i64 0]) 2 16 Tryz.underlying41 hi hz0 hz1 hz2 rfl (by decide) v xs.length (rv xs) hs (World.ownsRow.alloc hown _) ⟨w.heap.size, 0, none⟩ 1 1 [.int .i64 f, .int .i64 t] hx rfl
    (fun j u hj => ?_) rg_one (by unfold maxLen; omega) (by omega) (by simp; omega) (fun v' w' hown' hgrow _ => h v' w' ?_ (Below.grown (hg.alloc _) hgrow (by simp; omega) (fun k hk => (World.ownsRow.lt hown k hk).1)))
  · rw [WideShapes.add_plain]
    match j, hj with
    | 0, hj => simp only [List.getElem?_cons_zero, Option.some.injEq] at hj; subst hj; rw [World.cell?_alloc_at _ _ _ _ rfl]; rfl
    | 1, hj => simp only [List.getElem?_cons_succ, List.getElem?_cons_zero, Option.some.injEq] at hj; subst hj; rw [World.cell?_alloc_at _ _ _ _ rfl]; rfl
    | j + 2, hj => simp at hj
  · show World.ownsRow _ _ _ _ _ _ _
    rw [rv_snoc, List.length_append]; exact hown'
set_option maxRecDepth 100000 in
set_option maxHeartbeats 2000000 in
theorem pl_Set (a : Option Addr) (R : List (Int × Int)) (cap : Nat) (w : World) (hR : RngAt w a R) (hlen : R.length ≤ 8796093022208) :
    Calls Tryz.prog 4 #[.slice a R.length cap] w fun e w' => e = .returned (.bool (decide (R.length ≤ 30) && decide (checkR R = 0))) ∧ Gr w w' := by
  obtain ⟨i0, hi, hz0, hz1, hz2⟩ := info_parts Tryz.infoRangeF
  have HR := Lib.hid hR
  have QK := Lib.hid (fun (v : Value) (B : Nat) (w' : World) (ho : OwnF B w' v R) => show ∃ c d, v = .slice c R.length d ∧ Calls Tryz.prog 15 #[.slice c R.length d] w' fun e w2 => e = .returned (.int .i64 (checkR R)) ∧ Gr w' w2 from by
    obtain ⟨c, d, rfl, hr, -, -⟩ := ho.shape2
    exact ⟨c, d, rfl, r6_Check c R d w' hr (by omega)⟩)
  obtain ⟨n, hn⟩ : ∃ n, R.length = n := ⟨_, rfl⟩
  have HN := Lib.hid hn
  rw [hn] at hlen QK ⊢
  generalize checkR R = K at *
  obtain ⟨V, hV⟩ : ∃ V, (decide (n ≤ 30) && decide (K = 0)) = V := ⟨_, rfl⟩
  rw [hV]
  have HV := Lib.hid hV
  clear hR hn hV
  go_enter Tryz.func4, Tryz.ntmps4
  go_wp2
  go_loopw [3, 8] (fun ow i wr => ∃ k : Nat, i = .int .i64 k ∧ k ≤ n ∧ Hid (OwnF w.heap.size wr ow (R.take k)) ∧ Hid (Gr w wr)) (fun _ i _ => n - (intOf i).toNat)
  case atStart => exact ⟨0, rfl, by omega, OwnF.nil _ _, Gr.refl w⟩
  case round =>
    obtain ⟨k, rfl, hk, HO, HG⟩ := hrel
    by_cases hlt : k < n
    · have hkR : k < R.length := by rw [HN.out]; exact hlt
      obtain ⟨b, off, rfl, c0, c1⟩ := (HR.out.gr HG.out).at hkR
      have HS := Lib.hid (List.take_succ_eq_append_getElem hkR)
      have hxl : (R.take k).length + 1 ≤ 8796093022208 := by rw [List.length_take]; omega
      generalize R[k] = r at *
      obtain ⟨f, t⟩ := r
      simp only at c0 c1
      generalize R.take k = xs at *
      have HO2 := Lib.hid (HO.out.gr ((Gr.refl wr).alloc (.cells #[.int .i64 f, .int .i64 t] 37)))
      have HG2 := Lib.hid (HG.out.alloc (.cells #[.int .i64 f, .int .i64 t] 37))
      obtain ⟨k0, k1, -, -⟩ := id (RB.new wr f t 37)
      clear HO HG
      go_wp2_with (at_builtin; refine push_f2 hi hz0 hz1 hz2 rfl _ _ rfl _ xs rfl HO2.out HG2.out f t (wr.heap.size + 1) (by simp) rfl (by omega) ?_; rintro v5 w5 HO5 hg5; have HG5 := Lib.hid hg5; clear hg5)
      go_roundw
      case rel => exact ⟨k + 1, by go_num, by omega, Lib.hid (by rw [HS.out]; exact HO5.out), HG5⟩
      case measure => simp [intOf]; omega
    · have hk2 : k = R.length := by rw [HN.out]; omega
      have ho := HO.out
      rw [hk2, List.take_length] at ho
      obtain ⟨c, d, rfl, hQ⟩ := QK.out _ _ _ ho
      have HQ := Lib.hid hQ
      clear HO ho hk2 hQ QK
      by_cases h30 : n ≤ 30
      · have k0 : decide ((n : Int) ≤ 30) = true := decide_eq_true (by omega)
        have hv := HV.out
        rw [decide_eq_true h30, Bool.true_and] at hv
        clear h30 HV
        have HV := Lib.hid hv
        clear hv
        go_wp2_with fail
        refine HQ.out.mono ?_; rintro e w2 ⟨rfl, hg⟩
        have HG2 := Lib.hid (Gr.trans HG.out hg)
        clear hg HG HQ
        by_cases hK : K = 0
        · have kk : (K == 0) = true := by simp [hK]
          have hv := HV.out
          rw [decide_eq_true hK] at hv
          subst hv
          clear hK HV
          go_wp2
          go_ret
          exact ⟨rfl, HG2.out⟩
        · have kk : (K == 0) = false := by simp [hK]
          have hv := HV.out
          rw [decide_eq_false hK] at hv
          subst hv
          clear hK HV
          go_wp2
          go_ret
          exact ⟨rfl, HG2.out⟩
      · have k0 : decide ((n : Int) ≤ 30) = false := decide_eq_false (by omega)
        have hv := HV.out
        rw [decide_eq_false h30, Bool.false_and] at hv
        subst hv
        clear h30 HV
        go_wp2
        go_ret
        exact ⟨rfl, HG.out⟩
theorem sgn_len (R : List (Int × Int)) (v : Bool) (h : ∀ r ∈ R, isRg r = true) : (sgnT (R.map fun r => (v, r))).length ≤ 15 * R.length := by
  induction R with
  | nil => simp [sgnT]
  | cons r R ih =>
    have h1 := ih fun x hx => h x (List.mem_cons_of_mem _ hx)
    have h2 := termT_pos (h r (by simp))
    simp only [List.map_cons, sgnT, List.length_append, List.length_cons, List.length_nil]
    omega
theorem fmt_len {R : List (Int × Int)} (h : checkR R = 0) : (formatR R).1.length ≤ 15 * R.length := by
  unfold formatR
  rw [if_neg (by simp [h]), txtR_join]
  exact txtR_len R (checkL_each h)
theorem eqR_own {v u : Value} {B1 B2 : Nat} {w : World} {X : List (Int × Int)} (h1 : OwnR B1 w v X) (h2 : OwnR B2 w u X) (hl : X.length ≤ 1000) :
    ∃ b1 c1 b2 c2, v = .slice b1 X.length c1 ∧ u = .slice b2 X.length c2 ∧ ∀ w', Gr w w' → Calls Tryz.prog 13 #[.slice b1 X.length c1, .slice b2 X.length c2] w' fun e w2 => e = .returned (.bool true) ∧ Gr w' w2 := by
  obtain ⟨b1, c1, rfl, g1, n1, -⟩ := h1.shape2
  obtain ⟨b2, c2, rfl, g2, -, -⟩ := h2.shape2
  exact ⟨b1, c1, b2, c2, rfl, rfl, fun w' hg => sl_SameR (g1.gr hg) (g2.gr hg) (by omega)⟩
theorem combR_len2 (rem : Bool → Bool → Bool) (A B : List (Int × Int)) : (combR rem A B).1.length ≤ 1000 := by
  have h := setS_len (combG rem (inR A) (inR B) (chans [(1, 999)])) 1000
  unfold combR
  generalize setS (combG rem (inR A) (inR B) (chans [(1, 999)])) 1000 = X at *
  split
  · simp
  · split
    · simp
    · exact h
end Go.Proofs.YtjideokeokmbaaaGreatDoor
