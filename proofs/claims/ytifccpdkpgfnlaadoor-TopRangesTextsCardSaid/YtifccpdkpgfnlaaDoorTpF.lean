/- T3: TopRangesTexts. -/
import Derived.Test.YtifccpdkpgfnlaaDoorTpE
set_option linter.unusedVariables false
set_option linter.unusedSimpArgs false
namespace Go.Proofs.YtifccpdkpgfnlaaDoor
open Go.RowKit Go.Shelf
open Z
theorem push_f2 {i : TypeInfo} (hi : Tryd.prog.info? 73 = some i) (hz0 : i.zero = some (.agg #[.int .i64 0, .int .i64 0])) (hz1 : i.size = 2) (hz2 : i.bytes = 16)
    {ops : Array Oper} {rest : List Oper} {o : Oper} {a : Act} {Q : Exit → Act → World → Prop} {w0 w : World} (hgd : o.guard = none) (s x : Operand)
    (ho : o.op = .call { callee := .builtin .append, args := #[s, x], argTypes := #[29, 29] }) (v : Value) (xs : List (Int × Int)) (hs : a.eval s = v) (hown : OwnF w0.heap.size w v xs) (hg : Gr w0 w)
    (f t : Int) (N : Nat) (hN : N = w.heap.size) (hx : a.eval x = .slice (some ⟨N, 0, none⟩) 1 1) (hlen : xs.length + 1 ≤ 8796093022208)
    (h : ∀ v' w', Hid (OwnF w0.heap.size w' v' (xs ++ [(f, t)])) → Gr w0 w' → wpList Tryd.prog ops Q rest (a.put o.dst v') w') :
    wpList Tryd.prog ops Q (o :: rest) a (w.alloc (.cells #[.int .i64 f, .int .i64 t] 73)) := by
  have hgs := hg.size
  subst hN
  refine wpList_append_own _ hgd s x _ ho w0.heap.size 73 i (.agg #[.int .i64 0, .int .i64 0]) 2 16 Tryd.underlying29 hi hz0 hz1 hz2 rfl (by decide) v xs.length (rv xs) hs (World.ownsRow.alloc hown _) ⟨w.heap.size, 0, none⟩ 1 1 [.int .i64 f, .int .i64 t] hx rfl
    (fun j u hj => ?_) rg_one (by unfold maxLen; omega) (by omega) (by simp; omega) (fun v' w' hown' hgrow _ => h v' w' ?_ (Below.grown (hg.alloc _) hgrow (by simp; omega) (fun k hk => (World.ownsRow.lt hown k hk).1)))
  · rw [WideShapes.add_plain]
    match j, hj with
    | 0, hj => simp only [List.getElem?_cons_zero, Option.some.injEq] at hj; subst hj; rw [World.cell?_alloc_at _ _ _ _ rfl]; rfl
    | 1, hj => simp only [List.getElem?_cons_succ, List.getElem?_cons_zero, Option.some.injEq] at hj; subst hj; rw [World.cell?_alloc_at _ _ _ _ rfl]; rfl
    | j + 2, hj => simp at hj
  · show World.ownsRow _ _ _ _ _ _ _
    rw [rv_snoc, List.length_append]; exact hown'
set_option maxRecDepth 100000 in
set_option maxHeartbeats 2000000 in
theorem pl_Set (a : Option Addr) (R : List (Int × Int)) (cap : Nat) (w : World) (hR : RngAt w a R) (hlen : R.length ≤ 8796093022208) :
    Calls Tryd.prog 40 #[.slice a R.length cap] w fun e w' => e = .returned (.bool (decide (R.length ≤ 30) && decide (checkR R = 0))) ∧ Gr w w' := by
  obtain ⟨i0, hi, hz0, hz1, hz2⟩ := info_parts Tryd.infoRangeF
  have HR := Lib.hid hR
  have QK := Lib.hid (fun (v : Value) (B : Nat) (w' : World) (ho : OwnF B w' v R) => show ∃ c d, v = .slice c R.length d ∧ Calls Tryd.prog 20 #[.slice c R.length d] w' fun e w2 => e = .returned (.int .i64 (checkR R)) ∧ Gr w' w2 from by
    obtain ⟨c, d, rfl, hr, -, -⟩ := ho.shape2
    exact ⟨c, d, rfl, r6_Check c R d w' hr (by omega)⟩)
  obtain ⟨n, hn⟩ : ∃ n, R.length = n := ⟨_, rfl⟩
  have HN := Lib.hid hn
  rw [hn] at hlen QK ⊢
  generalize checkR R = K at *
  obtain ⟨V, hV⟩ : ∃ V, (decide (n ≤ 30) && decide (K = 0)) = V := ⟨_, rfl⟩
  rw [hV]
  have HV := Lib.hid hV
  clear hR hn hV
  go_enter Tryd.func40, Tryd.ntmps40
  go_wp2
  go_loopw [3, 8] (fun ow i wr => ∃ k : Nat, i = .int .i64 k ∧ k ≤ n ∧ Hid (OwnF w.heap.size wr ow (R.take k)) ∧ Hid (Gr w wr)) (fun _ i _ => n - (intOf i).toNat)
  case atStart => exact ⟨0, rfl, by omega, OwnF.nil _ _, Gr.refl w⟩
  case round =>
    obtain ⟨k, rfl, hk, HO, HG⟩ := hrel
    by_cases hlt : k < n
    · have hkR : k < R.length := by rw [HN.out]; exact hlt
      obtain ⟨b, off, rfl, c0, c1⟩ := (HR.out.gr HG.out).at hkR
      have HS := Lib.hid (List.take_succ_eq_append_getElem hkR)
      have hxl : (R.take k).length + 1 ≤ 8796093022208 := by rw [List.length_take]; omega
      generalize R[k] = r at *
      obtain ⟨f, t⟩ := r
      simp only at c0 c1
      generalize R.take k = xs at *
      have HO2 := Lib.hid (HO.out.gr ((Gr.refl wr).alloc (.cells #[.int .i64 f, .int .i64 t] 63)))
      have HG2 := Lib.hid (HG.out.alloc (.cells #[.int .i64 f, .int .i64 t] 63))
      obtain ⟨k0, k1, -, -⟩ := id (RB.new wr f t 63)
      clear HO HG
      go_wp2_with (at_builtin; refine push_f2 hi hz0 hz1 hz2 rfl _ _ rfl _ xs rfl HO2.out HG2.out f t (wr.heap.size + 1) (by simp) rfl (by omega) ?_; rintro v5 w5 HO5 hg5; have HG5 := Lib.hid hg5; clear hg5)
      go_roundw
      case rel => exact ⟨k + 1, by go_num, by omega, Lib.hid (by rw [HS.out]; exact HO5.out), HG5⟩
      case measure => simp [intOf]; omega
    · have hk2 : k = R.length := by rw [HN.out]; omega
      have ho := HO.out
      rw [hk2, List.take_length] at ho
      obtain ⟨c, d, rfl, hQ⟩ := QK.out _ _ _ ho
      have HQ := Lib.hid hQ
      clear HO ho hk2 hQ QK
      by_cases h30 : n ≤ 30
      · have k0 : decide ((n : Int) ≤ 30) = true := decide_eq_true (by omega)
        have hv := HV.out
        rw [decide_eq_true h30, Bool.true_and] at hv
        clear h30 HV
        have HV := Lib.hid hv
        clear hv
        go_wp2_with fail
        refine HQ.out.mono ?_; rintro e w2 ⟨rfl, hg⟩
        have HG2 := Lib.hid (Gr.trans HG.out hg)
        clear hg HG HQ
        by_cases hK : K = 0
        · have kk : (K == 0) = true := by simp [hK]
          have hv := HV.out
          rw [decide_eq_true hK] at hv
          subst hv
          clear hK HV
          go_wp2
          go_ret
          exact ⟨rfl, HG2.out⟩
        · have kk : (K == 0) = false := by simp [hK]
          have hv := HV.out
          rw [decide_eq_false hK] at hv
          subst hv
          clear hK HV
          go_wp2
          go_ret
          exact ⟨rfl, HG2.out⟩
      · have k0 : decide ((n : Int) ≤ 30) = false := decide_eq_false (by omega)
        have hv := HV.out
        rw [decide_eq_false h30, Bool.false_and] at hv
        subst hv
        clear h30 HV
        go_wp2
        go_ret
        exact ⟨rfl, HG.out⟩
theorem sgn_len (R : List (Int × Int)) (v : Bool) (h : ∀ r ∈ R, isRg r = true) : (sgnT (R.map fun r => (v, r))).length ≤ 15 * R.length := by
  induction R with
  | nil => simp [sgnT]
  | cons r R ih =>
    have h1 := ih fun x hx => h x (List.mem_cons_of_mem _ hx)
    have h2 := termT_pos (h r (by simp))
    simp only [List.map_cons, sgnT, List.length_append, List.length_cons, List.length_nil]
    omega
theorem fmt_len {R : List (Int × Int)} (h : checkR R = 0) : (formatR R).1.length ≤ 15 * R.length := by
  unfold formatR
  rw [if_neg (by simp [h]), txtR_join]
  exact txtR_len R (checkL_each h)
theorem eqR_own {v u : Value} {B1 B2 : Nat} {w : World} {X : List (Int × Int)} (h1 : OwnR B1 w v X) (h2 : OwnR B2 w u X) (hl : X.length ≤ 1000) :
    ∃ b1 c1 b2 c2, v = .slice b1 X.length c1 ∧ u = .slice b2 X.length c2 ∧ ∀ w', Gr w w' → Calls Tryd.prog 36 #[.slice b1 X.length c1, .slice b2 X.length c2] w' fun e w2 => e = .returned (.bool true) ∧ Gr w' w2 := by
  obtain ⟨b1, c1, rfl, g1, n1, -⟩ := h1.shape2
  obtain ⟨b2, c2, rfl, g2, -, -⟩ := h2.shape2
  exact ⟨b1, c1, b2, c2, rfl, rfl, fun w' hg => sl_SameR (g1.gr hg) (g2.gr hg) (by omega)⟩
theorem combR_len2 (rem : Bool → Bool → Bool) (A B : List (Int × Int)) : (combR rem A B).1.length ≤ 1000 := by
  have h := setS_len (combG rem (inR A) (inR B) (chans [(1, 999)])) 1000
  unfold combR
  generalize setS (combG rem (inR A) (inR B) (chans [(1, 999)])) 1000 = X at *
  split
  · simp
  · split
    · simp
    · exact h
set_option maxRecDepth 100000 in
set_option maxHeartbeats 4000000 in
theorem top_Texts_ok (a b : Option Addr) (A B : List (Int × Int)) (ca cb : Nat) (w : World) (htab : Tab w) (hA : RngAt w a A) (hB : RngAt w b B) (hca : a = none → ca = 0) (hcb : b = none → cb = 0)
    (hpa : ∀ p o, a = some ⟨p, o, none⟩ → p < w.heap.size) (hpb : ∀ p o, b = some ⟨p, o, none⟩ → p < w.heap.size) (hla : A.length ≤ 30) (hlb : B.length ≤ 30) (h0 : checkR A = 0) (h1 : checkR B = 0) (ha : 0 < A.length) (hb : 0 < B.length) :
    Calls Tryd.prog 10 #[.slice a A.length ca, .slice b B.length cb] w fun e w' => e = .returned (.bool true) ∧ Gr w w' := by
  have AW := Lib.hid (fun w' (hg : Gr w w') => pl_play w' (htab_gr htab hg))
  have SA := Lib.hid (fun w' (hg : Gr w w') => pl_Set a A ca w' (hA.gr hg) (by omega))
  have SB := Lib.hid (fun w' (hg : Gr w w') => pl_Set b B cb w' (hB.gr hg) (by omega))
  rw [h0, decide_eq_true hla] at SA
  rw [h1, decide_eq_true hlb] at SB
  have FA := Lib.hid (fun w' (hg : Gr w w') => ra_Format a A ca w' (hA.gr hg) hca (by omega) (htab_gr htab hg))
  have FB := Lib.hid (fun w' (hg : Gr w w') => ra_Format b B cb w' (hB.gr hg) hcb (by omega) (htab_gr htab hg))
  have eA : (formatR A).2 = 0 := by unfold formatR; rw [if_neg (by simp [h0])]
  have eB : (formatR B).2 = 0 := by unfold formatR; rw [if_neg (by simp [h1])]
  rw [eA] at FA
  rw [eB] at FB
  have UN := Lib.hid (fun w' (hg : Gr w w') => ra_Union a b A B ca cb w' (hA.gr hg) (hB.gr hg) hca hcb (by omega) (by omega) (fun p o e => Nat.lt_of_lt_of_le (hpa p o e) hg.size) (fun p o e => Nat.lt_of_lt_of_le (hpb p o e) hg.size))
  have MI := Lib.hid (fun w' (hg : Gr w w') => ra_Minus a b A B ca cb w' (hA.gr hg) (hB.gr hg) hca hcb (by omega) (by omega) (fun p o e => Nat.lt_of_lt_of_le (hpa p o e) hg.size) (fun p o e => Nat.lt_of_lt_of_le (hpb p o e) hg.size))
  have eU : (combR (fun x y => x || y) A B).2 = 0 := by rw [combR_ok h0 h1]
  have eD : (combR (fun x y => x && !y) A B).2 = 0 := by rw [combR_ok h0 h1]
  rw [eU] at UN
  rw [eD] at MI
  have lA := fmt_len h0
  have lB := fmt_len h1
  have lU := combR_len2 (fun x y => x || y) A B
  have lD := combR_len2 (fun x y => x && !y) A B
  have hrB := checkL_each h1
  have PJ : Hid (∀ w', Calls Tryd.prog 35 #[.string (str (formatR A).1 ++ (⟨#[32, 43, 32]⟩ : ByteArray) ++ str (formatR B).1)] w' fun e w2 => ∃ v, e = .returned (.tuple #[v, .int .i64 0, .int .i64 0]) ∧ OwnR w'.heap.size w2 v (combR (fun x y => x || y) A B).1 ∧ Gr w' w2) := Lib.hid fun w' => by
    have hs : str (formatR A).1 ++ (⟨#[32, 43, 32]⟩ : ByteArray) ++ str (formatR B).1 = str ((formatR A).1 ++ [32, 43, 32] ++ (formatR B).1) := by rw [← str_app, ← str_app]; rfl
    rw [hs]
    have := ra_Parse (str ((formatR A).1 ++ [32, 43, 32] ++ (formatR B).1)) w'
    rw [show ∀ l, (str l).data.toList = l from fun l => by simp [str]] at this
    obtain ⟨x, A1, rfl⟩ : ∃ x A1, A = x :: A1 := by cases A with
      | nil => simp at ha
      | cons x A1 => exact ⟨x, A1, rfl⟩
    rw [parse_join h0 h1 (by rintro rfl; simp at hb) (by simp at hla; omega) hlb] at this
    exact this
  have PM : Hid (∀ w', Calls Tryd.prog 35 #[.string (str ((formatR A).1 ++ sgnT (B.map fun r => (false, r))))] w' fun e w2 => ∃ v, e = .returned (.tuple #[v, .int .i64 0, .int .i64 0]) ∧ OwnR w'.heap.size w2 v (combR (fun x y => x && !y) A B).1 ∧ Gr w' w2) := Lib.hid fun w' => by
    have := ra_Parse (str ((formatR A).1 ++ sgnT (B.map fun r => (false, r)))) w'
    rw [show ∀ l, (str l).data.toList = l from fun l => by simp [str]] at this
    obtain ⟨x, A1, rfl⟩ : ∃ x A1, A = x :: A1 := by cases A with
      | nil => simp at ha
      | cons x A1 => exact ⟨x, A1, rfl⟩
    rw [parse_minus h0 h1 (by simp at hla; omega) hlb] at this
    exact this
  have FO : Hid (∀ (r : Int × Int) (g : Nat) (w' : World), isRg r = true → Gr w w' → RngAt w' (some ⟨g, 0, none⟩) [r] → Calls Tryd.prog 33 #[.slice (some ⟨g, 0, none⟩) 1 1] w' fun e w2 => e = .returned (.tuple #[.string (str (termT r)), .int .i64 0]) ∧ Gr w' w2) := Lib.hid fun r g w' hr hg h => by
    have := ra_Format (some ⟨g, 0, none⟩) [r] 1 w' h (fun e => by cases e) (by simp) (htab_gr htab hg)
    rw [fmt_one hr] at this
    exact this
  clear hA hca hcb hpa hpb htab h0 h1 eA eB eU eD
  have HB := Lib.hid hB
  have HRB := Lib.hid hrB
  clear hB hrB
  generalize (combR (fun x y => x || y) A B).1 = U at *
  generalize (combR (fun x y => x && !y) A B).1 = D at *
  have EU := Lib.hid (fun (v u : Value) (B1 B2 : Nat) (w1 : World) (h1 : OwnR B1 w1 v U) (h2 : OwnR B2 w1 u U) => eqR_own h1 h2 lU)
  have ED := Lib.hid (fun (v u : Value) (B1 B2 : Nat) (w1 : World) (h1 : OwnR B1 w1 v D) (h2 : OwnR B2 w1 u D) => eqR_own h1 h2 lD)
  generalize (formatR A).1 = fa at *
  have lfa : (str fa).size ≤ 450 := by rw [str_size]; omega
  have lfb : (str (formatR B).1).size ≤ 450 := by rw [str_size]; omega
  generalize str (formatR B).1 = sb at *
  have HLA := Lib.hid lA
  clear lA lB lU lD
  generalize hna : A.length = n at *
  obtain ⟨m, hm⟩ : ∃ m, B.length = m := ⟨_, rfl⟩
  have HM := Lib.hid hm
  rw [hm] at hb hlb SB FB UN MI ⊢
  have na : ((n : Int) == 0) = false := by rw [beq_eq_false_iff_ne]; omega
  have nb : ((m : Int) == 0) = false := by rw [beq_eq_false_iff_ne]; omega
  clear hm hna
  have HG0 := Lib.hid (Gr.refl w)
  go_enter Tryd.func10, Tryd.ntmps10
  go_wp2_with fail
  refine (SA.out _ HG0.out).mono ?_; rintro e w1 ⟨rfl, hg⟩
  have HG1 := Lib.hid (Gr.trans HG0.out hg)
  clear hg HG0 SA
  go_wp2_with fail
  refine (SB.out _ HG1.out).mono ?_; rintro e w2 ⟨rfl, hg⟩
  have HG2 := Lib.hid (Gr.trans HG1.out hg)
  clear hg HG1 SB
  go_wp2_with fail
  refine (FA.out _ HG2.out).mono ?_; rintro e w3 ⟨rfl, hg⟩
  have HG3 := Lib.hid (Gr.trans HG2.out hg)
  clear hg HG2 FA
  go_wp2_with fail
  refine (FB.out _ HG3.out).mono ?_; rintro e w4 ⟨rfl, hg⟩
  have HG4 := Lib.hid (Gr.trans HG3.out hg)
  clear hg HG3 FB
  go_wp2_with fail
  refine (UN.out _ HG4.out).mono ?_; rintro e w5 ⟨v, rfl, ho, hg⟩
  have HG5 := Lib.hid (Gr.trans HG4.out hg)
  have HU := Lib.hid ho
  clear hg HG4 UN ho
  go_wp2_with fail
  refine (PJ.out _).mono ?_; rintro e w6 ⟨u, rfl, ho, hg⟩
  have HG6 := Lib.hid (Gr.trans HG5.out hg)
  obtain ⟨b1, f1, b2, f2, rfl, rfl, hE⟩ := EU.out _ _ _ _ _ (HU.out.gr hg) ho
  have HE := Lib.hid hE
  clear hg HG5 PJ ho HU hE EU
  go_wp2_with fail
  refine (HE.out _ (Gr.refl _)).mono ?_; rintro e w7 ⟨rfl, hg⟩
  have HG7 := Lib.hid (Gr.trans HG6.out hg)
  clear hg HG6 HE
  go_wp2_with fail
  refine (MI.out _ HG7.out).mono ?_; rintro e w8 ⟨v, rfl, ho, hg⟩
  have HG8 := Lib.hid (Gr.trans HG7.out hg)
  have HU := Lib.hid ho
  clear hg HG7 MI ho
  go_wp2
  go_loopw [5, 87] (fun s i wr => ∃ k : Nat, i = .int .i64 k ∧ k ≤ m ∧ s = .string (str (fa ++ sgnT ((B.take k).map fun r => (false, r)))) ∧ Hid (Gr w8 wr)) (fun _ i _ => m - (intOf i).toNat)
  case atStart => exact ⟨0, rfl, by omega, by simp [sgnT], Lib.hid (Gr.refl w8)⟩
  case round =>
    obtain ⟨k, rfl, hk, rfl, HH⟩ := hrel
    by_cases hlt : k < m
    · have hkR : k < B.length := by rw [HM.out]; exact hlt
      obtain ⟨q, off, rfl, c0, c1⟩ := (HB.out.gr (Gr.trans HG8.out HH.out)).at hkR
      have HS := Lib.hid (sgnT_nxt hkR)
      have hr := HRB.out _ (List.getElem_mem hkR)
      have lk : (str (fa ++ sgnT ((B.take k).map fun r => (false, r)))).size ≤ 900 := by
        have h2 := sgn_len (B.take k) false (fun r hr => HRB.out r (List.mem_of_mem_take hr))
        rw [List.length_take] at h2
        have h3 := HLA.out
        rw [str_size, List.length_append]; omega
      have FO1 := Lib.hid (fun g w' hg => FO.out B[k] g w' hr hg)
      have lt1 : (str (termT B[k])).size ≤ 12 := by rw [str_size]; exact (termT_pos hr).2
      have HX : Hid (str (fa ++ sgnT ((B.take (k + 1)).map fun r => (false, r))) = str (fa ++ sgnT ((B.take k).map fun r => (false, r))) ++ ((⟨#[32, 45, 32]⟩ : ByteArray) ++ str (termT B[k]))) := Lib.hid (by
        rw [HS.out, show (⟨#[32, 45, 32]⟩ : ByteArray) = str [32, 45, 32] from rfl, str_app, str_app, List.append_assoc])
      generalize B[k] = r at *
      obtain ⟨f, t⟩ := r
      simp only at c0 c1
      generalize str (fa ++ sgnT ((B.take k).map fun r => (false, r))) = xs at *
      generalize str (termT (f, t)) = ts at *
      have k0 := RB.new wr f t 63
      have HGa := Lib.hid ((Gr.refl wr).alloc (.cells #[.int .i64 f, .int .i64 t] 63))
      obtain ⟨k0, k1, -, -⟩ := id k0
      have HGb := Lib.hid (HGa.out.alloc (.cells #[.int .i64 f, .int .i64 t] 63))
      have hr1 := rng_one (wr.alloc (.cells #[.int .i64 f, .int .i64 t] 63)) f t 63
      rw [World.size_alloc] at hr1
      have HR1 := Lib.hid hr1
      clear hr1
      have FO2 := Lib.hid (FO1.out _ _ (Gr.trans (Gr.trans HG8.out HH.out) HGb.out) HR1.out)
      clear hr FO1 HS
      go_wp2_with fail
      refine FO2.out.mono ?_; rintro e w9 ⟨rfl, hg⟩
      have HH9 := Lib.hid (Gr.trans (Gr.trans HH.out HGb.out) hg)
      clear hg FO2 HR1 HH HGa HGb
      go_wp2
      go_roundw
      case rel => exact ⟨k + 1, by go_num, by omega, by rw [HX.out], HH9⟩
      case measure => simp [intOf]; omega
    · have hk2 : k = B.length := by rw [HM.out]; omega
      have HT : Hid (B.take k = B) := Lib.hid (by rw [hk2, List.take_length])
      rw [HT.out]
      clear hk2 HT
      generalize str (fa ++ sgnT (B.map fun r => (false, r))) = xs at *
      go_wp2_with fail
      refine (PM.out _).mono ?_; rintro e w9 ⟨u, rfl, ho, hg⟩
      have HG9 := Lib.hid (Gr.trans (Gr.trans HG8.out HH.out) hg)
      obtain ⟨b1, f1, b2, f2, rfl, rfl, hE⟩ := ED.out _ _ _ _ _ (HU.out.gr (Gr.trans HH.out hg)) ho
      have HE := Lib.hid hE
      clear hg HG8 PM ho HU hE ED
      go_wp2_with fail
      refine (HE.out _ (Gr.refl _)).mono ?_; rintro e wa ⟨rfl, hg⟩
      have HGa := Lib.hid (Gr.trans HG9.out hg)
      clear hg HG9 HE
      go_wp2_with fail
      refine (AW.out _ HGa.out).mono ?_; rintro e wb ⟨rfl, hg⟩
      have HGb := Lib.hid (Gr.trans HGa.out hg)
      clear hg
      go_wp2
      go_ret
      exact ⟨rfl, HGb.out⟩
end Go.Proofs.YtifccpdkpgfnlaaDoor
