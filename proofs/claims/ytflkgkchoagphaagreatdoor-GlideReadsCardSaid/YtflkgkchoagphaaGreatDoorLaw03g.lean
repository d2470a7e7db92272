/- Law 3: GlideReads. -/
import Derived.Test.YtflkgkchoagphaaGreatDoorLaw03ab
import Derived.Test.YtflkgkchoagphaaGreatDoorGlU
set_option linter.unusedVariables false
set_option linter.unusedSimpArgs false
namespace Go.Proofs.YtflkgkchoagphaaGreatDoor
open Go.RowKit Go.Shelf Go.Deep
open Z

/-- append of one new knot to a slice that the call has made, in the program's type -/
def OwnQ (B : Nat) (w : World) (v : Value) (l : List Kn) : Prop := w.ownsRow B 64 2 v l.length (kv l)
theorem OwnQ.gr {B : Nat} {w w' : World} {v : Value} {l : List Kn} (h : OwnQ B w v l) (hg : Gr w w') : OwnQ B w' v l := World.ownsRow.kept h hg.grown (by cases hv : v.ownBlock with | none => exact .inl rfl | some k => exact .inr (by simp))
theorem OwnQ.nil (B : Nat) (w : World) : OwnQ B w (.slice none 0 0) [] := World.ownsRow_nil _ _ _ _
theorem OwnQ.shape {B : Nat} {w : World} {v : Value} {l : List Kn} (h : OwnQ B w v l) : ∃ a cap, v = .slice a l.length cap ∧ RdK w a l ∧ l.length ≤ cap ∧ cap ≤ maxLen := by
  rcases id h.2 with ⟨rfl, h0⟩ | ⟨g, cap, cur, rfl, _, _, h3, h4, _⟩
  · have : l = [] := List.eq_nil_of_length_eq_zero h0
    subst this
    exact ⟨none, 0, rfl, RdK.nil _ _, Nat.le_refl _, Nat.zero_le _⟩
  · refine ⟨_, cap, rfl, fun k hk => ⟨g, 0, rfl, ?_⟩, h3, h4⟩
    obtain ⟨h0, h1⟩ := kv_get l k hk
    have c : ∀ j u, (kv l)[j]? = some u → w.cell? ⟨g, 0 + j, none⟩ = some u := fun j u hj => by
      have := World.ownsRow.cells h (g := g) rfl j u hj
      rwa [WideShapes.add_plain] at this
    rw [Nat.zero_add]
    exact ⟨by simpa using c _ _ h0, by simpa [Nat.add_assoc] using c _ _ h1⟩
theorem push_q {i : TypeInfo} (hi : Tryz.prog.info? 64 = some i) (hz0 : i.zero = some (.agg #[.int .i64 0, .string ⟨#[]⟩])) (hz1 : i.size = 2) (hz2 : i.bytes = 24)
    {ops : Array Oper} {rest : List Oper} {o : Oper} {a : Act} {Q : Exit → Act → World → Prop} {w0 w : World} (hgd : o.guard = none) (s x : Operand)
    (ho : o.op = .call { callee := .builtin .append, args := #[s, x], argTypes := #[50, 50] }) (v : Value) (xs : List Kn) (hs : a.eval s = v) (hown : OwnQ w0.heap.size w v xs) (hg : Gr w0 w)
    (t : Int) (f : ByteArray) (N : Nat) (hN : N = w.heap.size) (hx : a.eval x = .slice (some ⟨N, 0, none⟩) 1 1) (hlen : (xs.length + 1) * 24 ≤ 140737488355328)
    (h : ∀ v' w', Hid (OwnQ w0.heap.size w' v' (xs ++ [(t, f)])) → Gr w0 w' → wpList Tryz.prog ops Q rest (a.put o.dst v') w') :
    wpList Tryz.prog ops Q (o :: rest) a (w.alloc (.cells #[.int .i64 t, .string f] 64)) := by
  have hgs := hg.size
  subst hN
  refine wpList_append_own _ hgd s x _ ho w0.heap.size 64 i (.agg #[.int .i64 0, .string ⟨#[]⟩]) 2 24 Tryz.underlying50 hi hz0 hz1 hz2 rfl (by decide) v xs.length (kv xs) hs (World.ownsRow.alloc hown _) ⟨w.heap.size, 0, none⟩ 1 1 [.int .i64 t, .string f] hx rfl
    (fun j u hj => ?_) kn_one (by unfold maxLen; omega) hlen (by simp; omega) (fun v' w' hown' hgrow _ => h v' w' ?_ (Below.grown (hg.alloc _) hgrow (by simp; omega) (fun k hk => (World.ownsRow.lt hown k hk).1)))
  · rw [WideShapes.add_plain]
    match j, hj with
    | 0, hj => simp only [List.getElem?_cons_zero, Option.some.injEq] at hj; subst hj; rw [World.cell?_alloc_at _ _ _ _ rfl]; rfl
    | 1, hj => simp only [List.getElem?_cons_succ, List.getElem?_cons_zero, Option.some.injEq] at hj; subst hj; rw [World.cell?_alloc_at _ _ _ _ rfl]; rfl
    | j + 2, hj => simp at hj
  · show World.ownsRow _ _ _ _ _ _ _
    rw [kv_snoc, List.length_append]; exact hown'
section
variable {w0 : World} (htab : Tab w0) (hmx : Mx w0) (herr : ErrR w0)
include htab hmx herr
set_option maxHeartbeats 4000000 in
set_option maxRecDepth 100000 in
theorem l3_GlideReads {a : Option Addr} {l : List Kn} {cap : Nat} (hc : RdK w0 a l) (hsz : ∀ k ∈ l, k.2.size ≤ maxLen) (hlm : l.length ≤ maxLen) (hb24 : l.length * 24 ≤ 140737488355328) {t : Int} (ht : isJ t) : Ret w0 6 #[.slice a l.length cap, .int .i64 t] (.bool true) := by
  have AW := Lib.hid (RetG.of4 (w0 := w0) fun w1 h => l3_awake (htab_gr htab h) (hmx.gr h) (herr.gr h))
  by_cases hm : 20 < l.length ∧ l.length ≤ 512
  · obtain ⟨m1, m2⟩ := hm
    clear htab hmx herr hc hsz hlm hb24
    generalize l.length = n at *
    intro w hg
    have HG := Lib.hid hg; clear hg
    go_enter Tryz.func6, Tryz.ntmps6
    go_wp2_with fail
    refine (AW.out _ HG.out).mono ?_
    rintro e w1 ⟨rfl, hg⟩
    replace HG := Lib.hid (Gr.trans HG.out hg); clear hg
    go_wp2
    go_ret
    exact ⟨rfl, HG.out⟩
  · have HGR : Hid (∀ w, Gr w0 w → ∀ a' c', RdK w a' l → l.length ≤ c' → c' ≤ maxLen → FitsK l → Calls Tryz.prog 36 #[.slice a' l.length c', .int .i64 t] w fun e w' => e = .returned (vSI (readE l t)) ∧ Gr w w') := Lib.hid fun w hg a' c' hr h1 h2 hf =>
      (ret_GRead (htab_gr htab hg) (hmx.gr hg) (herr.gr hg) hr hf h1 h2 ht) w (Gr.refl w)
    have R3 := Lib.hid (fun (hf : FitsK l) => RetG.of4 (w0 := w0) fun w1 h => ret3_Read (w0 := w1) (cap := cap) (hc.gr h) hf hlm ht)
    have HFIT : Hid ((∀ j (hj : j < l.length), j < 20 → (l[j]).2.size ≤ 120) → FitsK l) := Lib.hid fun h => by
      by_cases h5 : 512 < l.length
      · exact .inl h5
      · refine .inr fun k hk => ?_
        obtain ⟨j, hj, rfl⟩ := List.getElem_of_mem hk
        have := h j hj (by omega)
        omega
    have FW := Lib.hid (fun (k : Nat) (hk : k < l.length) => RetG.of4 (w0 := w0) fun w1 _ => ret_Few2 (w0 := w1) (hsz _ (List.getElem_mem hk)))
    have HC := Lib.hid hc
    obtain ⟨i0, hi, hz0, hz1, hz2⟩ := info_parts Tryz.infoKnot
    obtain ⟨n, hn⟩ : ∃ n, n = l.length := ⟨_, rfl⟩
    have HN := Lib.hid hn
    have hm' : n ≤ 20 ∨ 512 < n := by omega
    rw [← hn] at hlm hb24 HGR R3 ⊢
    unfold maxLen at hlm
    obtain ⟨⟨v, e⟩, hve⟩ : ∃ p, readE l t = p := ⟨_, rfl⟩
    rw [hve] at HGR R3
    unfold vSI at HGR R3
    have hbeq := ba_beq (s := v) rfl
    clear htab hmx herr hc hsz hn hm ht hve
    intro w hg
    have HG0 := Lib.hid hg; clear hg
    rcases hm' with hm1 | hm1
    all_goals
      go_enter Tryz.func6, Tryz.ntmps6
      go_wp2
      go_loopw [5, 6, 7, 23] (fun ow _ _ i wr => ∃ k : Nat, i = .int .i64 k ∧ k ≤ n ∧ Hid (OwnQ w.heap.size wr ow (l.take k)) ∧ Hid (Gr w wr) ∧ Hid (∀ j (hj : j < l.length), j < k → j < 20 → (l[j]).2.size ≤ 120)) (fun _ _ _ i _ => n - (intOf i).toNat)
      case atStart => exact ⟨0, rfl, Nat.zero_le _, OwnQ.nil _ _, Gr.refl w, fun j hj h => absurd h (by omega)⟩
      case round =>
        obtain ⟨k, rfl, hk, HO, HG, HK⟩ := hrel
        by_cases hlt : k < n
        · have hkl : k < l.length := by rw [← HN.out]; exact hlt
          obtain ⟨b, o, rfl, hat⟩ := HC.out k hkl
          obtain ⟨c0, c1⟩ := hat.gr (Gr.trans HG0.out HG.out)
          have HT : Hid (l.take (k + 1) = l.take k ++ [l[k]]) := Lib.hid (List.take_succ_eq_append_getElem hkl)
          have hxl : ((l.take k).length + 1) * 24 ≤ 140737488355328 := by rw [List.length_take]; have := HN.out; omega
          have HK2 : Hid ((k < 20 → (l[k]).2.size ≤ 120) → ∀ j (hj : j < l.length), j < k + 1 → j < 20 → (l[j]).2.size ≤ 120) := Lib.hid fun h j hj h1 h2 => by
            by_cases hjk : j = k
            · subst hjk; exact h h2
            · exact HK.out j hj (by omega) h2
          have FK := Lib.hid (FW.out k hkl)
          generalize hx : l[k] = x at *
          obtain ⟨tk, f⟩ := x
          simp only at c0 c1 HK2 FK
          have hbl : b < wr.heap.size := cell_lt c0
          have hbl2 : w.heap.size ≤ wr.heap.size := HG.out.size
          have HX := Lib.hid (KnAt.new wr tk f 62)
          have HGA := Lib.hid ((Gr.refl wr).alloc (.cells #[.int .i64 tk, .string f] 62))
          clear hat hx HK
          generalize l.take k = xs at *
          by_cases h20n : k < 20 ∨ n ≤ 20
          · have h20 : k < 20 := by omega
            clear h20n
            by_cases hs : f.size ≤ 120
            · have FK1 := FK.out
              rw [decide_eq_true hs] at FK1
              have FK1 := Lib.hid FK1
              have HK3 := Lib.hid (HK2.out (fun _ => hs))
              clear FK HK2 hs
              go_wp2_with fail
              refine (FK1.out _ (Gr.trans HG0.out (Gr.trans HG.out HGA.out))).mono ?_
              rintro e1 w1 ⟨rfl, hg1⟩
              obtain ⟨k0, k1⟩ := HX.out.gr hg1
              have HO1 := Lib.hid (HO.out.gr (Gr.trans HGA.out hg1))
              have HG1 := Lib.hid (Gr.trans HG.out (Gr.trans HGA.out hg1))
              clear hg1 HX HO HG HGA c0 c1
              go_wp2_with (at_builtin; refine push_q hi hz0 hz1 hz2 rfl _ _ rfl _ xs rfl HO1.out HG1.out tk f w1.heap.size rfl rfl hxl ?_; rintro v5 w5 HO5 hg5; have HG5 := Lib.hid hg5; clear hg5)
              go_roundw
              case rel => exact ⟨k + 1, by go_num, by omega, by rw [HT.out]; exact HO5.out, HG5.out, HK3.out⟩
              case measure => simp [intOf]; omega
            · have FK1 := FK.out
              rw [decide_eq_false hs] at FK1
              have FK1 := Lib.hid FK1
              clear FK HK2 hs HGR R3 HFIT
              go_wp2_with fail
              refine (FK1.out _ (Gr.trans HG0.out (Gr.trans HG.out HGA.out))).mono ?_
              rintro e1 w1 ⟨rfl, hg1⟩
              have HG1 := Lib.hid (Gr.trans HG0.out (Gr.trans HG.out (Gr.trans HGA.out hg1)))
              clear hg1 HX HO HG HGA c0 c1
              go_wp2_with fail
              refine (AW.out _ HG1.out).mono ?_
              rintro e1 w2 ⟨rfl, hg2⟩
              replace HG1 := Lib.hid (Gr.trans HG1.out hg2); clear hg2
              go_wp2
              go_ret
              exact ⟨rfl, HG1.out⟩
          · first | (exfalso; omega) | skip
            all_goals
              have h20 : ¬ k < 20 := fun h => h20n (.inl h)
              have HK3 := Lib.hid (HK2.out (fun h => absurd h h20))
              obtain ⟨k0, k1⟩ := HX.out
              rw [Nat.zero_add] at k1
              have HO1 := Lib.hid (HO.out.gr HGA.out)
              have HG1 := Lib.hid (Gr.trans HG.out HGA.out)
              have h20' : 20 ≤ k := by omega
              have hn20 : 20 < n := by omega
              clear HX HO HK2 FK h20 h20n
              go_wp2_with (at_builtin; refine push_q hi hz0 hz1 hz2 rfl _ _ rfl _ xs rfl HO1.out HG1.out tk f (wr.heap.size + 1) (by simp) rfl hxl ?_; rintro v5 w5 HO5 hg5; have HG5 := Lib.hid hg5; clear hg5)
              go_roundw
              case rel => exact ⟨k + 1, by go_num, by omega, by rw [HT.out]; exact HO5.out, HG5.out, HK3.out⟩
              case measure => simp [intOf]; omega
        · have hkn : k = n := by omega
          subst hkn
          have hfit := HFIT.out (fun j hj h2 => HK.out j hj (by have := HN.out; omega) h2)
          have ho := HO.out
          rw [List.take_of_length_le (by have := HN.out; omega)] at ho
          obtain ⟨a', c', hv, hr, hlc, hcm⟩ := ho.shape
          rw [← HN.out] at hv hlc
          subst hv
          have G1 := Lib.hid (HGR.out wr (Gr.trans HG0.out HG.out) a' c' hr hlc hcm hfit)
          have G2 := Lib.hid (R3.out hfit)
          have HG1 := Lib.hid (Gr.trans HG0.out HG.out)
          clear ho hr HO HGR R3 HFIT HK hlc hcm hfit
          go_wp2_with fail
          refine G1.out.mono ?_
          rintro e1 w1 ⟨rfl, hg1⟩
          replace HG1 := Lib.hid (Gr.trans HG1.out hg1); clear hg1
          go_wp2_with fail
          refine (G2.out _ HG1.out).mono ?_
          rintro e1 w2 ⟨rfl, hg1⟩
          replace HG1 := Lib.hid (Gr.trans HG1.out hg1); clear hg1
          go_wp2_with fail
          refine (AW.out _ HG1.out).mono ?_
          rintro e1 w3 ⟨rfl, hg1⟩
          replace HG1 := Lib.hid (Gr.trans HG1.out hg1); clear hg1
          go_wp2
          go_ret
          exact ⟨rfl, HG1.out⟩
end
end Go.Proofs.YtflkgkchoagphaaGreatDoor
