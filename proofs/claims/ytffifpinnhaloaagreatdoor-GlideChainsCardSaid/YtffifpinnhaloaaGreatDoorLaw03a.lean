/- Law 3: what the example of the chapter has; knots of both sides. -/
import Derived.Test.YtffifpinnhaloaaGreatDoorGlH
set_option linter.unusedVariables false
set_option linter.unusedSimpArgs false
namespace Go.Proofs.YtffifpinnhaloaaGreatDoor
open Go.RowKit Go.Shelf Go.Deep
open Z

theorem tx250 : Tx 250 = (⟨#[50, 53, 48]⟩ : ByteArray) := by rw [← Tx_ival ⟨#[50, 53, 48]⟩ (by decide +kernel)]; congr 1
theorem tx500 : Tx 500 = (⟨#[53, 48, 48]⟩ : ByteArray) := by rw [← Tx_ival ⟨#[53, 48, 48]⟩ (by decide +kernel)]; congr 1
theorem tx1000 : Tx 1000 = (⟨#[49, 48, 48, 48]⟩ : ByteArray) := by rw [← Tx_ival ⟨#[49, 48, 48, 48]⟩ (by decide +kernel)]; congr 1
theorem tx125 : Tx 125 = (⟨#[49, 50, 53]⟩ : ByteArray) := by rw [← Tx_ival ⟨#[49, 50, 53]⟩ (by decide +kernel)]; congr 1
theorem tx7 : Tx 7 = (⟨#[55]⟩ : ByteArray) := by rw [← Tx_ival ⟨#[55]⟩ (by decide +kernel)]; congr 1
theorem tx9 : Tx 9 = (⟨#[57]⟩ : ByteArray) := by rw [← Tx_ival ⟨#[57]⟩ (by decide +kernel)]; congr 1
theorem rvTx (n : Int) : rv (Tx n) = (n : Rat) := by rw [← RT_int, rv_RT]
theorem glE_txt {n x st ti : Int} (n0 : 0 ≤ n) (n1 : n ≤ 65535) (h : tgE x st ti = 0) : glE (Tx n) x st ti = 0 := by
  unfold glE
  rw [← RT_int, compE_RT (Sh.inR (sh_lvl n0 n1) (by omega)), if_pos (lvlQ_int n0 n1), if_pos rfl, h]
theorem atE_txt {n x st ti t y : Int} (n0 : 0 ≤ n) (n1 : n ≤ 65535) (h : tgE x st ti = 0) (hy : ofG (n : Rat) x st ti t = (y : Rat)) : atE (Tx n) x st ti t = (Tx y, 0) := by
  unfold atE
  rw [if_pos (glE_txt n0 n1 h), rvTx, hy, RT_int]
/-- the example's glides -/
def exG : Gl := (⟨#[48]⟩, 1000, 200, 400)
def exH : Gl := (⟨#[50, 53, 48]⟩, 0, 300, 100)
def exM : Gl := (⟨#[55]⟩, 9, 5, 0)
def exT (k : Nat) : Int × ByteArray := match k with
  | 0 => (0, ⟨#[48]⟩)
  | 1 => (200, ⟨#[48]⟩)
  | 2 => (300, ⟨#[50, 53, 48]⟩)
  | 3 => (400, ⟨#[53, 48, 48]⟩)
  | 4 => (600, ⟨#[49, 48, 48, 48]⟩)
  | _ => (9000, ⟨#[49, 48, 48, 48]⟩)
theorem exT_at (k : Nat) : atE ⟨#[48]⟩ 1000 200 400 (exT k).1 = ((exT k).2, 0) := by
  rw [txt0]
  match k with
  | 0 => exact (atE_txt (y := 0) (by omega) (by omega) (by decide) (by unfold ofG; decide +kernel)).trans (by rw [← txt0]; rfl)
  | 1 => exact (atE_txt (y := 0) (by omega) (by omega) (by decide) (by unfold ofG; decide +kernel)).trans (by rw [← txt0]; rfl)
  | 2 => exact (atE_txt (y := 250) (by omega) (by omega) (by decide) (by unfold ofG; decide +kernel)).trans (by rw [tx250]; rfl)
  | 3 => exact (atE_txt (y := 500) (by omega) (by omega) (by decide) (by unfold ofG; decide +kernel)).trans (by rw [tx500]; rfl)
  | 4 => exact (atE_txt (y := 1000) (by omega) (by omega) (by decide) (by unfold ofG; decide +kernel)).trans (by rw [tx1000]; rfl)
  | k + 5 => show atE (Tx 0) 1000 200 400 9000 = (⟨#[49, 48, 48, 48]⟩, 0); exact (atE_txt (y := 1000) (by omega) (by omega) (by decide) (by unfold ofG; decide +kernel)).trans (by rw [tx1000])
theorem exT_int (k : Nat) : isJ (exT k).1 := by
  match k with
  | 0 | 1 | 2 | 3 | 4 => unfold isJ exT; simp
  | k + 5 => unfold isJ exT; simp
theorem ex_go : goE ⟨#[48]⟩ 1000 200 400 300 0 100 = ((⟨#[50, 53, 48]⟩, 300 - 300, 300, 100), 0) := by
  unfold goE
  rw [txt0, if_pos (glE_txt (by omega) (by omega) (by decide)), if_pos (by decide), rvTx, show ofG ((0 : Int) : Rat) 1000 200 400 300 = ((250 : Int) : Rat) by unfold ofG; decide +kernel, RT_int, tx250]
  rfl
theorem exG_err : exG.err = 0 := by show glE ⟨#[48]⟩ 1000 200 400 = 0; rw [txt0]; exact glE_txt (by omega) (by omega) (by decide)
theorem exH_err : exH.err = 0 := by show glE ⟨#[50, 53, 48]⟩ 0 300 100 = 0; rw [← tx250]; exact glE_txt (by omega) (by omega) (by decide)
theorem exM_err : exM.err = 0 := by show glE ⟨#[55]⟩ 9 5 0 = 0; rw [← tx7]; exact glE_txt (by omega) (by omega) (by decide)
theorem ex_chain : chainE [exG, exH] = 0 := by
  refine chainE_snoc (l := []) (p := exG) (g := exH) (chainE_one exG_err) (by simp) exH_err (by decide) ?_
  show (⟨#[50, 53, 48]⟩ : ByteArray) = RT (ofG (rv ⟨#[48]⟩) 1000 200 400 300)
  rw [txt0, rvTx, show ofG ((0 : Int) : Rat) 1000 200 400 300 = ((250 : Int) : Rat) by unfold ofG; decide +kernel, RT_int, tx250]
theorem ex_val : valE [exG, exH] 350 = (⟨#[49, 50, 53]⟩, 0) := by
  unfold valE
  rw [if_pos ex_chain, if_neg (by simp)]
  show (RT (ofG (rv ⟨#[50, 53, 48]⟩) 0 300 100 350), (0 : Int)) = _
  rw [← tx250, rvTx, show ofG ((250 : Int) : Rat) 0 300 100 350 = ((125 : Int) : Rat) by unfold ofG; decide +kernel, RT_int, tx125]
theorem ex_knots : knL [exG, exH] = [(200, ⟨#[48]⟩), (300, ⟨#[50, 53, 48]⟩), (400, ⟨#[48]⟩)] := by
  have e : knAll [exG, exH] 2 = [(200, ⟨#[48]⟩), (300, ⟨#[50, 53, 48]⟩), (400, Tx 0)] := rfl
  show compactL (knAll [exG, exH] 2) = _
  rw [e, ← txt0]
  decide +kernel
theorem ex_knots1 : knL [exM] = [(5, ⟨#[55]⟩), (5, ⟨#[57]⟩)] := by
  have e : knAll [exM] 1 = [(5, ⟨#[55]⟩), (5, Tx 9)] := rfl
  show compactL (knAll [exM] 1) = _
  rw [e, tx9]
  decide +kernel
/-- append of one new knot to a slice that the call has made, in the reference's type -/
theorem Tryz.infoRKnot : (Tryz.prog.info? 62).map (fun i => (i.zero, i.size, i.bytes)) = some (some (.agg #[.int .i64 0, .string ⟨#[]⟩]), 2, 24) := by kernel_rfl
def OwnR (B : Nat) (w : World) (v : Value) (l : List Kn) : Prop := w.ownsRow B 62 2 v l.length (kv l)
theorem OwnR.gr {B : Nat} {w w' : World} {v : Value} {l : List Kn} (h : OwnR B w v l) (hg : Gr w w') : OwnR B w' v l := World.ownsRow.kept h hg.grown (by cases hv : v.ownBlock with | none => exact .inl rfl | some k => exact .inr (by simp))
theorem OwnR.nil (B : Nat) (w : World) : OwnR B w (.slice none 0 0) [] := World.ownsRow_nil _ _ _ _
theorem OwnR.shape {B : Nat} {w : World} {v : Value} {l : List Kn} (h : OwnR B w v l) : ∃ a cap, v = .slice a l.length cap ∧ RdK w a l ∧ (l = [] ∨ ∃ g, a = some ⟨g, 0, none⟩) := by
  rcases id h.2 with ⟨rfl, h0⟩ | ⟨g, cap, cur, rfl, _⟩
  · have : l = [] := List.eq_nil_of_length_eq_zero h0
    subst this
    exact ⟨none, 0, rfl, RdK.nil _ _, .inl rfl⟩
  · refine ⟨_, cap, rfl, fun k hk => ⟨g, 0, rfl, ?_⟩, .inr ⟨g, rfl⟩⟩
    obtain ⟨h0, h1⟩ := kv_get l k hk
    have c : ∀ j u, (kv l)[j]? = some u → w.cell? ⟨g, 0 + j, none⟩ = some u := fun j u hj => by
      have := World.ownsRow.cells h (g := g) rfl j u hj
      rwa [WideShapes.add_plain] at this
    rw [Nat.zero_add]
    exact ⟨by simpa using c _ _ h0, by simpa [Nat.add_assoc] using c _ _ h1⟩
theorem push_rk {i : TypeInfo} (hi : Tryz.prog.info? 62 = some i) (hz0 : i.zero = some (.agg #[.int .i64 0, .string ⟨#[]⟩])) (hz1 : i.size = 2) (hz2 : i.bytes = 24)
    {ops : Array Oper} {rest : List Oper} {o : Oper} {a : Act} {Q : Exit → Act → World → Prop} {w0 w : World} (hgd : o.guard = none) (s x : Operand)
    (ho : o.op = .call { callee := .builtin .append, args := #[s, x], argTypes := #[53, 53] }) (v : Value) (xs : List Kn) (hs : a.eval s = v) (hown : OwnR w0.heap.size w v xs) (hg : Gr w0 w)
    (t : Int) (f : ByteArray) (N : Nat) (hN : N = w.heap.size) (hx : a.eval x = .slice (some ⟨N, 0, none⟩) 1 1) (hlen : xs.length ≤ 3000000)
    (h : ∀ v' w', Hid (OwnR w0.heap.size w' v' (xs ++ [(t, f)])) → Gr w0 w' → wpList Tryz.prog ops Q rest (a.put o.dst v') w') :
    wpList Tryz.prog ops Q (o :: rest) a (w.alloc (.cells #[.int .i64 t, .string f] 62)) := by
  have hgs := hg.size
  subst hN
  refine wpList_append_own _ hgd s x _ ho w0.heap.size 62 i (.agg #[.int .i64 0, .string ⟨#[]⟩]) 2 24 Tryz.underlying53 hi hz0 hz1 hz2 rfl (by decide) v xs.length (kv xs) hs (World.ownsRow.alloc hown _) ⟨w.heap.size, 0, none⟩ 1 1 [.int .i64 t, .string f] hx rfl
    (fun j u hj => ?_) kn_one (by unfold maxLen; omega) (by omega) (by simp; omega) (fun v' w' hown' hgrow _ => h v' w' ?_ (Below.grown (hg.alloc _) hgrow (by simp; omega) (fun k hk => (World.ownsRow.lt hown k hk).1)))
  · rw [WideShapes.add_plain]
    match j, hj with
    | 0, hj => simp only [List.getElem?_cons_zero, Option.some.injEq] at hj; subst hj; rw [World.cell?_alloc_at _ _ _ _ rfl]; rfl
    | 1, hj => simp only [List.getElem?_cons_succ, List.getElem?_cons_zero, Option.some.injEq] at hj; subst hj; rw [World.cell?_alloc_at _ _ _ _ rfl]; rfl
    | j + 2, hj => simp at hj
  · show World.ownsRow _ _ _ _ _ _ _
    rw [kv_snoc, List.length_append]; exact hown'
set_option maxHeartbeats 2000000 in
set_option maxRecDepth 100000 in
theorem l3_knots {a : Option Addr} {l : List Kn} {cap : Nat} (w : World) (hc : RdK w a l) (hlen : l.length ≤ 600) :
    Calls Tryz.prog 34 #[.slice a l.length cap] w (fun e w' => (∃ a' c', e = .returned (.slice a' l.length c') ∧ RdK w' a' l) ∧ Gr w w') := by
  have HC := Lib.hid hc; clear hc
  obtain ⟨i0, hi, hz0, hz1, hz2⟩ := info_parts Tryz.infoRKnot
  obtain ⟨n, hn⟩ : ∃ n, n = l.length := ⟨_, rfl⟩
  have HN := Lib.hid hn
  rw [← hn] at hlen ⊢
  clear hn
  go_enter Tryz.func34, Tryz.ntmps34
  go_wp2
  go_loopw [3, 5, 8] (fun v _ i wr => ∃ k : Nat, i = .int .i64 k ∧ k ≤ n ∧ Hid (OwnR w.heap.size wr v (l.take k)) ∧ Hid (Gr w wr)) (fun _ _ i _ => n - (intOf i).toNat)
  case atStart => exact ⟨0, rfl, Nat.zero_le _, OwnR.nil _ _, Gr.refl w⟩
  case round =>
    obtain ⟨k, rfl, hk, HO, HG⟩ := hrel
    by_cases hlt : k < n
    · have hkl : k < l.length := by rw [← HN.out]; exact hlt
      obtain ⟨b, o, rfl, hat⟩ := HC.out k hkl
      obtain ⟨c0, c1⟩ := hat.gr HG.out
      have HT : Hid (l.take (k + 1) = l.take k ++ [l[k]]) := Lib.hid (List.take_succ_eq_append_getElem hkl)
      have hxl : (l.take k).length ≤ 600 := by rw [List.length_take]; have := HN.out; omega
      generalize hx : l[k] = x at *
      obtain ⟨t, f⟩ := x
      simp only at c0 c1
      have hbl : b < wr.heap.size := cell_lt c0
      have HO1 := Lib.hid (HO.out.gr ((Gr.refl wr).alloc (.cells #[.int .i64 t, .string f] 64)))
      have HG1 := Lib.hid (HG.out.alloc (.cells #[.int .i64 t, .string f] 64))
      clear hat hx HO HG
      generalize l.take k = xs at *
      go_wp2_with (at_builtin; refine push_rk hi hz0 hz1 hz2 rfl _ _ rfl _ xs rfl HO1.out HG1.out t f (wr.heap.size + 1) (by simp) rfl (by omega) ?_; rintro v5 w5 HO5 hg5; have HG5 := Lib.hid hg5; clear hg5)
      go_roundw
      case rel => exact ⟨k + 1, by go_num, by omega, by rw [HT.out]; exact HO5.out, HG5.out⟩
      case measure => simp [intOf]; omega
    · have hkn : k = n := by omega
      subst hkn
      have ho := HO.out
      rw [List.take_of_length_le (by have := HN.out; omega)] at ho
      obtain ⟨a', c', hv, hr, -⟩ := ho.shape
      rw [← HN.out] at hv
      subst hv
      have HR := Lib.hid hr
      clear ho hr HO
      go_wp2
      go_ret
      exact ⟨⟨a', c', rfl, HR.out⟩, HG.out⟩
set_option maxHeartbeats 2000000 in
set_option maxRecDepth 100000 in
theorem r3_SameKnots {a b : Option Addr} {la lb : List Kn} {ca cb : Nat} (w : World) (ha : RdK w a la) (hb : RdK w b lb) (hlen : la.length ≤ 600) :
    Calls Tryz.prog 33 #[.slice a la.length ca, .slice b lb.length cb] w (fun e w' => e = .returned (.bool (decide (la = lb))) ∧ Gr w w') := by
  by_cases hl : la.length = lb.length
  · have HA := Lib.hid ha
    have HB := Lib.hid hb
    obtain ⟨r, hr⟩ : ∃ r, decide (la = lb) = r := ⟨_, rfl⟩
    have HY : Hid ((∀ j (hj : j < la.length) (hj' : j < lb.length), la[j] = lb[j]) → r = true) := Lib.hid fun h => by rw [← hr]; exact decide_eq_true (List.ext_getElem hl fun j h1 h2 => h j h1 h2)
    have HX : Hid (∀ j (hj : j < la.length) (hj' : j < lb.length), la[j] ≠ lb[j] → r = false) := Lib.hid fun j hj hj' h => by rw [← hr]; exact decide_eq_false fun e => h (by subst e; rfl)
    have HL := Lib.hid hl
    rw [hr, ← hl]
    clear hr ha hb hl
    obtain ⟨n, hn⟩ : ∃ n, n = la.length := ⟨_, rfl⟩
    have HN := Lib.hid hn
    rw [← hn] at hlen ⊢
    clear hn
    go_enter Tryz.func33, Tryz.ntmps33
    go_wp2
    go_loopw [5] (fun i wr => ∃ k : Nat, i = .int .i64 k ∧ k ≤ n ∧ Hid (Gr w wr) ∧ Hid (∀ j (hj : j < la.length) (hj' : j < lb.length), j < k → la[j] = lb[j])) (fun i _ => n - (intOf i).toNat)
    case atStart => exact ⟨0, rfl, Nat.zero_le _, Gr.refl w, fun j hj _ h => absurd h (by omega)⟩
    case round =>
      obtain ⟨k, rfl, hk, HG, HK⟩ := hrel
      by_cases hlt : k < n
      · have hka : k < la.length := by rw [← HN.out]; exact hlt
        have hkb : k < lb.length := by have := HL.out; omega
        obtain ⟨b1, o1, rfl, hat⟩ := HA.out k hka
        obtain ⟨b2, o2, rfl, hbt⟩ := HB.out k hkb
        obtain ⟨c0, c1⟩ := hat.gr HG.out
        obtain ⟨d0, d1⟩ := hbt.gr HG.out
        have HX1 := Lib.hid (HX.out k hka hkb)
        have HQ : Hid (la[k] = lb[k] → ∀ j (hj : j < la.length) (hj' : j < lb.length), j < k + 1 → la[j] = lb[j]) := Lib.hid fun e j hj hj' h => by
          by_cases hjk : j = k
          · subst hjk; exact e
          · exact HK.out j hj hj' (by omega)
        generalize la[k] = x at *
        generalize lb[k] = y at *
        obtain ⟨x0, x1⟩ := x
        obtain ⟨y0, y1⟩ := y
        simp only at c0 c1 d0 d1
        clear hat hbt HK
        by_cases h0 : x0 = y0
        · subst h0
          by_cases h1 : x1 = y1
          · subst h1
            have HQ1 := Lib.hid (HQ.out rfl)
            have hbeq := ba_beq (s := x1) rfl
            clear HX1 HQ
            go_wp2_with fail
            go_region
            go_wp2
            go_roundw
            case rel => exact ⟨k + 1, by go_num, by omega, HG.out.drew, HQ1.out⟩
            case measure => simp [intOf]; omega
          · have hbn := ba_bne (s := x1) (t := y1) h1
            have hr : r = false := HX1.out (fun e => h1 (by injection e))
            subst hr
            clear HX1 HQ h1
            go_wp2_with fail
            go_region
            go_wp2
            go_ret
            exact ⟨rfl, HG.out.drew⟩
        · have hbn : (x0 == y0) = false := by simpa using h0
          have hr : r = false := HX1.out (fun e => h0 (by injection e))
          subst hr
          clear HX1 HQ h0
          go_wp2_with fail
          go_region
          go_wp2
          go_ret
          exact ⟨rfl, HG.out.drew⟩
      · have hr : r = true := HY.out fun j hj hj' => HK.out j hj hj' (by have := HN.out; omega)
        subst hr
        go_wp2
        go_ret
        exact ⟨rfl, HG.out⟩
  · rw [decide_eq_false (fun e => hl (by rw [e]))]
    have hln : ((la.length : Int) == (lb.length : Int)) = false := by rw [beq_eq_false_iff_ne]; omega
    clear ha hb
    generalize la.length = n at *
    generalize lb.length = m at *
    go_enter Tryz.func33, Tryz.ntmps33
    go_wp2
    go_ret
    exact ⟨rfl, Gr.refl w⟩
end Go.Proofs.YtffifpinnhaloaaGreatDoor
