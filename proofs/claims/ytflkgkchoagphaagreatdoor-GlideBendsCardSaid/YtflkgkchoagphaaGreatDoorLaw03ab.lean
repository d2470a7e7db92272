/- Law03ab: Law03a, Law03b, joined. -/
import Derived.Test.YtflkgkchoagphaaGreatDoorGlH
set_option linter.unusedVariables false
set_option linter.unusedSimpArgs false

/- Law 3: what the example of the chapter has; knots of both sides. -/
namespace Go.Proofs.YtflkgkchoagphaaGreatDoor
open Go.RowKit Go.Shelf Go.Deep
open Z

theorem tx250 : Tx 250 = (⟨#[50, 53, 48]⟩ : ByteArray) := by rw [← Tx_ival ⟨#[50, 53, 48]⟩ (by decide +kernel)]; congr 1
theorem tx500 : Tx 500 = (⟨#[53, 48, 48]⟩ : ByteArray) := by rw [← Tx_ival ⟨#[53, 48, 48]⟩ (by decide +kernel)]; congr 1
theorem tx1000 : Tx 1000 = (⟨#[49, 48, 48, 48]⟩ : ByteArray) := by rw [← Tx_ival ⟨#[49, 48, 48, 48]⟩ (by decide +kernel)]; congr 1
theorem tx125 : Tx 125 = (⟨#[49, 50, 53]⟩ : ByteArray) := by rw [← Tx_ival ⟨#[49, 50, 53]⟩ (by decide +kernel)]; congr 1
theorem tx7 : Tx 7 = (⟨#[55]⟩ : ByteArray) := by rw [← Tx_ival ⟨#[55]⟩ (by decide +kernel)]; congr 1
theorem tx9 : Tx 9 = (⟨#[57]⟩ : ByteArray) := by rw [← Tx_ival ⟨#[57]⟩ (by decide +kernel)]; congr 1
theorem rvTx (n : Int) : rv (Tx n) = (n : Rat) := by rw [← RT_int, rv_RT]
theorem glE_txt {n x st ti : Int} (n0 : 0 ≤ n) (n1 : n ≤ 65535) (h : tgE x st ti = 0) : glE (Tx n) x st ti = 0 := by
  unfold glE
  rw [← RT_int, compE_RT (Sh.inR (sh_lvl n0 n1) (by omega)), if_pos (lvlQ_int n0 n1), if_pos rfl, h]
theorem atE_txt {n x st ti t y : Int} (n0 : 0 ≤ n) (n1 : n ≤ 65535) (h : tgE x st ti = 0) (hy : ofG (n : Rat) x st ti t = (y : Rat)) : atE (Tx n) x st ti t = (Tx y, 0) := by
  unfold atE
  rw [if_pos (glE_txt n0 n1 h), rvTx, hy, RT_int]
/-- the example's glides -/
def exG : Gl := (⟨#[48]⟩, 1000, 200, 400)
def exH : Gl := (⟨#[50, 53, 48]⟩, 0, 300, 100)
def exM : Gl := (⟨#[55]⟩, 9, 5, 0)
def exT (k : Nat) : Int × ByteArray := match k with
  | 0 => (0, ⟨#[48]⟩)
  | 1 => (200, ⟨#[48]⟩)
  | 2 => (300, ⟨#[50, 53, 48]⟩)
  | 3 => (400, ⟨#[53, 48, 48]⟩)
  | 4 => (600, ⟨#[49, 48, 48, 48]⟩)
  | _ => (9000, ⟨#[49, 48, 48, 48]⟩)
theorem exT_at (k : Nat) : atE ⟨#[48]⟩ 1000 200 400 (exT k).1 = ((exT k).2, 0) := by
  rw [txt0]
  match k with
  | 0 => exact (atE_txt (y := 0) (by omega) (by omega) (by decide) (by unfold ofG; decide +kernel)).trans (by rw [← txt0]; rfl)
  | 1 => exact (atE_txt (y := 0) (by omega) (by omega) (by decide) (by unfold ofG; decide +kernel)).trans (by rw [← txt0]; rfl)
  | 2 => exact (atE_txt (y := 250) (by omega) (by omega) (by decide) (by unfold ofG; decide +kernel)).trans (by rw [tx250]; rfl)
  | 3 => exact (atE_txt (y := 500) (by omega) (by omega) (by decide) (by unfold ofG; decide +kernel)).trans (by rw [tx500]; rfl)
  | 4 => exact (atE_txt (y := 1000) (by omega) (by omega) (by decide) (by unfold ofG; decide +kernel)).trans (by rw [tx1000]; rfl)
  | k + 5 => show atE (Tx 0) 1000 200 400 9000 = (⟨#[49, 48, 48, 48]⟩, 0); exact (atE_txt (y := 1000) (by omega) (by omega) (by decide) (by unfold ofG; decide +kernel)).trans (by rw [tx1000])
theorem exT_int (k : Nat) : isJ (exT k).1 := by
  match k with
  | 0 | 1 | 2 | 3 | 4 => unfold isJ exT; simp
  | k + 5 => unfold isJ exT; simp
theorem ex_go : goE ⟨#[48]⟩ 1000 200 400 300 0 100 = ((⟨#[50, 53, 48]⟩, 300 - 300, 300, 100), 0) := by
  unfold goE
  rw [txt0, if_pos (glE_txt (by omega) (by omega) (by decide)), if_pos (by decide), rvTx, show ofG ((0 : Int) : Rat) 1000 200 400 300 = ((250 : Int) : Rat) by unfold ofG; decide +kernel, RT_int, tx250]
  rfl
theorem exG_err : exG.err = 0 := by show glE ⟨#[48]⟩ 1000 200 400 = 0; rw [txt0]; exact glE_txt (by omega) (by omega) (by decide)
theorem exH_err : exH.err = 0 := by show glE ⟨#[50, 53, 48]⟩ 0 300 100 = 0; rw [← tx250]; exact glE_txt (by omega) (by omega) (by decide)
theorem exM_err : exM.err = 0 := by show glE ⟨#[55]⟩ 9 5 0 = 0; rw [← tx7]; exact glE_txt (by omega) (by omega) (by decide)
theorem ex_chain : chainE [exG, exH] = 0 := by
  refine chainE_snoc (l := []) (p := exG) (g := exH) (chainE_one exG_err) (by simp) exH_err (by decide) ?_
  show (⟨#[50, 53, 48]⟩ : ByteArray) = RT (ofG (rv ⟨#[48]⟩) 1000 200 400 300)
  rw [txt0, rvTx, show ofG ((0 : Int) : Rat) 1000 200 400 300 = ((250 : Int) : Rat) by unfold ofG; decide +kernel, RT_int, tx250]
theorem ex_val : valE [exG, exH] 350 = (⟨#[49, 50, 53]⟩, 0) := by
  unfold valE
  rw [if_pos ex_chain, if_neg (by simp)]
  show (RT (ofG (rv ⟨#[50, 53, 48]⟩) 0 300 100 350), (0 : Int)) = _
  rw [← tx250, rvTx, show ofG ((250 : Int) : Rat) 0 300 100 350 = ((125 : Int) : Rat) by unfold ofG; decide +kernel, RT_int, tx125]
theorem ex_knots : knL [exG, exH] = [(200, ⟨#[48]⟩), (300, ⟨#[50, 53, 48]⟩), (400, ⟨#[48]⟩)] := by
  have e : knAll [exG, exH] 2 = [(200, ⟨#[48]⟩), (300, ⟨#[50, 53, 48]⟩), (400, Tx 0)] := rfl
  show compactL (knAll [exG, exH] 2) = _
  rw [e, ← txt0]
  decide +kernel
theorem ex_knots1 : knL [exM] = [(5, ⟨#[55]⟩), (5, ⟨#[57]⟩)] := by
  have e : knAll [exM] 1 = [(5, ⟨#[55]⟩), (5, Tx 9)] := rfl
  show compactL (knAll [exM] 1) = _
  rw [e, tx9]
  decide +kernel
/-- append of one new knot to a slice that the call has made, in the reference's type -/
theorem Tryz.infoRKnot : (Tryz.prog.info? 62).map (fun i => (i.zero, i.size, i.bytes)) = some (some (.agg #[.int .i64 0, .string ⟨#[]⟩]), 2, 24) := by kernel_rfl
def OwnR (B : Nat) (w : World) (v : Value) (l : List Kn) : Prop := w.ownsRow B 62 2 v l.length (kv l)
theorem OwnR.gr {B : Nat} {w w' : World} {v : Value} {l : List Kn} (h : OwnR B w v l) (hg : Gr w w') : OwnR B w' v l := World.ownsRow.kept h hg.grown (by cases hv : v.ownBlock with | none => exact .inl rfl | some k => exact .inr (by simp))
theorem OwnR.nil (B : Nat) (w : World) : OwnR B w (.slice none 0 0) [] := World.ownsRow_nil _ _ _ _
theorem OwnR.shape {B : Nat} {w : World} {v : Value} {l : List Kn} (h : OwnR B w v l) : ∃ a cap, v = .slice a l.length cap ∧ RdK w a l ∧ (l = [] ∨ ∃ g, a = some ⟨g, 0, none⟩) := by
  rcases id h.2 with ⟨rfl, h0⟩ | ⟨g, cap, cur, rfl, _⟩
  · have : l = [] := List.eq_nil_of_length_eq_zero h0
    subst this
    exact ⟨none, 0, rfl, RdK.nil _ _, .inl rfl⟩
  · refine ⟨_, cap, rfl, fun k hk => ⟨g, 0, rfl, ?_⟩, .inr ⟨g, rfl⟩⟩
    obtain ⟨h0, h1⟩ := kv_get l k hk
    have c : ∀ j u, (kv l)[j]? = some u → w.cell? ⟨g, 0 + j, none⟩ = some u := fun j u hj => by
      have := World.ownsRow.cells h (g := g) rfl j u hj
      rwa [WideShapes.add_plain] at this
    rw [Nat.zero_add]
    exact ⟨by simpa using c _ _ h0, by simpa [Nat.add_assoc] using c _ _ h1⟩
theorem push_rk {i : TypeInfo} (hi : Tryz.prog.info? 62 = some i) (hz0 : i.zero = some (.agg #[.int .i64 0, .string ⟨#[]⟩])) (hz1 : i.size = 2) (hz2 : i.bytes = 24)
    {ops : Array Oper} {rest : List Oper} {o : Oper} {a : Act} {Q : Exit → Act → World → Prop} {w0 w : World} (hgd : o.guard = none) (s x : Operand)
    (ho : o.op = .call { callee := .builtin .append, args := #[s, x], argTypes := #[53, 53] }) (v : Value) (xs : List Kn) (hs : a.eval s = v) (hown : OwnR w0.heap.size w v xs) (hg : Gr w0 w)
    (t : Int) (f : ByteArray) (N : Nat) (hN : N = w.heap.size) (hx : a.eval x = .slice (some ⟨N, 0, none⟩) 1 1) (hlen : xs.length ≤ 3000000)
    (h : ∀ v' w', Hid (OwnR w0.heap.size w' v' (xs ++ [(t, f)])) → Gr w0 w' → wpList Tryz.prog ops Q rest (a.put o.dst v') w') :
    wpList Tryz.prog ops Q (o :: rest) a (w.alloc (.cells #[.int .i64 t, .string f] 62)) := by
  have hgs := hg.size
  subst hN
  refine wpList_append_own _ hgd s x _ ho w0.heap.size 62 i (.agg #[.int .i64 0, .string ⟨#[]⟩]) 2 24 Tryz.underlying53 hi hz0 hz1 hz2 rfl (by decide) v xs.length (kv xs) hs (World.ownsRow.alloc hown _) ⟨w.heap.size, 0, none⟩ 1 1 [.int .i64 t, .string f] hx rfl
    (fun j u hj => ?_) kn_one (by unfold maxLen; omega) (by omega) (by simp; omega) (fun v' w' hown' hgrow _ => h v' w' ?_ (Below.grown (hg.alloc _) hgrow (by simp; omega) (fun k hk => (World.ownsRow.lt hown k hk).1)))
  · rw [WideShapes.add_plain]
    match j, hj with
    | 0, hj => simp only [List.getElem?_cons_zero, Option.some.injEq] at hj; subst hj; rw [World.cell?_alloc_at _ _ _ _ rfl]; rfl
    | 1, hj => simp only [List.getElem?_cons_succ, List.getElem?_cons_zero, Option.some.injEq] at hj; subst hj; rw [World.cell?_alloc_at _ _ _ _ rfl]; rfl
    | j + 2, hj => simp at hj
  · show World.ownsRow _ _ _ _ _ _ _
    rw [kv_snoc, List.length_append]; exact hown'
set_option maxHeartbeats 2000000 in
set_option maxRecDepth 100000 in
theorem l3_knots {a : Option Addr} {l : List Kn} {cap : Nat} (w : World) (hc : RdK w a l) (hlen : l.length ≤ 600) :
    Calls Tryz.prog 34 #[.slice a l.length cap] w (fun e w' => (∃ a' c', e = .returned (.slice a' l.length c') ∧ RdK w' a' l) ∧ Gr w w') := by
  have HC := Lib.hid hc; clear hc
  obtain ⟨i0, hi, hz0, hz1, hz2⟩ := info_parts Tryz.infoRKnot
  obtain ⟨n, hn⟩ : ∃ n, n = l.length := ⟨_, rfl⟩
  have HN := Lib.hid hn
  rw [← hn] at hlen ⊢
  clear hn
  go_enter Tryz.func34, Tryz.ntmps34
  go_wp2
  go_loopw [3, 5, 8] (fun v _ i wr => ∃ k : Nat, i = .int .i64 k ∧ k ≤ n ∧ Hid (OwnR w.heap.size wr v (l.take k)) ∧ Hid (Gr w wr)) (fun _ _ i _ => n - (intOf i).toNat)
  case atStart => exact ⟨0, rfl, Nat.zero_le _, OwnR.nil _ _, Gr.refl w⟩
  case round =>
    obtain ⟨k, rfl, hk, HO, HG⟩ := hrel
    by_cases hlt : k < n
    · have hkl : k < l.length := by rw [← HN.out]; exact hlt
      obtain ⟨b, o, rfl, hat⟩ := HC.out k hkl
      obtain ⟨c0, c1⟩ := hat.gr HG.out
      have HT : Hid (l.take (k + 1) = l.take k ++ [l[k]]) := Lib.hid (List.take_succ_eq_append_getElem hkl)
      have hxl : (l.take k).length ≤ 600 := by rw [List.length_take]; have := HN.out; omega
      generalize hx : l[k] = x at *
      obtain ⟨t, f⟩ := x
      simp only at c0 c1
      have hbl : b < wr.heap.size := cell_lt c0
      have HO1 := Lib.hid (HO.out.gr ((Gr.refl wr).alloc (.cells #[.int .i64 t, .string f] 64)))
      have HG1 := Lib.hid (HG.out.alloc (.cells #[.int .i64 t, .string f] 64))
      clear hat hx HO HG
      generalize l.take k = xs at *
      go_wp2_with (at_builtin; refine push_rk hi hz0 hz1 hz2 rfl _ _ rfl _ xs rfl HO1.out HG1.out t f (wr.heap.size + 1) (by simp) rfl (by omega) ?_; rintro v5 w5 HO5 hg5; have HG5 := Lib.hid hg5; clear hg5)
      go_roundw
      case rel => exact ⟨k + 1, by go_num, by omega, by rw [HT.out]; exact HO5.out, HG5.out⟩
      case measure => simp [intOf]; omega
    · have hkn : k = n := by omega
      subst hkn
      have ho := HO.out
      rw [List.take_of_length_le (by have := HN.out; omega)] at ho
      obtain ⟨a', c', hv, hr, -⟩ := ho.shape
      rw [← HN.out] at hv
      subst hv
      have HR := Lib.hid hr
      clear ho hr HO
      go_wp2
      go_ret
      exact ⟨⟨a', c', rfl, HR.out⟩, HG.out⟩
set_option maxHeartbeats 2000000 in
set_option maxRecDepth 100000 in
theorem r3_SameKnots {a b : Option Addr} {la lb : List Kn} {ca cb : Nat} (w : World) (ha : RdK w a la) (hb : RdK w b lb) (hlen : la.length ≤ 600) :
    Calls Tryz.prog 33 #[.slice a la.length ca, .slice b lb.length cb] w (fun e w' => e = .returned (.bool (decide (la = lb))) ∧ Gr w w') := by
  by_cases hl : la.length = lb.length
  · have HA := Lib.hid ha
    have HB := Lib.hid hb
    obtain ⟨r, hr⟩ : ∃ r, decide (la = lb) = r := ⟨_, rfl⟩
    have HY : Hid ((∀ j (hj : j < la.length) (hj' : j < lb.length), la[j] = lb[j]) → r = true) := Lib.hid fun h => by rw [← hr]; exact decide_eq_true (List.ext_getElem hl fun j h1 h2 => h j h1 h2)
    have HX : Hid (∀ j (hj : j < la.length) (hj' : j < lb.length), la[j] ≠ lb[j] → r = false) := Lib.hid fun j hj hj' h => by rw [← hr]; exact decide_eq_false fun e => h (by subst e; rfl)
    have HL := Lib.hid hl
    rw [hr, ← hl]
    clear hr ha hb hl
    obtain ⟨n, hn⟩ : ∃ n, n = la.length := ⟨_, rfl⟩
    have HN := Lib.hid hn
    rw [← hn] at hlen ⊢
    clear hn
    go_enter Tryz.func33, Tryz.ntmps33
    go_wp2
    go_loopw [5] (fun i wr => ∃ k : Nat, i = .int .i64 k ∧ k ≤ n ∧ Hid (Gr w wr) ∧ Hid (∀ j (hj : j < la.length) (hj' : j < lb.length), j < k → la[j] = lb[j])) (fun i _ => n - (intOf i).toNat)
    case atStart => exact ⟨0, rfl, Nat.zero_le _, Gr.refl w, fun j hj _ h => absurd h (by omega)⟩
    case round =>
      obtain ⟨k, rfl, hk, HG, HK⟩ := hrel
      by_cases hlt : k < n
      · have hka : k < la.length := by rw [← HN.out]; exact hlt
        have hkb : k < lb.length := by have := HL.out; omega
        obtain ⟨b1, o1, rfl, hat⟩ := HA.out k hka
        obtain ⟨b2, o2, rfl, hbt⟩ := HB.out k hkb
        obtain ⟨c0, c1⟩ := hat.gr HG.out
        obtain ⟨d0, d1⟩ := hbt.gr HG.out
        have HX1 := Lib.hid (HX.out k hka hkb)
        have HQ : Hid (la[k] = lb[k] → ∀ j (hj : j < la.length) (hj' : j < lb.length), j < k + 1 → la[j] = lb[j]) := Lib.hid fun e j hj hj' h => by
          by_cases hjk : j = k
          · subst hjk; exact e
          · exact HK.out j hj hj' (by omega)
        generalize la[k] = x at *
        generalize lb[k] = y at *
        obtain ⟨x0, x1⟩ := x
        obtain ⟨y0, y1⟩ := y
        simp only at c0 c1 d0 d1
        clear hat hbt HK
        by_cases h0 : x0 = y0
        · subst h0
          by_cases h1 : x1 = y1
          · subst h1
            have HQ1 := Lib.hid (HQ.out rfl)
            have hbeq := ba_beq (s := x1) rfl
            clear HX1 HQ
            go_wp2_with fail
            go_region
            go_wp2
            go_roundw
            case rel => exact ⟨k + 1, by go_num, by omega, HG.out.drew, HQ1.out⟩
            case measure => simp [intOf]; omega
          · have hbn := ba_bne (s := x1) (t := y1) h1
            have hr : r = false := HX1.out (fun e => h1 (by injection e))
            subst hr
            clear HX1 HQ h1
            go_wp2_with fail
            go_region
            go_wp2
            go_ret
            exact ⟨rfl, HG.out.drew⟩
        · have hbn : (x0 == y0) = false := by simpa using h0
          have hr : r = false := HX1.out (fun e => h0 (by injection e))
          subst hr
          clear HX1 HQ h0
          go_wp2_with fail
          go_region
          go_wp2
          go_ret
          exact ⟨rfl, HG.out.drew⟩
      · have hr : r = true := HY.out fun j hj hj' => HK.out j hj hj' (by have := HN.out; omega)
        subst hr
        go_wp2
        go_ret
        exact ⟨rfl, HG.out⟩
  · rw [decide_eq_false (fun e => hl (by rw [e]))]
    have hln : ((la.length : Int) == (lb.length : Int)) = false := by rw [beq_eq_false_iff_ne]; omega
    clear ha hb
    generalize la.length = n at *
    generalize lb.length = m at *
    go_enter Tryz.func33, Tryz.ntmps33
    go_wp2
    go_ret
    exact ⟨rfl, Gr.refl w⟩
end Go.Proofs.YtflkgkchoagphaaGreatDoor

/- Law 3: awake. -/
namespace Go.Proofs.YtflkgkchoagphaaGreatDoor
open Go.RowKit Go.Shelf Go.Deep
open Z

def TB (w : World) (b : Nat) : Prop := ∀ k, k < 6 → w.cell? ⟨b, k * 2, none⟩ = some (.int .i64 (exT k).1) ∧ w.cell? ⟨b, k * 2 + 1, none⟩ = some (.string (exT k).2)
theorem TB.gr {w w' : World} {b : Nat} (h : TB w b) (hg : Gr w w') : TB w' b := fun k hk => ⟨gr_cell hg (h k hk).1, gr_cell hg (h k hk).2⟩
abbrev oTB : Obj := .cells #[.int .i64 0, .string ⟨#[48]⟩, .int .i64 200, .string ⟨#[48]⟩, .int .i64 300, .string ⟨#[50, 53, 48]⟩, .int .i64 400, .string ⟨#[53, 48, 48]⟩, .int .i64 600, .string ⟨#[49, 48, 48, 48]⟩, .int .i64 9000, .string ⟨#[49, 48, 48, 48]⟩] 95
theorem TB.new (w : World) : TB (w.alloc oTB) w.heap.size := fun k hk => by
  rw [World.cell?_alloc_at _ _ _ _ rfl, World.cell?_alloc_at _ _ _ _ rfl]
  match k, hk with
  | 0, _ => exact ⟨rfl, rfl⟩
  | 1, _ => exact ⟨rfl, rfl⟩
  | 2, _ => exact ⟨rfl, rfl⟩
  | 3, _ => exact ⟨rfl, rfl⟩
  | 4, _ => exact ⟨rfl, rfl⟩
  | 5, _ => exact ⟨rfl, rfl⟩
  | k + 6, h => exact absurd h (by omega)
theorem rdK_three (w : World) (a b c : Kn) (t : TypeId) : RdK (w.alloc (.cells #[.int .i64 a.1, .string a.2, .int .i64 b.1, .string b.2, .int .i64 c.1, .string c.2] t)) (some ⟨w.heap.size, 0, none⟩) [a, b, c] := fun k hk => by
  refine ⟨w.heap.size, 0, rfl, ?_⟩
  unfold KnAt
  rw [World.cell?_alloc_at _ _ _ _ rfl, World.cell?_alloc_at _ _ _ _ rfl]
  match k, hk with
  | 0, _ => exact ⟨rfl, rfl⟩
  | 1, _ => exact ⟨rfl, rfl⟩
  | 2, _ => exact ⟨rfl, rfl⟩
theorem rdK_two (w : World) (a b : Kn) (t : TypeId) : RdK (w.alloc (.cells #[.int .i64 a.1, .string a.2, .int .i64 b.1, .string b.2] t)) (some ⟨w.heap.size, 0, none⟩) [a, b] := fun k hk => by
  refine ⟨w.heap.size, 0, rfl, ?_⟩
  unfold KnAt
  rw [World.cell?_alloc_at _ _ _ _ rfl, World.cell?_alloc_at _ _ _ _ rfl]
  match k, hk with
  | 0, _ => exact ⟨rfl, rfl⟩
  | 1, _ => exact ⟨rfl, rfl⟩
abbrev exL3 : List Kn := [(200, ⟨#[48]⟩), (300, ⟨#[50, 53, 48]⟩), (400, ⟨#[48]⟩)]
abbrev exL2 : List Kn := [(5, ⟨#[55]⟩), (5, ⟨#[57]⟩)]
abbrev oGG : Obj := .cells #[.string ⟨#[48]⟩, .int .i64 1000, .int .i64 200, .int .i64 400, .string ⟨#[50, 53, 48]⟩, .int .i64 0, .int .i64 300, .int .i64 100] 24
abbrev oKK3 : Obj := .cells #[.int .i64 200, .string ⟨#[48]⟩, .int .i64 300, .string ⟨#[50, 53, 48]⟩, .int .i64 400, .string ⟨#[48]⟩] 62
abbrev oKK2 : Obj := .cells #[.int .i64 5, .string ⟨#[55]⟩, .int .i64 5, .string ⟨#[57]⟩] 62
section
variable {w0 : World} (htab : Tab w0) (hmx : Mx w0) (herr : ErrR w0)
include htab hmx herr
theorem ex_Value (w : World) (hw : Gr w0 w) : Calls Tryz.prog 27 #[.slice (some ⟨w.heap.size, 0, none⟩) 2 2, .int .i64 350] (w.alloc oGG) (fun e w' => e = .returned (.tuple #[.string ⟨#[49, 50, 53]⟩, .int .i64 0]) ∧ Gr w w') := by
  have hg := hw.alloc oGG
  have := (ret_GValue (w0 := w.alloc oGG) (htab_gr htab hg) (hmx.gr hg) (herr.gr hg) (l := [exG, exH]) (cap := 2) (t := 350) (rdG_two w exG exH 24) (by intro g hg; simp only [List.mem_cons, List.not_mem_nil, or_false] at hg; rcases hg with rfl | rfl <;> exact ⟨by unfold isJ; decide, by unfold isJ; decide, by unfold isJ; decide⟩) (.inr (by intro g hg; simp only [List.mem_cons, List.not_mem_nil, or_false] at hg; rcases hg with rfl | rfl <;> decide)) (by decide) (by decide) (by unfold isJ; decide) _ (Gr.refl _))
  rw [ex_val] at this
  refine this.mono ?_
  rintro e w' ⟨rfl, h⟩
  exact ⟨rfl, Gr.trans ((Gr.refl w).alloc _) h⟩
theorem ex_Knots (w : World) (hw : Gr w0 w) : Calls Tryz.prog 29 #[.slice (some ⟨w.heap.size, 0, none⟩) 2 2] (w.alloc oGG) (fun e w' => (∃ g cp, e = .returned (.tuple #[.slice (some ⟨g, 0, none⟩) 3 cp, .int .i64 0]) ∧ RdK w' (some ⟨g, 0, none⟩) exL3) ∧ Gr w w') := by
  have hg := hw.alloc oGG
  have := (ret_GKnots (w0 := w.alloc oGG) (htab_gr htab hg) (hmx.gr hg) (herr.gr hg) (l := [exG, exH]) (cap := 2) (rdG_two w exG exH 24) (by intro g hg; simp only [List.mem_cons, List.not_mem_nil, or_false] at hg; rcases hg with rfl | rfl <;> exact ⟨by unfold isJ; decide, by unfold isJ; decide, by unfold isJ; decide⟩) (.inr (by intro g hg; simp only [List.mem_cons, List.not_mem_nil, or_false] at hg; rcases hg with rfl | rfl <;> decide)) (by decide) (by decide) _ (Gr.refl _))
  refine this.mono ?_
  rintro e w' ⟨h1, ⟨h2, -⟩ | ⟨-, g, cp, rfl, hr, -⟩⟩
  · exact absurd ex_chain h2
  · rw [ex_knots] at hr ⊢
    exact ⟨⟨g, cp, rfl, hr⟩, Gr.trans ((Gr.refl w).alloc _) h1⟩
theorem ex_Knots1 (w : World) (hw : Gr w0 w) : Calls Tryz.prog 29 #[.slice (some ⟨w.heap.size, 0, none⟩) 1 1] (w.alloc (oGl ⟨#[55]⟩ 9 5 0)) (fun e w' => (∃ g cp, e = .returned (.tuple #[.slice (some ⟨g, 0, none⟩) 2 cp, .int .i64 0]) ∧ RdK w' (some ⟨g, 0, none⟩) exL2) ∧ Gr w w') := by
  have hg := hw.alloc (oGl ⟨#[55]⟩ 9 5 0)
  have := (ret_GKnots (w0 := w.alloc (oGl ⟨#[55]⟩ 9 5 0)) (htab_gr htab hg) (hmx.gr hg) (herr.gr hg) (l := [exM]) (cap := 1) (rdG_one w exM 24) (by intro g hg; simp only [List.mem_cons, List.not_mem_nil, or_false] at hg; subst hg; exact ⟨by unfold isJ; decide, by unfold isJ; decide, by unfold isJ; decide⟩) (.inr (by intro g hg; simp only [List.mem_cons, List.not_mem_nil, or_false] at hg; subst hg; decide)) (by decide) (by decide) _ (Gr.refl _))
  refine this.mono ?_
  rintro e w' ⟨h1, ⟨h2, -⟩ | ⟨-, g, cp, rfl, hr, -⟩⟩
  · exact absurd (chainE_one exM_err) h2
  · rw [ex_knots1] at hr ⊢
    exact ⟨⟨g, cp, rfl, hr⟩, Gr.trans ((Gr.refl w).alloc _) h1⟩
set_option maxHeartbeats 4000000 in
set_option maxRecDepth 100000 in
theorem l3_awake : Ret w0 13 #[] (.bool true) := by
  have AT := Lib.hid (fun k => RetG.of4 (w0 := w0) fun w1 h => (ret_GAt (htab_gr htab h) (hmx.gr h) (herr.gr h) (s := ⟨#[48]⟩) (by decide) (x := 1000) (st := 200) (ti := 400) (exT_int k)).si (exT_at k))
  have GO := Lib.hid (RetG.of4 (w0 := w0) fun w1 h => (ret_GGo (htab_gr htab h) (hmx.gr h) (herr.gr h) (s := ⟨#[48]⟩) (by decide) (x := 1000) (st := 200) (ti := 400) (t := 300) (y := 0) (d := 100) (by unfold isJ; decide)).cast (show vGI _ = .tuple #[vGl ⟨#[50, 53, 48]⟩ 0 300 100, .int .i64 0] by rw [ex_go]; rfl))
  have VA := Lib.hid (ex_Value htab hmx herr)
  have KN := Lib.hid (ex_Knots htab hmx herr)
  have K1 := Lib.hid (ex_Knots1 htab hmx herr)
  have S3 := Lib.hid (fun (w : World) (a : Option Addr) (c : Nat) (h : RdK w a exL3) => (l3_knots (l := exL3) (cap := c) w h (by decide) : Calls Tryz.prog 34 #[.slice a 3 c] w _))
  have S2 := Lib.hid (fun (w : World) (a : Option Addr) (c : Nat) (h : RdK w a exL2) => (l3_knots (l := exL2) (cap := c) w h (by decide) : Calls Tryz.prog 34 #[.slice a 2 c] w _))
  have E3 := Lib.hid (fun (w : World) (a : Option Addr) (c : Nat) (h : RdK w a exL3) => (r3_SameKnots (la := exL3) (lb := exL3) (ca := c) (cb := 3) _ (h.gr ((Gr.refl w).alloc oKK3)) (rdK_three w (200, ⟨#[48]⟩) (300, ⟨#[50, 53, 48]⟩) (400, ⟨#[48]⟩) 62) (by decide) : Calls Tryz.prog 33 #[.slice a 3 c, .slice (some ⟨w.heap.size, 0, none⟩) 3 3] (w.alloc oKK3) _))
  have E2 := Lib.hid (fun (w : World) (a : Option Addr) (c : Nat) (h : RdK w a exL2) => (r3_SameKnots (la := exL2) (lb := exL2) (ca := c) (cb := 2) _ (h.gr ((Gr.refl w).alloc oKK2)) (rdK_two w (5, ⟨#[55]⟩) (5, ⟨#[57]⟩) 62) (by decide) : Calls Tryz.prog 33 #[.slice a 2 c, .slice (some ⟨w.heap.size, 0, none⟩) 2 2] (w.alloc oKK2) _))
  clear htab hmx herr
  intro w hg
  have HB := Lib.hid ((Box4.new w ⟨#[48]⟩ 1000 200 400 24).gr ((Gr.refl _).alloc oTB))
  have HT : Hid (TB ((w.alloc (oGl ⟨#[48]⟩ 1000 200 400)).alloc oTB) (w.heap.size + 1)) := Lib.hid (by have := TB.new (w.alloc (oGl ⟨#[48]⟩ 1000 200 400)); rwa [World.size_alloc] at this)
  have HG := Lib.hid ((hg.alloc (oGl ⟨#[48]⟩ 1000 200 400)).alloc oTB)
  clear hg
  go_enter Tryz.func13, Tryz.ntmps13
  go_wp2
  go_loopw [3, 4, 5, 23] (fun _ _ _ i wr => ∃ k : Nat, i = .int .i64 k ∧ k ≤ 6 ∧ Hid (Gr w0 wr) ∧ Hid (Box4 wr w.heap.size ⟨#[48]⟩ 1000 200 400) ∧ Hid (TB wr (w.heap.size + 1))) (fun _ _ _ i _ => 6 - (intOf i).toNat)
  case atStart => exact ⟨0, rfl, Nat.zero_le _, HG.out, HB.out, HT.out⟩
  case round =>
    clear HG HB HT
    obtain ⟨k, rfl, hk, HG, HB, HT⟩ := hrel
    obtain ⟨k0, k1, k2, k3⟩ := id HB.out
    by_cases hlt : k < 6
    · obtain ⟨c0, c1⟩ := HT.out k hlt
      have A := AT.out k
      generalize exT k = x at *
      obtain ⟨t, v⟩ := x
      simp only at c0 c1 A
      have A := Lib.hid A
      have hbl : w.heap.size + 1 < wr.heap.size := cell_lt c0
      have hbl2 : w.heap.size < wr.heap.size := by omega
      have hbeq := ba_beq (s := v) rfl
      have hx1 : (wr.alloc (.cells #[.int .i64 t, .string v] 95)).cell? ⟨wr.heap.size, 1, none⟩ = some (.string v) := by rw [World.cell?_alloc_at _ _ _ _ rfl]; rfl
      have HX1 := Lib.hid hx1
      clear hx1
      have HGA := Lib.hid ((Gr.refl wr).alloc (.cells #[.int .i64 t, .string v] 95))
      go_wp2_with fail
      refine (A.out _ (Gr.trans HG.out HGA.out)).mono ?_
      rintro e w1 ⟨rfl, hg1⟩
      have hx2 := gr_cell hg1 HX1.out
      have HGn := Lib.hid (Gr.trans HG.out (Gr.trans HGA.out hg1))
      have HBn := Lib.hid (HB.out.gr (Gr.trans HGA.out hg1))
      have HTn := Lib.hid (HT.out.gr (Gr.trans HGA.out hg1))
      clear hg1 HG HB HT HGA HX1 k0 k1 k2 k3 c0 c1
      go_wp2
      go_roundw
      case rel => exact ⟨k + 1, by go_num, by omega, HGn.out, HBn.out, HTn.out⟩
      case measure => simp [intOf]; omega
    · have hk6 : k = 6 := by omega
      subst hk6
      go_wp2_with fail
      refine (GO.out _ HG.out).mono ?_
      rintro e w1 ⟨rfl, hg1⟩
      have hb1 := HB.out.gr (Gr.trans hg1 ((Gr.refl w1).alloc (oGl ⟨#[50, 53, 48]⟩ 0 300 100)))
      have hb6 := Box4.new w1 ⟨#[50, 53, 48]⟩ 0 300 100 24
      have HG1 := Lib.hid (Gr.trans HG.out (Gr.trans hg1 ((Gr.refl w1).alloc (oGl ⟨#[50, 53, 48]⟩ 0 300 100))))
      have HB1 := Lib.hid hb1
      have HB6 := Lib.hid hb6
      clear hg1 HG HB HT k0 k1 k2 k3 hb1 hb6
      obtain ⟨k0, k1, k2, k3⟩ := id (HB1.out)
      obtain ⟨m0, m1, m2, m3⟩ := id (HB6.out)
      have hlt1 : w.heap.size < w1.heap.size + 1 := by have := cell_lt k0; simpa using this
      have V2 := VA.out _ HG1.out
      rw [World.size_alloc] at V2
      have V2 := Lib.hid V2
      go_wp2_with fail
      refine V2.out.mono ?_
      clear V2
      rintro e w2 ⟨rfl, hg2⟩
      have hb1 := HB1.out.gr hg2
      have hb6 := HB6.out.gr hg2
      have HG2 := Lib.hid (Gr.trans HG1.out hg2)
      clear hg2 HG1 HB1 HB6 k0 k1 k2 k3 m0 m1 m2 m3
      obtain ⟨k0, k1, k2, k3⟩ := hb1
      obtain ⟨m0, m1, m2, m3⟩ := hb6
      go_wp2_with fail
      refine (KN.out _ HG2.out).mono ?_
      rintro e w3 ⟨⟨g1, cp1, rfl, hr1⟩, hg3⟩
      have HR1 := Lib.hid hr1
      have HG3 := Lib.hid (Gr.trans HG2.out hg3)
      clear hr1 hg3 HG2 k0 k1 k2 k3 m0 m1 m2 m3
      go_wp2_with fail
      refine (K1.out _ HG3.out).mono ?_
      rintro e w4 ⟨⟨g2, cp2, rfl, hr2⟩, hg4⟩
      have HR2 := Lib.hid hr2
      have HR1' := Lib.hid (HR1.out.gr hg4)
      have HG4 := Lib.hid (Gr.trans HG3.out hg4)
      clear hr2 hg4 HG3 HR1
      go_wp2_with fail
      refine (S3.out _ _ _ HR1'.out).mono ?_
      rintro e w5 ⟨⟨a5, c5, rfl, hr5⟩, hg5⟩
      have HR5 := Lib.hid hr5
      have HR2' := Lib.hid (HR2.out.gr hg5)
      have HG5 := Lib.hid (Gr.trans HG4.out hg5)
      clear hr5 hg5 HG4 HR2 HR1'
      go_wp2_with fail
      refine (E3.out _ _ _ HR5.out).mono ?_
      rintro e w6 ⟨rfl, hg6⟩
      have HR2 := Lib.hid (HR2'.out.gr (Gr.trans ((Gr.refl w5).alloc oKK3) hg6))
      have HG6 := Lib.hid (Gr.trans HG5.out (Gr.trans ((Gr.refl w5).alloc oKK3) hg6))
      clear hg6 HG5 HR5 HR2'
      simp only [decide_true]
      go_wp2_with fail
      refine (S2.out _ _ _ HR2.out).mono ?_
      rintro e w7 ⟨⟨a7, c7, rfl, hr7⟩, hg7⟩
      have HR7 := Lib.hid hr7
      have HG7 := Lib.hid (Gr.trans HG6.out hg7)
      clear hr7 hg7 HG6 HR2
      go_wp2_with fail
      refine (E2.out _ _ _ HR7.out).mono ?_
      rintro e w8 ⟨rfl, hg8⟩
      have HG8 := Lib.hid (Gr.trans HG7.out (Gr.trans ((Gr.refl w7).alloc oKK2) hg8))
      clear hg8 HG7 HR7
      simp only [decide_true]
      go_wp2
      go_ret
      exact ⟨rfl, HG8.out⟩
end
end Go.Proofs.YtflkgkchoagphaaGreatDoor
