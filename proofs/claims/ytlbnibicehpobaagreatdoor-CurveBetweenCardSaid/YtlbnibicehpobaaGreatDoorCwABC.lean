/- CwABC: CwA, CwB, CwC, joined. -/
import Derived.Test.YtlbnibicehpobaaGreatDoorCvYZ
import Derived.Test.YtlbnibicehpobaaGreatDoorCvHJ
import Derived.BigRegion
import Derived.OwnWalkIn
set_option linter.unusedVariables false
set_option linter.unusedSimpArgs false

/- Curves: slices.Reverse of points, Inverse of the program. -/
namespace Go.Proofs.YtlbnibicehpobaaGreatDoor.Z
open Go
/-- the first and the last i of l are exchanged -/
def RevP (l L : Pts) (i : Nat) : Prop := L.length = l.length ∧ ∀ k (h : k < L.length) (h' : k < l.length), L[k] = if k < i ∨ l.length < k + 1 + i then l[l.length - 1 - k]'(by omega) else l[k]
theorem RevP.zero (l : Pts) : RevP l l 0 := ⟨rfl, fun k h h' => by rw [if_neg (by omega)]⟩
theorem RevP.step {l L : Pts} {i j : Nat} (h : RevP l L i) (hij : i + j + 1 = l.length) (hlt : i < j) (hi : i < L.length) (hj : j < L.length) : RevP l ((L.set i L[j]).set j L[i]) (i + 1) := by
  obtain ⟨h1, h2⟩ := h
  refine ⟨by simpa using h1, fun k hk hk' => ?_⟩
  have hkL : k < L.length := by simpa using hk
  rw [List.getElem_set, List.getElem_set]
  have ei := h2 i hi (by omega)
  have ej := h2 j hj (by omega)
  rw [if_neg (by omega)] at ei ej
  by_cases e1 : j = k
  · subst e1
    rw [if_pos rfl, ei, if_pos (by omega)]
    have : l.length - 1 - j = i := by omega
    simp only [this]
  · rw [if_neg e1]
    by_cases e2 : i = k
    · subst e2
      rw [if_pos rfl, ej, if_pos (by omega)]
      have : l.length - 1 - i = j := by omega
      simp only [this]
    · rw [if_neg e2, h2 k hkL hk']
      by_cases e3 : k < i ∨ l.length < k + 1 + i
      · rw [if_pos e3, if_pos (by omega)]
      · rw [if_neg e3, if_neg (by omega)]
theorem RevP.done {l L : Pts} {i : Nat} (h : RevP l L i) (hi : l.length ≤ 2 * i + 1) : L = l.reverse := by
  obtain ⟨h1, h2⟩ := h
  refine List.ext_getElem (by simpa using h1) fun k hk hk' => ?_
  have hk2 : k < l.length := by omega
  rw [h2 k hk hk2, List.getElem_reverse]
  by_cases e : k < i ∨ l.length < k + 1 + i
  · rw [if_pos e]
  · rw [if_neg e]
    have : l.length - 1 - k = k := by omega
    simp only [this]
end Go.Proofs.YtlbnibicehpobaaGreatDoor.Z
namespace Go.Proofs.YtlbnibicehpobaaGreatDoor
open Go.RowKit Go.Shelf
open Z
theorem OwnC.setc {B : Nat} {w0 w : World} {g n c : Nat} {l : Pts} (h : OwnC B w (.slice (some ⟨g, 0, none⟩) n c) l) (hg : Gr w0 w) (hB : w0.heap.size ≤ B) (hn : l.length = n) {j : Nat} (hj : j < l.length) (x y : Int) :
    w.cell? ⟨g, j * 2, none⟩ = some (.int .i64 l[j].1) ∧ w.cell? ⟨g, j * 2 + 1, none⟩ = some (.int .i64 l[j].2) ∧ w.frozen? ⟨g, j * 2, none⟩ = false ∧ w.frozen? ⟨g, j * 2 + 1, none⟩ = false ∧
      OwnC B ((w.setCell ⟨g, j * 2, none⟩ (.int .i64 x)).setCell ⟨g, j * 2 + 1, none⟩ (.int .i64 y)) (.slice (some ⟨g, 0, none⟩) n c) (l.set j (x, y)) ∧ Gr w0 ((w.setCell ⟨g, j * 2, none⟩ (.int .i64 x)).setCell ⟨g, j * 2 + 1, none⟩ (.int .i64 y)) := by
  unfold OwnC at h
  rw [hn] at h
  have hb : B ≤ g := (World.ownsRow.lt h g rfl).1
  have c0 := World.ownsRow.cells h (g := g) rfl (j * 2) _ (pv_get l j hj).1
  have c1 := World.ownsRow.cells h (g := g) rfl (j * 2 + 1) _ (pv_get l j hj).2
  rw [WideShapes.add_plain, Nat.zero_add] at c0 c1
  have s1 := World.ownsRow.stored h (j * 2) (.int .i64 x)
  have s2 := World.ownsRow.stored s1.1 (j * 2 + 1) (.int .i64 y)
  refine ⟨c0, c1, World.ownsRow.frozenAt h _, World.ownsRow.frozenAt h _, ?_, Below.setCell (Below.setCell hg (by show _ ≤ g; omega) _) (by show _ ≤ g; omega) _⟩
  unfold OwnC
  rw [pv_set _ _ _ _ hj, List.length_set, hn]
  exact s2.1
theorem OwnC.room {B : Nat} {w : World} {v : Value} {l : Pts} (h : OwnC B w v l) (h0 : 0 < l.length) : ∃ g cap, v = .slice (some ⟨g, 0, none⟩) l.length cap ∧ B ≤ g ∧ l.length ≤ cap ∧ cap ≤ maxLen := by
  rcases id h.2 with ⟨-, h1⟩ | ⟨g, cap, cur, h1, hb, -, h2, h3, -⟩
  · omega
  · exact ⟨g, cap, h1, hb, h2, h3⟩
set_option maxRecDepth 100000 in
set_option maxHeartbeats 4000000 in
theorem sl_ReverseP {B g n c : Nat} {l : Pts} (w0 w : World) (ho : OwnC B w (.slice (some ⟨g, 0, none⟩) n c) l) (hg : Gr w0 w) (hB : w0.heap.size ≤ B) (hn : l.length = n) (hn16 : n ≤ 16) :
    Calls Tryz.prog 49 #[.slice (some ⟨g, 0, none⟩) n c] w fun e w' => (∃ v, e = .returned v) ∧ OwnC B w' (.slice (some ⟨g, 0, none⟩) n c) l.reverse ∧ Gr w0 w' := by
  have HO := Lib.hid ho
  have HG := Lib.hid hg
  have HN := Lib.hid hn
  have HR0 := Lib.hid (RevP.zero l)
  clear ho hg hn
  have hw1 : IntKind.i64.wrap ((n : Int) - 1) = (n : Int) - 1 := IntWalk.i64_in _ (by omega)
  go_enter Tryz.func49, Tryz.ntmps49
  go_wp2
  go_loopw [2, 3] (fun p q wr => ∃ (i : Nat) (J : Int) (L : Pts), p = .int .i64 i ∧ q = .int .i64 J ∧ (i : Int) + J + 1 = n ∧ (i : Int) ≤ J + 2 ∧ Hid (RevP l L i) ∧ Hid (OwnC B wr (.slice (some ⟨g, 0, none⟩) n c) L) ∧ Hid (Gr w0 wr)) (fun p q _ => n - (intOf p).toNat)
  case atStart => exact ⟨0, (n : Int) - 1, l, rfl, rfl, by omega, by omega, HR0, HO, HG⟩
  case round =>
    obtain ⟨i, J, L, rfl, rfl, hij, hlo, HRV, HOr, HGr⟩ := hrel
    by_cases hlt : (i : Int) < J
    · obtain ⟨j, rfl⟩ : ∃ j : Nat, J = j := ⟨J.toNat, by omega⟩
      have hijn : i + j + 1 = n := by omega
      have hLn : L.length = n := HRV.out.1.trans HN.out
      have li : i < L.length := by omega
      have lj : j < L.length := by omega
      obtain ⟨c0, c1, f0, f1, o1, g1⟩ := OwnC.setc HOr.out HGr.out hB hLn li L[j].1 L[j].2
      obtain ⟨d0, d1, k0, k1, -, -⟩ := OwnC.setc HOr.out HGr.out hB hLn lj L[i].1 L[i].2
      have lj2 : j < (L.set i (L[j].1, L[j].2)).length := by simpa using lj
      obtain ⟨-, -, -, -, o2, g2⟩ := OwnC.setc o1 g1 hB (by simpa using hLn) lj2 L[i].1 L[i].2
      have HR2 : Hid (RevP l ((L.set i (L[j].1, L[j].2)).set j (L[i].1, L[i].2)) (i + 1)) := Lib.hid (HRV.out.step (by rw [HN.out]; omega) (by omega) li lj)
      have HO2 := Lib.hid o2
      have HG2 := Lib.hid g2
      generalize (L.set i (L[j].1, L[j].2)).set j (L[i].1, L[i].2) = L2 at *
      generalize L[j] = y at *
      generalize L[i] = x at *
      obtain ⟨xf, xt⟩ := x
      obtain ⟨yf, yt⟩ := y
      simp only at c0 c1 d0 d1 HO2 HG2
      have n1 : ¬ i * 2 = j * 2 := by omega
      have n2 : ¬ i * 2 + 1 = j * 2 := by omega
      have n3 : ¬ i * 2 = j * 2 + 1 := by omega
      have n4 : ¬ i * 2 + 1 = j * 2 + 1 := by omega
      have n5 : ¬ j * 2 = i * 2 := by omega
      have n6 : ¬ j * 2 + 1 = i * 2 := by omega
      have n7 : ¬ j * 2 = i * 2 + 1 := by omega
      have b1 : i < n := by omega
      have b2 : j < n := by omega
      have b3 : (i : Int) < n := by omega
      have b4 : (j : Int) < n := by omega
      clear o1 g1 o2 g2 li lj lj2 hLn HRV HOr
      go_wp2_with fail
      go_region
      have HO3 := Lib.hid (HO2.out.gr ((Gr.refl _).drew))
      have HG3 := Lib.hid (HG2.out.drew)
      clear HO2 HG2 c0 c1 d0 d1 f0 f1 k0 k1 n1 n2 n3 n4 n5 n6 n7
      go_wp2
      go_roundw
      case rel => exact ⟨i + 1, (j : Int) - 1, L2, by go_num, by go_num, by omega, by omega, HR2, HO3, HG3⟩
      case measure => (simp [intOf]; try omega)
    · go_wp2
      go_end0
      have hl : L = l.reverse := HRV.out.done (by rw [HN.out]; omega)
      exact ⟨⟨_, rfl⟩, hl ▸ HOr.out, HGr.out⟩
theorem OwnC.ptAt {B : Nat} {w : World} {a : Option Addr} {n c : Nat} {l : Pts} (h : OwnC B w (.slice a n c) l) : n = l.length ∧ PtAt w a l := by
  obtain ⟨a', cap, e, hp⟩ := h.shape
  injection e with e1 e2 e3
  subst e1; subst e2; subst e3
  exact ⟨rfl, hp⟩
set_option maxRecDepth 100000 in
set_option maxHeartbeats 4000000 in
theorem cv_Inverse (a : Option Addr) (R : Pts) (cap : Nat) (w : World) (hR : PtAt w a R) (hJ : ∀ p ∈ R, isJ p.1 ∧ isJ p.2) (hlc : R.length ≤ cap) (hcm : cap ≤ maxLen) (hlen : R.length ≤ 10000000000000) :
    Calls Tryz.prog 25 #[.slice a R.length cap] w fun e w' => ∃ v, e = .returned (.tuple #[v, .int .i64 (invC R).2]) ∧ OwnC w.heap.size w' v (invC R).1 ∧ Gr w w' := by
  have C := Lib.hid (cv_Slope a R cap w hR hJ hlc hcm hlen)
  by_cases h : cvC R = 0
  · have hcv := (cvC_iff R).1 h
    have h2 := hcv.two
    have h16 := hcv.most
    rw [invC_turn hcv]
    have hsl : slopeC R = (steepC R, 0) := by unfold slopeC; rw [if_neg (by simp [h])]
    rw [hsl] at C
    have D := Lib.hid (fun w' (hg : Gr w w') => cv_change_inv a R cap w' (hR.gr hg) (by omega) h16)
    have hT : turnP R = if steepC R < 0 then (swapP R).reverse else swapP R := by unfold turnP; rw [swap_rev]
    have hlvT : ∀ p ∈ turnP R, isJ p.1 ∧ isJ p.2 := fun p hp => by
      have hlv : lvP p := by
        rw [hT] at hp
        split at hp
        · exact swap_lv hcv.lv p (List.mem_reverse.1 hp)
        · exact swap_lv hcv.lv p hp
      obtain ⟨⟨a0, a1⟩, a2, a3⟩ := hlv
      exact ⟨⟨by omega, by omega⟩, by omega, by omega⟩
    have hlT : (turnP R).length = R.length := by rw [hT]; split <;> simp [swapP]
    have HCK := Lib.hid (fun (b c : Nat) (w' : World) (hp : PtAt w' (some ⟨b, 0, none⟩) (turnP R)) => by
      have := cv_Check (some ⟨b, 0, none⟩) (turnP R) c w' hp hlvT (by omega)
      rwa [hlT] at this)
    have e : (R.map fun p => (p.2, p.1)) = swapP R := rfl
    rw [e] at D
    have HTT := Lib.hid hT
    have HLT : Hid ((swapP R).length = R.length) := Lib.hid (by simp [swapP])
    have hS := steepC_is R
    generalize turnP R = T at *
    generalize swapP R = Sw at *
    generalize steepC R = S at *
    generalize R.length = n at *
    generalize cvC T = K at *
    obtain ⟨A, hA⟩ : ∃ A : Pts × Int, (if K = 0 then (T, 0) else ([], 16)) = A := ⟨_, rfl⟩
    rw [hA]
    obtain ⟨A1, A2⟩ := A
    have HA := Lib.hid hA
    simp only []
    clear hR hJ h hcv hsl hlvT e hT hlT hA
    go_enter Tryz.func25, Tryz.ntmps25
    go_wp2_with fail
    refine C.out.mono ?_; rintro e w1 ⟨rfl, hg⟩
    have HG1 := Lib.hid hg
    clear hg C
    go_wp2_with fail
    refine (D.out _ HG1.out).mono ?_; rintro e w2 ⟨v, rfl, ho, hg⟩
    have HG2 := Lib.hid (Gr.trans HG1.out hg)
    obtain ⟨g, cp, rfl, hgb, -, -⟩ := ho.room (by rw [HLT.out]; omega)
    rw [HLT.out] at ho ⊢
    have HO := Lib.hid (OwnC.low ho HG1.out.size)
    clear hg ho D
    by_cases hS0 : S < 0
    · have hTe : T = Sw.reverse := by rw [HTT.out, if_pos hS0]
      have CR := Lib.hid (sl_ReverseP (B := w.heap.size) w w2 HO.out HG2.out (Nat.le_refl _) HLT.out h16)
      go_wp2_with fail
      refine CR.out.mono ?_; rintro e w3 ⟨⟨v3, rfl⟩, ho3, hg3⟩
      rw [← hTe] at ho3
      have HO3 := Lib.hid ho3
      have HG3 := Lib.hid hg3
      have CK := Lib.hid (HCK.out g cp w3 ho3.ptAt.2)
      clear ho3 hg3 CR HCK hTe HTT HLT HO
      by_cases hK : K = 0
      · rw [hK] at CK
        have ha := HA.out
        rw [if_pos hK, Prod.mk.injEq] at ha
        obtain ⟨rfl, rfl⟩ := ha
        clear hK HA
        go_wp2_with fail
        refine CK.out.mono ?_; rintro e w4 ⟨rfl, hg4⟩
        have HO4 := Lib.hid (HO3.out.gr hg4)
        have HG4 := Lib.hid (Gr.trans HG3.out hg4)
        clear hg4 CK
        go_wp2
        go_ret2
        exact ⟨_, rfl, HO4.out, HG4.out⟩
      · have ha := HA.out
        rw [if_neg hK, Prod.mk.injEq] at ha
        obtain ⟨rfl, rfl⟩ := ha
        clear HA
        have hk : (K == 0) = false := by rw [beq_eq_false_iff_ne]; exact hK
        go_wp2_with fail
        refine CK.out.mono ?_; rintro e w4 ⟨rfl, hg4⟩
        have HG4 := Lib.hid (Gr.trans HG3.out hg4)
        clear hg4 CK
        go_wp2
        go_ret2
        exact ⟨_, rfl, OwnC.nil _ _, HG4.out⟩
    · have hTe : T = Sw := by rw [HTT.out, if_neg hS0]
      have hS1 : ¬ S < 0 := hS0
      have HO3 : Hid (OwnC w.heap.size w2 (.slice (some ⟨g, 0, none⟩) n cp) T) := Lib.hid (hTe ▸ HO.out)
      have HG3 := HG2
      have CK := Lib.hid (HCK.out g cp w2 HO3.out.ptAt.2)
      clear HCK hTe HTT HLT HO
      by_cases hK : K = 0
      · rw [hK] at CK
        have ha := HA.out
        rw [if_pos hK, Prod.mk.injEq] at ha
        obtain ⟨rfl, rfl⟩ := ha
        clear hK HA
        go_wp2_with fail
        refine CK.out.mono ?_; rintro e w4 ⟨rfl, hg4⟩
        have HO4 := Lib.hid (HO3.out.gr hg4)
        have HG4 := Lib.hid (Gr.trans HG3.out hg4)
        clear hg4 CK
        go_wp2
        go_ret2
        exact ⟨_, rfl, HO4.out, HG4.out⟩
      · have ha := HA.out
        rw [if_neg hK, Prod.mk.injEq] at ha
        obtain ⟨rfl, rfl⟩ := ha
        clear HA
        have hk : (K == 0) = false := by rw [beq_eq_false_iff_ne]; exact hK
        go_wp2_with fail
        refine CK.out.mono ?_; rintro e w4 ⟨rfl, hg4⟩
        have HG4 := Lib.hid (Gr.trans HG3.out hg4)
        clear hg4 CK
        go_wp2
        go_ret2
        exact ⟨_, rfl, OwnC.nil _ _, HG4.out⟩
  · have hsl : slopeC R = (0, cvC R) := by unfold slopeC; rw [if_pos h]
    unfold invC
    rw [if_pos h]
    rw [hsl] at C
    generalize cvC R = K at *
    generalize R.length = n at *
    have hk : (K == 0) = false := by rw [beq_eq_false_iff_ne]; exact h
    clear hR hJ hsl
    go_enter Tryz.func25, Tryz.ntmps25
    go_wp2_with fail
    refine C.out.mono ?_; rintro e w1 ⟨rfl, hg⟩
    have HG1 := Lib.hid hg
    clear hg
    go_wp2
    go_ret2
    exact ⟨_, rfl, OwnC.nil _ _, HG1.out⟩
end Go.Proofs.YtlbnibicehpobaaGreatDoor

/- Curves: Tidy of the program. -/
namespace Go.Proofs.YtlbnibicehpobaaGreatDoor.Z
open Go
theorem tidyJ_pos {l : Pts} (h : 0 < l.length) : ∀ k, 0 < k → 0 < (tidyJ l k).length
  | 0, h0 => absurd h0 (by omega)
  | 1, _ => by rw [tidyJ_keep h (keepAt_first l)]; simp
  | k + 2, _ => by
    have ih := tidyJ_pos h (k + 1) (by omega)
    rw [tidyJ]
    split
    · rw [List.length_append]; omega
    · exact ih
end Go.Proofs.YtlbnibicehpobaaGreatDoor.Z
namespace Go.Proofs.YtlbnibicehpobaaGreatDoor
open Go.RowKit Go.Shelf
open Z
attribute [local go_sem] Oper.semAt_some
theorem OwnC.keptR {B : Nat} {w w' : World} {v : Value} {l : Pts} {row : Option Nat} (h : OwnC B w v l) (hg : w.grownBy w' row) (hr : ∀ r, row = some r → ∃ o : Obj, w.heap[r]? = some o ∧ o.isCells = false) : OwnC B w' v l := by
  refine World.ownsRow.kept h hg ?_
  rcases id h.2 with ⟨h1, -⟩ | ⟨g, cap, cur, h1, -, hc, -⟩
  · left; rw [h1]; rfl
  · right
    rw [h1]
    intro e
    obtain ⟨o, ho, hoc⟩ := hr g e.symm
    rw [hc] at ho
    cases ho
    simp [Obj.isCells] at hoc
theorem OwnC.keptN {B : Nat} {w w' : World} {v : Value} {l : Pts} (h : OwnC B w v l) (p : Nat) (hp : p < B) (hb : w'.os = w.os ∧ w'.tape = w.tape ∧ w'.output = w.output ∧ w.heap.size ≤ w'.heap.size ∧ ∀ k, k < w.heap.size → k ≠ p → w'.heap[k]? = w.heap[k]?) : OwnC B w' v l := by
  refine World.ownsRow.kept (row := some p) h ⟨hb.1, hb.2.1, hb.2.2.1, hb.2.2.2.1, fun i hi hne => hb.2.2.2.2 i hi (fun e => hne (by rw [e]))⟩ ?_
  rcases id h.2 with ⟨h1, -⟩ | ⟨g, cap, cur, h1, hBg, -⟩
  · left; rw [h1]; rfl
  · right
    rw [h1]
    intro e
    have : g = p := Option.some.inj e
    omega
/-- what holds within a round of Tidy -/
structure Rn (w W4 W Wc : World) (P G : Nat) (v : Value) (xs : Pts) (la lb lc ld a b c d : Int) : Prop where
  gr : Gr w Wc
  cv : Wc.cell? ⟨P, 0, none⟩ = some v
  fv : Wc.frozen? ⟨P, 0, none⟩ = false
  sf : SF Wc (P + 1) la lb lc ld
  own : OwnC W4.heap.size Wc v xs
  sb : SB Wc G a b c d
  kb : KeepB (fun k => k < w.heap.size ∨ k = P + 1 + 1) W Wc
  kf : KeepsFrom W4.heap.size W Wc
theorem Rn.up {w W4 W Wc Wd : World} {P G : Nat} {v : Value} {xs : Pts} {la lb lc ld a b c d : Int} (h : Rn w W4 W Wc P G v xs la lb lc ld a b c d) (hg : Gr Wc Wd) (hs : P + 1 + 1 < Wc.heap.size) : Rn w W4 W Wd P G v xs la lb lc ld a b c d :=
  ⟨Gr.trans h.gr hg, cv_cell hg h.cv, (Below.frozen hg (p := ⟨P, 0, none⟩) (cell_lt h.cv)).trans h.fv, h.sf.gr hg, h.own.gr hg, h.sb.gr hg, h.kb.trans (KeepB.gr (S := fun k => k < w.heap.size ∨ k = P + 1 + 1) hg (fun k hk => by have h1 := h.gr.size; rcases hk with hk | hk <;> omega)), h.kf.trans (Gr.keeps hg _)⟩
theorem Rn.push {w W4 W Wc w5 : World} {P G : Nat} {v v' : Value} {xs ys : Pts} {la lb lc ld a b c d : Int} (h : Rn w W4 W Wc P G v xs la lb lc ld a b c d) (hs : W4.heap.size = P + 3) (hw : w.heap.size ≤ P) (hng : v.ownBlock ≠ some G) (hG : P + 3 ≤ G)
    (hown : OwnC W4.heap.size w5 v' ys) (hgrow : Wc.grownBy w5 v.ownBlock) : Rn w W4 W (w5.setCell ⟨P, 0, none⟩ v') P G v' ys la lb lc ld a b c d ∧ w5.cell? ⟨P, 0, none⟩ = some v ∧ w5.frozen? ⟨P, 0, none⟩ = false := by
  have hge : ∀ r, v.ownBlock = some r → P + 3 ≤ r := fun r e => by
    have := (World.ownsRow.lt h.own r e).1
    omega
  have hcells : ∀ r, v.ownBlock = some r → ∃ cur, Wc.heap[r]? = some (.cells cur 52 (0, 0)) := fun r e => by
    rcases id h.own.2 with ⟨h1, -⟩ | ⟨g, cap, cur, h1, -, hc, -⟩
    · rw [h1] at e; cases e
    · rw [h1] at e
      have : g = r := Option.some.inj e
      subst this
      exact ⟨cur, hc⟩
  have same : ∀ i, i < Wc.heap.size → i < P + 3 ∨ i = G → w5.heap[i]? = Wc.heap[i]? := fun i hi hh => hgrow.block i hi (fun e => by
    rcases hh with hh | hh
    · have := hge i e.symm; omega
    · subst hh; exact hng e.symm)
  have hP := same P (cell_lt h.cv) (by omega)
  have c5 := (World.cell?_of_block hP).trans h.cv
  have f5 := (World.frozen?_of_block hP).trans h.fv
  have hlG : G < Wc.heap.size := cell_lt h.sb.c0
  have hlQ : P + 1 < Wc.heap.size := cell_lt h.sf.c0
  have other : ∀ i, i ≠ P → (w5.setCell ⟨P, 0, none⟩ v').heap[i]? = w5.heap[i]? := fun i hi => Below.heap_setCell _ _ _ _ hi
  have bl : ∀ i, i < Wc.heap.size → (i < P + 3 ∨ i = G) → i ≠ P → (w5.setCell ⟨P, 0, none⟩ v').heap[i]? = Wc.heap[i]? := fun i hi hh hne => (other i hne).trans (same i hi hh)
  have hQ := bl (P + 1) hlQ (by omega) (by omega)
  have hGb := bl G hlG (.inr rfl) (by omega)
  refine ⟨⟨?_, World.cell?_setCell_same _ _ _ c5, by rw [World.frozen?_setCell]; exact f5, ?_, ?_, ?_, ?_, ?_⟩, c5, f5⟩
  · exact Below.setCell (Below.grown h.gr hgrow h.gr.size (fun r e => by have := hge r e; omega)) hw _
  · exact ⟨(World.cell?_of_block hQ).trans h.sf.c0, (World.cell?_of_block hQ).trans h.sf.c1, (World.cell?_of_block hQ).trans h.sf.c2, (World.cell?_of_block hQ).trans h.sf.c3, (World.frozen?_of_block hQ).trans h.sf.f0, (World.frozen?_of_block hQ).trans h.sf.f1, (World.frozen?_of_block hQ).trans h.sf.f2, (World.frozen?_of_block hQ).trans h.sf.f3⟩
  · exact hown.keptN P (by omega) ⟨rfl, rfl, rfl, by rw [tv_size]; exact Nat.le_refl _, fun k _ hk => other k hk⟩
  · exact ⟨(World.cell?_of_block hGb).trans h.sb.c0, (World.cell?_of_block hGb).trans h.sb.c1, (World.cell?_of_block hGb).trans h.sb.c2, (World.cell?_of_block hGb).trans h.sb.c3⟩
  · refine h.kb.trans fun k hk => ?_
    have hk3 : k < P + 3 := by omega
    have hkP : k ≠ P := by omega
    rcases Nat.lt_or_ge k Wc.heap.size with hl | hl
    · exact bl k hl (.inl hk3) hkP
    · rw [Array.getElem?_eq_none hl]
      have := h.gr.size
      exfalso
      omega
  · refine h.kf.trans (KeepsFrom.trans ?_ ((KeepsOthers.setCell w5 ⟨P, 0, none⟩ v').from _))
    refine ⟨hgrow.size, fun i o hB hi hoc => (hgrow.block i (Array.getElem?_eq_some_iff.1 hi).1 (fun e => ?_)).trans hi⟩
    obtain ⟨cur, hcur⟩ := hcells i e.symm
    rw [hcur] at hi
    cases hi
    simp [Obj.isCells] at hoc
theorem Rn.last {w W4 W Wc : World} {P G : Nat} {v : Value} {xs : Pts} {la lb lc ld a b c d : Int} (h : Rn w W4 W Wc P G v xs la lb lc ld a b c d) (hs : W4.heap.size = P + 3) (hw : w.heap.size ≤ P) :
    Gr w (sfW Wc (P + 1) a b c d) ∧ (sfW Wc (P + 1) a b c d).cell? ⟨P, 0, none⟩ = some v ∧ (sfW Wc (P + 1) a b c d).frozen? ⟨P, 0, none⟩ = false ∧ SF (sfW Wc (P + 1) a b c d) (P + 1) a b c d ∧ OwnC W4.heap.size (sfW Wc (P + 1) a b c d) v xs ∧ KeepB (fun k => k < w.heap.size ∨ k = P + 1 + 1) W (sfW Wc (P + 1) a b c d) ∧ KeepsFrom W4.heap.size W (sfW Wc (P + 1) a b c d) := by
  obtain ⟨f1, g1⟩ := h.sf.store a b c d h.gr (by omega)
  have other : ∀ i, i ≠ P + 1 → (sfW Wc (P + 1) a b c d).heap[i]? = Wc.heap[i]? := fun i hi => by
    unfold sfW
    rw [Below.heap_setCell _ _ _ _ hi, Below.heap_setCell _ _ _ _ hi, Below.heap_setCell _ _ _ _ hi, Below.heap_setCell _ _ _ _ hi]
  have hsz : (sfW Wc (P + 1) a b c d).heap.size = Wc.heap.size := by unfold sfW; rw [tv_size, tv_size, tv_size, tv_size]
  have hos : (sfW Wc (P + 1) a b c d).os = Wc.os ∧ (sfW Wc (P + 1) a b c d).tape = Wc.tape ∧ (sfW Wc (P + 1) a b c d).output = Wc.output := ⟨rfl, rfl, rfl⟩
  generalize sfW Wc (P + 1) a b c d = X at *
  have hP := other P (by omega)
  have hkb : KeepB (fun k => k < w.heap.size ∨ k = P + 1 + 1) Wc X := fun k hk => other k (by rcases hk with hk | hk <;> omega)
  have hkf : KeepsFrom W4.heap.size Wc X := ⟨by rw [hsz]; exact Nat.le_refl _, fun i o hB hi _ => (other i (by omega)).trans hi⟩
  exact ⟨g1, (World.cell?_of_block hP).trans h.cv, (World.frozen?_of_block hP).trans h.fv, f1, h.own.keptN (P + 1) (by omega) ⟨hos.1, hos.2.1, hos.2.2, by rw [hsz]; exact Nat.le_refl _, fun k _ hk => other k hk⟩, h.kb.trans hkb, h.kf.trans hkf⟩
theorem pushIn_c {F : Fence} {nf : Nat} {i : TypeInfo} (hi : Tryz.prog.info? 52 = some i) (hz0 : i.zero = some (.agg #[.int .i64 0, .int .i64 0])) (hz1 : i.size = 2) (hz2 : i.bytes = 16)
    {ops : Array Oper} {rest : List Oper} {o : Oper} {a : Act} {Q : Exit → Act → World → Prop} {w : World} (hgd : o.guard = none) (s x : Operand)
    (ho : o.op = .call { callee := .builtin .append, args := #[s, x], argTypes := #[22, 22] }) (B : Nat) (v : Value) (xs : Pts) (hs : a.eval s = v) (hown : OwnC B w v xs) (hB : B ≤ w.heap.size)
    (f t : Int) (N : Nat) (hN : N = w.heap.size) (hx : a.eval x = .slice (some ⟨N, 0, none⟩) 1 1) (hlen : xs.length + 1 ≤ 1000000)
    (h : ∀ v' w', Hid (OwnC B w' v' (xs ++ [(f, t)])) → Hid ((w.alloc (.cells #[.int .i64 f, .int .i64 t] 52)).grownBy w' v.ownBlock) → wpListIn F nf Tryz.prog ops Q rest (a.put o.dst v') w') :
    wpListIn F nf Tryz.prog ops Q (o :: rest) a (w.alloc (.cells #[.int .i64 f, .int .i64 t] 52)) := by
  subst hN
  refine wpListIn_append_own _ hgd s x _ ho B 52 i (.agg #[.int .i64 0, .int .i64 0]) 2 16 Tryz.underlying22 hi hz0 hz1 hz2 rfl (by decide) v xs.length (pv xs) hs (World.ownsRow.alloc hown _) ⟨w.heap.size, 0, none⟩ 1 1 [.int .i64 f, .int .i64 t] hx rfl
    (fun j u hj => ?_) pt_one (by unfold maxLen; omega) (by omega) (by simp; omega) (fun v' w' hown' hgrow _ => h v' w' ?_ hgrow)
  · rw [WideShapes.add_plain]
    match j, hj with
    | 0, hj => simp only [List.getElem?_cons_zero, Option.some.injEq] at hj; subst hj; rw [World.cell?_alloc_at _ _ _ _ rfl]; rfl
    | 1, hj => simp only [List.getElem?_cons_succ, List.getElem?_cons_zero, Option.some.injEq] at hj; subst hj; rw [World.cell?_alloc_at _ _ _ _ rfl]; rfl
    | j + 2, hj => simp at hj
  · show World.ownsRow _ _ _ _ _ _ _
    rw [pv_snoc, List.length_append]; exact hown'
end Go.Proofs.YtlbnibicehpobaaGreatDoor

/- Curves: Tidy of the program, walked. -/
namespace Go.Proofs.YtlbnibicehpobaaGreatDoor
open Go.RowKit Go.Shelf
open Z
attribute [local go_sem] Oper.semAt_some
/-- what holds between the rounds of Tidy -/
def TyI (w W4 : World) (P : Nat) (R : Pts) (k : Nat) (W : World) : Prop :=
  Gr w W ∧ ∃ v, W.cell? ⟨P, 0, none⟩ = some v ∧ W.frozen? ⟨P, 0, none⟩ = false ∧ OwnC W4.heap.size W v (tidyJ R k) ∧ ∃ la lb lc ld, SF W (P + 1) la lb lc ld ∧ ∀ h : k < R.length, 0 < k → (R[k - 1]'(by omega)) = (la, lb) ∧ R[k] = (lc, ld)
theorem TyI.kept {w W4 A B : World} {P k : Nat} {R : Pts} {row : Option Nat} (h : TyI w W4 P R k A) (hw : w.heap.size ≤ W4.heap.size) (hg : A.grownBy B row) (hr : ∀ r, row = some r → W4.heap.size ≤ r ∧ ∃ o : Obj, A.heap[r]? = some o ∧ o.isCells = false) : TyI w W4 P R k B := by
  obtain ⟨h1, v, h2, h3, h4, la, lb, lc, ld, h5, h6⟩ := h
  have hr2 : ∀ r, row = some r → ∃ o : Obj, A.heap[r]? = some o ∧ o.isCells = false := fun r e => (hr r e).2
  exact ⟨Below.grown h1 hg h1.size (fun k e => by have := (hr k e).1; omega), v, cell_kept h2 hg hr2, (frozen_kept h2 hg hr2).trans h3, h4.keptR hg hr2, la, lb, lc, ld, ⟨cell_kept h5.c0 hg hr2, cell_kept h5.c1 hg hr2, cell_kept h5.c2 hg hr2, cell_kept h5.c3 hg hr2, (frozen_kept h5.c0 hg hr2).trans h5.f0, (frozen_kept h5.c1 hg hr2).trans h5.f1, (frozen_kept h5.c2 hg hr2).trans h5.f2, (frozen_kept h5.c3 hg hr2).trans h5.f3⟩, h6⟩
set_option maxHeartbeats 4000000 in
set_option maxRecDepth 100000 in
theorem cv_Tidy (a : Option Addr) (R : Pts) (cap : Nat) (w : World) (hR : PtAt w a R) (hJ : ∀ p ∈ R, isJ p.1 ∧ isJ p.2) (hlc : R.length ≤ cap) (hcm : cap ≤ maxLen) (hlen : R.length ≤ 10000000000000) :
    Calls Tryz.prog 29 #[.slice a R.length cap] w fun e w' => ∃ v, e = .returned (.tuple #[v, .int .i64 (tidyC R).2]) ∧ OwnC w.heap.size w' v (tidyC R).1 ∧ Gr w w' := by
  have C := Lib.hid (cv_Check a R cap w hR hJ hlen)
  unfold tidyC
  by_cases h : cvC R = 0
  · rw [if_neg (by simp [h])]
    rw [h] at C
    obtain ⟨i0, hi, hz0, hz1, hz2⟩ := info_parts Tryz.infoPt
    have hcv := (cvC_iff R).1 h
    obtain ⟨b, off, rfl, -⟩ := hR.block (by have := hcv.two; omega)
    obtain ⟨n, hn⟩ : ∃ n, R.length = n + 2 := ⟨R.length - 2, by have := hcv.two; omega⟩
    have hn14 : n ≤ 14 := by have := hcv.most; omega
    have HCV := Lib.hid hcv
    have HR := Lib.hid hR
    have HN := Lib.hid hn
    have HALL : Hid (∀ h : n + 1 < R.length, tidyP R = tidyJ R (n + 1) ++ [R[n + 1]]) := Lib.hid fun h => by
      rw [← tidyJ_all (by omega), hn]
      exact tidyJ_keep h (keepAt_last (by omega))
    have hbw : b < w.heap.size := cell_lt (pts_set hR 0 (by omega)).1
    obtain ⟨TT, hTT⟩ : ∃ TT, tidyP R = TT := ⟨_, rfl⟩
    rw [hTT] at HALL ⊢
    rw [hn] at C hlc hlen ⊢
    clear hR hJ h hcv hn hTT
    have hkn : (((n + 2 : Nat)) : Int) = (n : Int) + 2 := by omega
    refine (callsIn_wide (n := 3)).1 ?_
    refine callsIn_of_wp_marks Tryz.func29 rfl trivial ?_ rfl
    simp only [Tryz.ntmps29, List.size_toArray, List.length_cons, List.length_nil, Nat.reduceAdd, Nat.reduceSub, Array.replicate_succ, Array.replicate_zero, List.push_toArray, List.append_toArray, List.nil_append, List.cons_append]
    gi_wp2_with (first
      | (refine ⟨trivial, ?_⟩; gi_at_call 15; refine (callsIn_wide.2 C.out).mono ?_; rintro e w1 ⟨rfl, hg1⟩)
      | (refine ⟨trivial, ?_⟩; gi_at_call 44; refine (callsIn_wide.2 (cv_segments _ _ _ _)).mono ?_; rintro e w2 ⟨rfl, rfl⟩))
    have hP : Hid ((((w1.alloc (.cells #[.slice none 0 0] 22)).alloc (oSg 0 0 0 0)).alloc (.cells #[.slice (some ⟨b, off, none⟩) (n + 2) cap] 22)).cell? ⟨w1.heap.size, 0, none⟩ = some (.slice none 0 0) ∧ (((w1.alloc (.cells #[.slice none 0 0] 22)).alloc (oSg 0 0 0 0)).alloc (.cells #[.slice (some ⟨b, off, none⟩) (n + 2) cap] 22)).frozen? ⟨w1.heap.size, 0, none⟩ = false ∧ SF (((w1.alloc (.cells #[.slice none 0 0] 22)).alloc (oSg 0 0 0 0)).alloc (.cells #[.slice (some ⟨b, off, none⟩) (n + 2) cap] 22)) (w1.heap.size + 1) 0 0 0 0 ∧ (((w1.alloc (.cells #[.slice none 0 0] 22)).alloc (oSg 0 0 0 0)).alloc (.cells #[.slice (some ⟨b, off, none⟩) (n + 2) cap] 22)).cell? ⟨w1.heap.size + 1 + 1, 0, none⟩ = some (.slice (some ⟨b, off, none⟩) (n + 2) cap)) := Lib.hid (by
      have hg : Gr (w1.alloc (.cells #[.slice none 0 0] 22)) (((w1.alloc (.cells #[.slice none 0 0] 22)).alloc (oSg 0 0 0 0)).alloc (.cells #[.slice (some ⟨b, off, none⟩) (n + 2) cap] 22)) := ((Gr.refl _).alloc _).alloc _
      have c1 : (w1.alloc (.cells #[.slice none 0 0] 22)).cell? ⟨w1.heap.size, 0, none⟩ = some (.slice none 0 0) := by rw [World.cell?_alloc_at _ _ _ _ rfl]; rfl
      have e2 := (SF.new (w1.alloc (.cells #[.slice none 0 0] 22)) 0 0 0 0 64).gr ((Gr.refl _).alloc (.cells #[.slice (some ⟨b, off, none⟩) (n + 2) cap] 22))
      rw [World.size_alloc] at e2
      exact ⟨cv_cell hg c1, (Below.frozen hg (p := ⟨w1.heap.size, 0, none⟩) (cell_lt c1)).trans (World.frozen?_alloc_at _ _ _ _ rfl), e2, by rw [World.cell?_alloc_at _ _ _ _ (by simp)]; rfl⟩)
    have hg4 : Gr w (((w1.alloc (.cells #[.slice none 0 0] 22)).alloc (oSg 0 0 0 0)).alloc (.cells #[.slice (some ⟨b, off, none⟩) (n + 2) cap] 22)) := Gr.trans hg1 ((((Gr.refl _).alloc _).alloc _).alloc _)
    have hs4 : (((w1.alloc (.cells #[.slice none 0 0] 22)).alloc (oSg 0 0 0 0)).alloc (.cells #[.slice (some ⟨b, off, none⟩) (n + 2) cap] 22)).heap.size = w1.heap.size + 3 := by simp
    have hwP := hg1.size
    generalize hW4 : (((w1.alloc (.cells #[.slice none 0 0] 22)).alloc (oSg 0 0 0 0)).alloc (.cells #[.slice (some ⟨b, off, none⟩) (n + 2) cap] 22)) = W4 at *
    generalize w1.heap.size = P at *
    have HG4 := Lib.hid hg4
    have hcb := hP.out.2.2.2
    rw [← HN.out] at hcb
    have hI0 : TyI w W4 P R 0 W4 := ⟨HG4.out, _, hP.out.1, hP.out.2.1, OwnC.nil _ _, 0, 0, 0, 0, hP.out.2.2.1, fun _ h => absurd h (by omega)⟩
    clear hg1 hW4 hg4 C hP
    have hww4 : w.heap.size ≤ W4.heap.size := by omega
    refine wp_roundsA (gf := 75) (lb := #[.pointer (some ⟨P + 1 + 1, 0, none⟩)]) rfl (enters_of Tryz.func75 (by kernel_rfl) rfl) (S := fun k => k < w.heap.size ∨ k = P + 1 + 1) (fun k hk => by omega)
      (seg_rounds R b off cap n (P + 1 + 1) _ W4 HN.out (HR.out.gr HG4.out) (by rw [HN.out]; exact hlc) hn14 (.inr rfl) (.inl hbw) (fun k hk => by omega) hcb hcm) (segA_size R)
      (TyI w W4 P R)
      (fun _ _ => False)
      (fun s A B row hs hg hr => hs.kept hww4 hg hr)
      (fun c s A B row hs hg hr => hs.elim)
      hI0
      (fun k a1 W => ∃ (hk : k + 1 < R.length) (G : Nat), a1 = { tmps := #[.slice (some ⟨b, off, none⟩) (n + 2) cap, undef, .slice none 0 0, .int .i64 0, .int .i64 0, .pointer (some ⟨P, 0, none⟩), .pointer (some ⟨P + 1, 0, none⟩), .pointer (some ⟨G, 0, none⟩), .slice (some ⟨b, off, none⟩) (n + 2) cap, .int .i64 0, .int .i64 0, .bool false, undef, .slice (some ⟨b, off, none⟩) (n + 2) cap, .func (.func 75) #[] #[.pointer (some ⟨P + 1 + 1, 0, none⟩)], vSg (R[k]'(by omega)).1 (R[k]'(by omega)).2 R[k + 1].1 R[k + 1].2, undef, undef, undef, undef, undef, undef, undef, undef, undef, undef, undef, undef, undef, undef, undef, undef, undef, undef, undef, undef], defers := [] } ∧
        W4.heap.size ≤ G ∧ SB W G (R[k]'(by omega)).1 (R[k]'(by omega)).2 R[k + 1].1 R[k + 1].2 ∧ TyI w W4 P R k W ∧ ∀ v, W.cell? ⟨P, 0, none⟩ = some v → v.ownBlock ≠ some G)
      (fun s A B row hs hg hr => by
        obtain ⟨hk, G, e, hG, hb, h1, h2⟩ := hs
        refine ⟨hk, G, e, hG, ⟨cell_kept hb.c0 hg (fun r e => (hr r e).2), cell_kept hb.c1 hg (fun r e => (hr r e).2), cell_kept hb.c2 hg (fun r e => (hr r e).2), cell_kept hb.c3 hg (fun r e => (hr r e).2)⟩, h1.kept hww4 hg hr, fun v hv => ?_⟩
        obtain ⟨-, v0, hv0, -⟩ := id h1
        have := cell_kept hv0 hg (fun r e => (hr r e).2)
        rw [hv] at this
        cases this
        exact h2 v hv0)
      ?assign ?body ?done ?stop
    case assign =>
      rintro y k W hW hk hty
      have hk1 : k + 1 < R.length := by rw [HN.out]; omega
      rw [segA_at hk1]
      have HB := Lib.hid (SB.new W (R[k]'(by omega)).1 (R[k]'(by omega)).2 R[k + 1].1 R[k + 1].2)
      have HTY := Lib.hid (hty.kept hww4 (World.grownBy_alloc W (oSg (R[k]'(by omega)).1 (R[k]'(by omega)).2 R[k + 1].1 R[k + 1].2) none) (fun r e => by cases e))
      have HNE : Hid (∀ v, (W.alloc (oSg (R[k]'(by omega)).1 (R[k]'(by omega)).2 R[k + 1].1 R[k + 1].2)).cell? ⟨P, 0, none⟩ = some v → v.ownBlock ≠ some W.heap.size) := Lib.hid fun v hv e => by
        obtain ⟨-, v0, hv0, -, ho, -⟩ := id hty
        have := cv_cell ((Gr.refl W).alloc (oSg (R[k]'(by omega)).1 (R[k]'(by omega)).2 R[k + 1].1 R[k + 1].2)) hv0
        rw [hv] at this
        cases this
        have := (World.ownsRow.lt ho _ e).2
        omega
      have HWS := Lib.hid hW
      clear hty
      gi_wp2
      refine ⟨?_, (Gr.refl W).alloc _⟩
      first
        | exact ⟨hk1, W.heap.size, rfl, HWS.out, HB.out, HTY.out, HNE.out⟩
        | exact ⟨by omega, HB.out, HTY.out, HNE.out⟩
    case body =>
      rintro y k a1 W _ ⟨hk, G, rfl, hG4, hb, hty, hne⟩
      obtain ⟨h1, v, h2, h3, h4, la, lb, lc, ld, h5, h6⟩ := hty
      have hng := hne v h2
      have hxl : (tidyJ R k).length ≤ 15 := by have := tidyJ_len R k; have := HN.out; omega
      have hl0 := HCV.out.lv _ (List.getElem_mem (show k < R.length by omega))
      have hl1 := HCV.out.lv _ (List.getElem_mem hk)
      have RN0 : Rn w W4 W W P G v (tidyJ R k) la lb lc ld (R[k]'(by omega)).1 (R[k]'(by omega)).2 R[k + 1].1 R[k + 1].2 := ⟨h1, h2, h3, h5, h4, hb, KeepB.refl _ _, KeepsFrom.refl _ _⟩
      have END : Hid (∀ Wc v', Rn w W4 W Wc P G v' (tidyJ R (k + 1)) la lb lc ld (R[k]'(by omega)).1 (R[k]'(by omega)).2 R[k + 1].1 R[k + 1].2 → KeepsFrom W4.heap.size W (sfW Wc (P + 1) (R[k]'(by omega)).1 (R[k]'(by omega)).2 R[k + 1].1 R[k + 1].2) ∧ KeepB (fun k => k < w.heap.size ∨ k = P + 1 + 1) W (sfW Wc (P + 1) (R[k]'(by omega)).1 (R[k]'(by omega)).2 R[k + 1].1 R[k + 1].2) ∧ TyI w W4 P R (k + 1) (sfW Wc (P + 1) (R[k]'(by omega)).1 (R[k]'(by omega)).2 R[k + 1].1 R[k + 1].2)) := Lib.hid fun Wc v' hr => by
        obtain ⟨e1, e2, e3, e4, e5, e6, e7⟩ := hr.last hs4 hwP
        exact ⟨e7, e6, e1, v', e2, e3, e5, _, _, _, _, e4, fun _ _ => ⟨rfl, rfl⟩⟩
      have HKP := Lib.hid (fun hk' => tidyJ_keep (l := R) (j := k) (by omega) hk')
      have HDR := Lib.hid (fun hk' => tidyJ_drop (l := R) (j := k) hk')
      have hsW : P + 1 + 1 < W.heap.size := by have := cell_lt hb.c0; omega
      obtain ⟨va, vc, rfl, -⟩ := h4.shape
      have HXL := Lib.hid hxl
      by_cases hk0 : k = 0
      · subst hk0
        have hpu : tidyJ R (0 + 1) = tidyJ R 0 ++ [((R[0]'(by omega)).1, (R[0]'(by omega)).2)] := HKP.out (keepAt_first R)
        have hx0 : tidyJ R 0 = [] := rfl
        rw [hpu] at END
        clear h6 HKP HDR hpu
        rw [hx0] at END h4 RN0 h2 hng
        simp only [List.nil_append, List.length_nil] at END h2 hng RN0 ⊢
        generalize R[0 + 1] = q at *
        generalize (R[0]'(by omega)) = p at *
        obtain ⟨px, py⟩ := p
        obtain ⟨qx, qy⟩ := q
        simp only at RN0 END hb hl0 hl1
        have HRN := Lib.hid RN0
        have HRA := Lib.hid (RN0.up ((Gr.refl W).alloc (.cells #[.int .i64 px, .int .i64 py] 52)) hsW)
        have HNG := Lib.hid hng
        clear h4 h5 hb RN0 hng hne hx0 hxl HXL
        obtain ⟨b0, b1, b2, b3⟩ := id HRN.out.sb
        gi_wp2_with (fail)
        refine ⟨trivial, ?_⟩
        gi_wp2_with (gi_at_builtin; refine pushIn_c hi hz0 hz1 hz2 rfl _ _ rfl W4.heap.size _ [] rfl HRN.out.own (by omega) px py W.heap.size rfl rfl (by simp) ?_; rintro v5 w5 HO5 HW5; obtain ⟨g5, cp5, hv5, -, -, -⟩ := HO5.out.room (by simp); simp only [List.nil_append, List.length_cons, List.length_nil, Nat.zero_add] at HO5 hv5; subst hv5; obtain ⟨RN5, c5, f5⟩ := Rn.push HRA.out hs4 hwP HNG.out (by omega) HO5.out HW5.out; have HRN5 := Lib.hid RN5; obtain ⟨s0, s1, s2, s3, t0, t1, t2, t3⟩ := id RN5.sf; clear b0 b1 b2 b3; obtain ⟨b0, b1, b2, b3⟩ := id RN5.sb; clear RN5)
        exact END.out _ _ HRN5.out
      · obtain ⟨k', rfl⟩ : ∃ k', k = k' + 1 := ⟨k - 1, by omega⟩
        obtain ⟨e6, e7⟩ := h6 (by omega) (by omega)
        have hlp := HCV.out.lv _ (List.getElem_mem (show k' < R.length by omega))
        have hka := keepAt_in (l := R) (k := k') hk
        have e6' : (R[k']'(by omega)) = (la, lb) := e6
        rw [e6'] at hlp hka
        rw [e7] at hl0 hka RN0 END HKP hb
        have hpos : 0 < (tidyJ R (k' + 1)).length := tidyJ_pos (by omega) _ (by omega)
        have HQ2 : R[k' + 1 + 1] = R[k' + 2] := rfl
        have HKA : Hid (keepAt R (k' + 1) = !(colC (la, lb) (lc, ld) R[k' + 1 + 1])) := Lib.hid hka
        clear hka e6 e7 e6' h6 HQ2 hk0
        generalize R[k' + 1 + 1] = q at *
        obtain ⟨qx, qy⟩ := q
        simp only at hb hl0 hl1 hlp RN0 END
        have HGO := Lib.hid (fun W => cv_goesOn la lb lc ld lc ld qx qy W ⟨hlp.1, hlp.2, hl0.1, hl0.2⟩ ⟨hl0.1, hl0.2, hl1.1, hl1.2⟩)
        have hB : colC (la, lb) (lc, ld) (qx, qy) = ((ld - lb) * (qx - lc) == (qy - ld) * (lc - la)) := by
          unfold colC
          rw [Bool.eq_iff_iff, decide_eq_true_eq, beq_iff_eq]
        generalize keepAt R (k' + 1) = KA at *
        generalize colC (la, lb) (lc, ld) (qx, qy) = CC at *
        generalize tidyJ R (k' + 1 + 1) = ys at *
        generalize tidyJ R (k' + 1) = xs at *
        rw [← hB] at HGO
        have HRN := Lib.hid RN0
        have HNG := Lib.hid hng
        have hm0 : ((xs.length : Int) == 0) = false := by rw [beq_eq_false_iff_ne]; omega
        have hm1 : ¬ xs.length = 0 := by omega
        obtain ⟨b0, b1, b2, b3⟩ := id RN0.sb
        obtain ⟨s0, s1, s2, s3, t0, t1, t2, t3⟩ := id RN0.sf
        clear h4 h5 hb RN0 hng hne hxl hB
        gi_wp2_with (fail)
        refine ⟨trivial, ?_⟩
        refine (CallsIn.inRound y (callsIn_wide.2 (HGO.out _))).mono ?_
        rintro e w5 ⟨rfl, hg5⟩
        have HR5 := Lib.hid (HRN.out.up hg5 hsW)
        have hs5 : P + 1 + 1 < w5.heap.size := Nat.lt_of_lt_of_le hsW hg5.size
        have h25 := HR5.out.cv
        have h35 := HR5.out.fv
        clear hg5 HGO b0 b1 b2 b3 s0 s1 s2 s3 t0 t1 t2 t3 h2 h3
        obtain ⟨b0, b1, b2, b3⟩ := id HR5.out.sb
        obtain ⟨s0, s1, s2, s3, t0, t1, t2, t3⟩ := id HR5.out.sf
        cases CC
        · have hys : ys = xs ++ [(lc, ld)] := HKP.out (by rw [HKA.out]; rfl)
          subst hys
          have HRA := Lib.hid (HR5.out.up ((Gr.refl w5).alloc (.cells #[.int .i64 lc, .int .i64 ld] 52)) hs5)
          have hW4 : W4.heap.size ≤ w5.heap.size := by have := cell_lt b0; omega
          clear HKP HDR HKA s0 s1 s2 s3 t0 t1 t2 t3
          gi_wp2_with (gi_at_builtin; refine pushIn_c hi hz0 hz1 hz2 rfl _ _ rfl W4.heap.size _ xs rfl HR5.out.own hW4 lc ld w5.heap.size rfl rfl (by have := HXL.out; omega) ?_; rintro v6 w6 HO6 HW6; obtain ⟨g6, cp6, hv6, -, -, -⟩ := HO6.out.room (by simp); obtain ⟨m6, hm6⟩ : ∃ m6, (xs ++ [(lc, ld)]).length = m6 := ⟨_, rfl⟩; rw [hm6] at hv6; subst hv6; obtain ⟨RN6, c6, f6⟩ := Rn.push HRA.out hs4 hwP HNG.out (by omega) HO6.out HW6.out; have HRN6 := Lib.hid RN6; obtain ⟨s0, s1, s2, s3, t0, t1, t2, t3⟩ := id RN6.sf; clear b0 b1 b2 b3; obtain ⟨b0, b1, b2, b3⟩ := id RN6.sb; clear RN6 hm6)
          exact END.out _ _ HRN6.out
        · have hys : ys = xs := HDR.out (by rw [HKA.out]; rfl)
          subst hys
          clear HKP HDR HKA
          gi_wp2
          exact END.out _ _ HR5.out
    case done =>
      rintro D W hD ⟨h1, v, h2, h3, h4, la, lb, lc, ld, h5, h6⟩ hK
      have hn1 : n + 1 < R.length := by rw [HN.out]; omega
      have hT := HALL.out hn1
      rw [(h6 hn1 (by omega)).2] at hT
      have hxl : (tidyJ R (n + 1)).length ≤ 15 := by have := tidyJ_len R (n + 1); omega
      have hDl : D < W.heap.size := (Array.getElem?_eq_some_iff.1 hK).1
      have hDo : v.ownBlock ≠ some D := fun e => by
        rcases id h4.2 with ⟨e1, -⟩ | ⟨g, cp, cur, e1, -, hc, -⟩
        · rw [e1] at e; cases e
        · rw [e1] at e
          have : g = D := Option.some.inj e
          subst this
          rw [hc] at hK; cases hK
      obtain ⟨va, vc, rfl, -⟩ := h4.shape
      have HO := Lib.hid h4
      have HGW := Lib.hid h1
      have hBW : W4.heap.size ≤ W.heap.size := by omega
      generalize tidyJ R (n + 1) = xs at *
      obtain ⟨-, -, s2, s3, -⟩ := id h5
      clear h6 h5 h3
      gi_wp2_with (gi_at_builtin; refine pushIn_c hi hz0 hz1 hz2 rfl _ _ rfl W4.heap.size _ xs rfl HO.out hBW lc ld W.heap.size rfl rfl (by omega) ?_; rintro v5 w5 HO5 HW5)
      have hK' : w5.heap[D]? = some (.deferred (some [])) := (HW5.out.block D (by simp; omega) (fun e => hDo e.symm)).trans ((Below.heap_alloc _ _ _ (by omega)).trans hK)
      have hG5 : Gr w w5 := Below.grown (HGW.out.alloc _) HW5.out (by have := HGW.out.size; simp; omega) (fun r e => by have := (World.ownsRow.lt HO.out r e).1; omega)
      have hO6 : OwnC w.heap.size (w5.putObj D (.deferred none)) v5 TT := by
        rw [hT]
        exact OwnC.low (HO5.out.keptR (grownBy_putObj' w5 D (.deferred none)) (fun r e => by cases e; exact ⟨_, hK', rfl⟩)) hww4
      refine ⟨by simp, .inl ⟨_, _, rfl, run_takeDeferred hK', ?_⟩⟩
      refine ⟨.tuple #[v5, .int .i64 0], ?_, v5, rfl, hO6, Below.trans hG5 (below_putObj (by omega))⟩
      simp [results, Tryz.results29, go_sem]
    case stop =>
      rintro D c W hD h
      exact h.elim
  · rw [if_pos h]
    generalize cvC R = K at *
    generalize R.length = n at *
    have hk : (K == 0) = false := by rw [beq_eq_false_iff_ne]; exact h
    clear hR hJ
    go_enter Tryz.func29, Tryz.ntmps29
    go_wp2_with fail
    refine C.out.mono ?_; rintro e w1 ⟨rfl, hg⟩
    have HG1 := Lib.hid hg
    clear hg
    go_wp2
    go_ret2
    exact ⟨_, rfl, OwnC.nil _ _, HG1.out⟩
end Go.Proofs.YtlbnibicehpobaaGreatDoor
