/- T3: numbers between numbers. -/
import Derived.Test.YtahbikegdgpncaaDoorTpB
set_option linter.unusedVariables false
set_option linter.unusedSimpArgs false
namespace Go.Proofs.YtahbikegdgpncaaDoor
open Go.RowKit Go.Shelf
open Z

def sv (l : List ByteArray) : List Value := l.map Value.string
theorem sv_snoc (l : List ByteArray) (s : ByteArray) : sv (l ++ [s]) = sv l ++ [.string s] := by simp [sv]
def OwnS (B : Nat) (w : World) (v : Value) (l : List ByteArray) : Prop := w.ownsRow B 9 1 v l.length (sv l)
theorem OwnS.gr {B : Nat} {w w' : World} {v : Value} {l : List ByteArray} (h : OwnS B w v l) (hg : Gr w w') : OwnS B w' v l :=
  World.ownsRow.kept h (⟨hg.os, hg.tape, hg.output, hg.size, fun i hi _ => hg.block i hi⟩ : w.grownBy w' none) (by cases hv : v.ownBlock with | none => exact .inl rfl | some k => exact .inr (by simp))
theorem OwnS.one (w : World) (B : Nat) (s : ByteArray) (hB : B ≤ w.heap.size) : OwnS B (w.alloc (.cells #[.string s] 9)) (.slice (some ⟨w.heap.size, 0, none⟩) 1 1) [s] :=
  World.ownsRow_lit w #[.string s] 1 hB (by unfold maxLen; omega) rfl
theorem OwnS.shape {B : Nat} {w : World} {v : Value} {l : List ByteArray} (h : OwnS B w v l) : ∃ a cap, v = .slice a l.length cap ∧ RdS w a l ∧ l.length ≤ cap ∧ cap ≤ maxLen := by
  rcases id h.2 with ⟨rfl, h0⟩ | ⟨g, cap, cur, rfl, -, -, hn1, hn2, -⟩
  · have : l = [] := List.eq_nil_of_length_eq_zero h0
    subst this
    exact ⟨none, 0, rfl, fun k hk => absurd hk (by simp), by simp, by unfold maxLen; omega⟩
  · refine ⟨_, cap, rfl, fun k hk => ⟨g, 0, rfl, ?_⟩, hn1, hn2⟩
    have := World.ownsRow.cells h (g := g) rfl k (.string l[k]) (by simp [sv, hk])
    rw [WideShapes.add_plain] at this
    simpa using this
theorem push_s {i : TypeInfo} (hi : Tryd.prog.info? 9 = some i) (hz0 : i.zero = some (.string ⟨#[]⟩)) (hz1 : i.size = 1) (hz2 : i.bytes = 16)
    {ops : Array Oper} {rest : List Oper} {o : Oper} {a : Act} {Q : Exit → Act → World → Prop} {w0 w : World} (hgd : o.guard = none) (s x : Operand)
    (ho : o.op = .call { callee := .builtin .append, args := #[s, x], argTypes := #[71, 71] }) (v : Value) (xs : List ByteArray) (hs : a.eval s = v) (hown : OwnS w0.heap.size w v xs) (hg : Gr w0 w)
    (f : ByteArray) (N : Nat) (hN : N = w.heap.size) (hx : a.eval x = .slice (some ⟨N, 0, none⟩) 1 1) (hlen : xs.length ≤ 3000000)
    (h : ∀ v' w', Hid (OwnS w0.heap.size w' v' (xs ++ [f])) → Gr w0 w' → wpList Tryd.prog ops Q rest (a.put o.dst v') w') :
    wpList Tryd.prog ops Q (o :: rest) a (w.alloc (.cells #[.string f] 9)) := by
  have hgs := hg.size
  subst hN
  refine wpList_append_own _ hgd s x _ ho w0.heap.size 9 i (.string ⟨#[]⟩) 1 16 Tryd.underlying71 hi hz0 hz1 hz2 rfl (by decide) v xs.length (sv xs) hs (World.ownsRow.alloc hown _) ⟨w.heap.size, 0, none⟩ 1 1 [.string f] hx rfl
    (fun j u hj => ?_) (one1 _ rfl) (by unfold maxLen; omega) (by omega) (by simp; omega) (fun v' w' hown' hgrow _ => h v' w' ?_ (Below.grown (hg.alloc _) hgrow (by simp; omega) (fun k hk => (World.ownsRow.lt hown k hk).1)))
  · rw [WideShapes.add_plain]
    match j, hj with
    | 0, hj => simp only [List.getElem?_cons_zero, Option.some.injEq] at hj; subst hj; rw [World.cell?_alloc_at _ _ _ _ rfl]; rfl
    | j + 1, hj => simp at hj
  · show World.ownsRow _ _ _ _ _ _ _
    rw [sv_snoc, List.length_append]; exact hown'
/-- numbers in ascending order, all of them below y -/
structure Asc (L : List ByteArray) (y : Nat) : Prop where
  pos : 1 ≤ L.length
  each : ∀ s ∈ L, nuE s.data.toList = 0 ∧ s.size ≤ 8
  step : ∀ j, j < L.length → stepS L j = 0
  last : ∀ h : L.length - 1 < L.length, nuV (L[L.length - 1]'h).data.toList < y
theorem stepS_app {L M : List ByteArray} {j : Nat} (h : j < L.length) : stepS (L ++ M) j = stepS L j := by
  rw [stepS_at (by rw [List.length_append]; omega), stepS_at h]
  simp only [List.getElem_append_left h, List.getElem_append_left (show j - 1 < L.length by omega)]
theorem stepS_new {L : List ByteArray} {s : ByteArray} (h : 1 ≤ L.length) (he : nuE s.data.toList = 0) (hv : ∀ h : L.length - 1 < L.length, nuV (L[L.length - 1]'h).data.toList < nuV s.data.toList) : stepS (L ++ [s]) L.length = 0 := by
  rw [stepS_at (by simp)]
  have e1 : (L ++ [s])[L.length]'(by simp) = s := by simp
  have e2 : (L ++ [s])[L.length - 1]'(by simp; omega) = L[L.length - 1]'(by omega) := List.getElem_append_left (by omega)
  simp only [e1, e2]
  rw [if_neg (by simp [he]), if_neg (by omega), if_neg (by have := hv (by omega); omega)]
theorem Asc.push {L : List ByteArray} {y : Nat} {s : ByteArray} (h : Asc L y) (he : nuE s.data.toList = 0) (hs : s.size ≤ 8) (h1 : ∀ h : L.length - 1 < L.length, nuV (L[L.length - 1]'h).data.toList < nuV s.data.toList) (h2 : nuV s.data.toList < y) : Asc (L ++ [s]) y := by
  refine ⟨by simp, fun x hx => ?_, fun j hj => ?_, fun hh => ?_⟩
  · rcases List.mem_append.1 hx with hx | hx
    · exact h.each x hx
    · simp at hx; subst hx; exact ⟨he, hs⟩
  · rw [List.length_append] at hj
    by_cases hjl : j < L.length
    · rw [stepS_app hjl]; exact h.step j hjl
    · have : j = L.length := by simp at hj; omega
      subst this
      exact stepS_new h.pos he h1
  · have e : (L ++ [s])[(L ++ [s]).length - 1]'hh = s := by simp
    rw [e]; exact h2
theorem Asc.done {L : List ByteArray} {s : ByteArray} (h : Asc L (nuV s.data.toList)) (he : nuE s.data.toList = 0) : ascE (L ++ [s]) = 0 := by
  refine ascE_ok fun j hj => ?_
  rw [List.length_append] at hj
  by_cases hjl : j < L.length
  · rw [stepS_app hjl]; exact h.step j hjl
  · have : j = L.length := by simp at hj; omega
    subst this
    exact stepS_new h.pos he h.last
theorem Asc.first {s : ByteArray} {y : Nat} (he : nuE s.data.toList = 0) (hs : s.size ≤ 8) (h : nuV s.data.toList < y) : Asc [s] y := by
  refine ⟨by simp, fun x hx => by simp at hx; subst hx; exact ⟨he, hs⟩, fun j hj => ?_, fun hh => by simpa using h⟩
  have : j = 0 := by simp at hj; omega
  subst this
  rw [stepS_at (by simp)]
  simp [he]
set_option maxHeartbeats 4000000 in
set_option maxRecDepth 100000 in
theorem top_TopNumbersDense (a b : ByteArray) (w : World) (ha : a.size ≤ maxLen) (hb : b.size ≤ maxLen) (htab : Tab w) :
    Calls Tryd.prog 11 #[.string a, .string b] w fun e w' => e = .returned (.bool true) ∧ Gr w w' := by
  have HT := Lib.hid htab
  have HP := Lib.hid pl_play
  obtain ⟨i0, hi, hz0, hz1, hz2⟩ := info_parts Tryd.infoStr
  have C0 := Lib.hid (fun w => r5_Check a w ha)
  have C1 := Lib.hid (fun w => r5_Check b w hb)
  by_cases he : nuE a.data.toList = 0
  · rw [he] at C0
    by_cases he2 : nuE b.data.toList = 0
    · rw [he2] at C1
      have C2 := Lib.hid (fun w => r5_Order a b w ha hb he he2)
      by_cases hlt : nuV a.data.toList < nuV b.data.toList
      · have ho : ordN (nuV a.data.toList) (nuV b.data.toList) = -1 := by unfold ordN; rw [if_pos hlt]
        rw [ho] at C2
        have ha8 : a.size ≤ 8 := by have := nuE_len he; simpa using this
        have hb8 : b.size ≤ 8 := by have := nuE_len he2; simpa using this
        have HF := Lib.hid (Asc.first he ha8 hlt)
        have HEB := Lib.hid he2
        have CTB := Lib.hid (fun w => nu_Thousandths b w (by omega))
        rw [nuR_zero he2] at CTB
        unfold vII at CTB
        obtain ⟨y, hy⟩ : ∃ y, Hid (nuV b.data.toList = y) := ⟨_, Lib.hid rfl⟩
        rw [hy.out] at CTB
        have hyb := (nuV_le he2).2
        rw [hy.out] at hyb
        clear he he2 ho hlt ha hb htab
        go_enter Tryd.func11, Tryd.ntmps11
        go_wp2_with fail
        refine (C0.out _).mono ?_; rintro e w1 ⟨rfl, hg1⟩
        have HG1 := Lib.hid hg1; clear hg1
        go_wp2_with fail
        refine (C1.out _).mono ?_; rintro e w2 ⟨rfl, hg2⟩
        have HG2 := Lib.hid (Gr.trans HG1.out hg2); clear hg2
        go_wp2_with fail
        refine (C2.out _).mono ?_; rintro e w3 ⟨rfl, hg3⟩
        have HG3 := Lib.hid (Gr.trans HG2.out hg3); clear hg3
        go_wp2
        have HO3 := Lib.hid (OwnS.one w3 w.heap.size a HG3.out.size)
        have HG4 := Lib.hid (HG3.out.alloc (.cells #[.string a] 9))
        clear HG1 HG2 C0 C1 C2
        go_loopw [5] (fun v wr => ∃ L : List ByteArray, Hid (OwnS w.heap.size wr v L) ∧ L.length ≤ 60 ∧ Hid (Asc L (nuV b.data.toList)) ∧ Hid (Gr w wr)) (fun v _ => 60 - (match v with | .slice _ n _ => n | _ => 0))
        case atStart => exact ⟨[a], HO3.out, by simp, HF.out, HG4.out⟩
        case round =>
          obtain ⟨L, HO, hL, HASC, HG⟩ := hrel
          clear HG4 HO3 HF HG3
          obtain ⟨aL, cL, hv, hr, hlc, hcm⟩ := HO.out.shape
          subst hv
          by_cases h60 : L.length < 60
          · have hpos := HASC.out.pos
            obtain ⟨m, hm⟩ : ∃ m, L.length = m + 1 := ⟨L.length - 1, by omega⟩
            have hml : m < L.length := by omega
            obtain ⟨bk, o, rfl, hc0⟩ := hr m hml
            have hel := HASC.out.each (L[m]'hml) (List.getElem_mem _)
            have hlast : nuV (L[m]'hml).data.toList < nuV b.data.toList := by
              have := HASC.out.last (by omega)
              simpa [hm] using this
            obtain ⟨x, HX⟩ : ∃ x, Hid (x = L[m]'hml) := ⟨_, Lib.hid rfl⟩
            rw [← HX.out] at hc0 hel hlast
            have hwm : IntKind.i64.wrap ((L.length : Int) - 1) = (m : Int) := by rw [IntWalk.i64_in _ (by omega)]; omega
            have hwm2 : (L.length : Int) - 1 = (m : Int) := by omega
            have hI60 : (L.length : Int) < 60 := by omega
            have hcl : cL ≤ maxLen := hcm
            have CB := Lib.hid (fun w htab => nu_Between x b w (by omega) (by omega) htab)
            have hbt : betN x.data.toList b.data.toList = betV (nuV x.data.toList) (nuV b.data.toList) := by
              unfold betN both2
              rw [if_pos hel.1, if_pos HEB.out, if_neg (by omega)]
            rw [hbt] at CB
            have CTX := Lib.hid (fun w => nu_Thousandths x w (by omega))
            rw [nuR_zero hel.1] at CTX
            unfold vII at CTX
            have HTr := Lib.hid (htab_gr HT.out HG.out)
            rw [hy.out] at CB hlast
            have HV : Hid (∀ h : L.length - 1 < L.length, nuV (L[L.length - 1]'h).data.toList = nuV x.data.toList) := Lib.hid fun h => by
              have : L[L.length - 1]'h = L[m]'hml := by simp only [hm, Nat.add_sub_cancel]
              rw [this, ← HX.out]
            have hx1 := (nuV_le hel.1).2
            clear hm
            generalize hvx : nuV x.data.toList = v at *
            cases hbo : betO v y with
            | none =>
              have hyv : y = v + 1 := (betO_none hlast).1 hbo
              have hbv : betV v y = ([], 12) := by unfold betV; rw [hbo]
              rw [hbv] at CB
              unfold vTI at CB
              simp only [] at CB CTX
              have hyI : ((v : Int) + 1 != (y : Int)) = false := by simp; omega
              have hyI2 : ((y : Int) != (v : Int) + 1) = false := by simp; omega
              clear hbo hbv hbt hel hlast HV hvx
              go_wp2_with fail
              refine (CB.out _ HTr.out).mono ?_; rintro e u1 ⟨rfl, hg1⟩
              have HO1 := Lib.hid (HO.out.gr hg1)
              have HG1 := Lib.hid (Gr.trans HG.out hg1); clear hg1
              go_wp2_with fail
              refine (CTX.out _).mono ?_; rintro e u2 ⟨rfl, hg2⟩
              have HO2 := Lib.hid (HO1.out.gr hg2)
              have HG2 := Lib.hid (Gr.trans HG1.out hg2); clear hg2
              go_wp2_with fail
              refine (CTB.out _).mono ?_; rintro e u3 ⟨rfl, hg3⟩
              have HO3 := Lib.hid (HO2.out.gr hg3)
              have HG3 := Lib.hid (Gr.trans HG2.out hg3); clear hg3
              go_wp2_with (at_builtin; refine push_s hi hz0 hz1 hz2 rfl _ _ rfl _ L rfl HO3.out HG3.out b _ rfl rfl (by omega) ?_; rintro v5 w5 HO5 hg5; have HG5 := Lib.hid hg5; clear hg5)
              obtain ⟨a5, c5, hv5, hr5, hl5, hm5⟩ := HO5.out.shape
              have hsz5 : ∀ s ∈ L ++ [b], s.size ≤ 1000 := fun s hs => by
                rcases List.mem_append.1 hs with hs | hs
                · have := (HASC.out.each s hs).2; omega
                · simp at hs; subst hs; omega
              have CA := Lib.hid (nu_Ascending (cap := c5) w5 hr5 (by rw [List.length_append]; simp; omega) hsz5)
              rw [HASC.out.done HEB.out] at CA
              subst hv5
              clear hr5 hl5 hm5 hsz5
              go_wp2_with fail
              refine CA.out.mono ?_; rintro e w6 ⟨rfl, hg6⟩
              have HG6 := Lib.hid (Gr.trans HG5.out hg6); clear hg6
              have HT6 := Lib.hid (htab_gr HT.out HG6.out)
              go_wp2_with fail
              refine (HP.out _ HT6.out).mono ?_; rintro e w7 ⟨rfl, hg7⟩
              have HG7 := Lib.hid (Gr.trans HG6.out hg7); clear hg7
              go_wp2
              go_ret
              exact ⟨rfl, HG7.out⟩
            | some n =>
              obtain ⟨n1, n2⟩ := betO_some hbo
              have hbv : betV v y = (nuT n, 0) := by unfold betV; rw [hbo]
              rw [hbv] at CB
              unfold vTI at CB
              simp only [] at CB CTX
              obtain ⟨t1, t2⟩ := nu_text (n := n) (by omega) (by omega)
              have t3 := nuT_len (n := n) (by omega)
              have HA2 : Hid (Asc (L ++ [str (nuT n)]) (nuV b.data.toList)) := Lib.hid (HASC.out.push (by rw [data_str]; exact t1) (by rw [str_size]; exact t3) (fun h => by rw [HV.out h, data_str, t2]; exact n1) (by rw [data_str, t2, hy.out]; exact n2))
              generalize str (nuT n) = N at *
              clear hbo hbv hbt hel hlast HV hvx t1 t2 t3 n1 n2
              go_wp2_with fail
              refine (CB.out _ HTr.out).mono ?_; rintro e u1 ⟨rfl, hg1⟩
              have HO1 := Lib.hid (HO.out.gr hg1)
              have HG1 := Lib.hid (Gr.trans HG.out hg1); clear hg1
              go_wp2_with (at_builtin; refine push_s hi hz0 hz1 hz2 rfl _ _ rfl _ L rfl HO1.out HG1.out N _ rfl rfl (by omega) ?_; rintro v5 w5 HO5 hg5; have HG5 := Lib.hid hg5; clear hg5)
              obtain ⟨a5, c5, hv5, -, -, -⟩ := HO5.out.shape
              subst hv5
              go_roundw
              case rel => exact ⟨L ++ [N], HO5, by rw [List.length_append]; simp; omega, HA2, HG5⟩
              case measure => simp [List.length_append]; omega
          · have h60' : ¬ (L.length : Int) < 60 := by omega
            clear hr
            obtain ⟨aL, cL, hv, -⟩ := HO.out.shape
            go_wp2_with (at_builtin; refine push_s hi hz0 hz1 hz2 rfl _ _ rfl _ L rfl HO.out HG.out b _ rfl rfl (by omega) ?_; rintro v5 w5 HO5 hg5; have HG5 := Lib.hid hg5; clear hg5)
            obtain ⟨a5, c5, hv5, hr5, hl5, hm5⟩ := HO5.out.shape
            have hsz5 : ∀ s ∈ L ++ [b], s.size ≤ 1000 := fun s hs => by
              rcases List.mem_append.1 hs with hs | hs
              · have := (HASC.out.each s hs).2; omega
              · simp at hs; subst hs; omega
            have CA := Lib.hid (nu_Ascending (cap := c5) w5 hr5 (by rw [List.length_append]; simp; omega) hsz5)
            rw [HASC.out.done HEB.out] at CA
            subst hv5
            clear hr5 hl5 hm5 hsz5
            go_wp2_with fail
            refine CA.out.mono ?_; rintro e w6 ⟨rfl, hg6⟩
            have HG6 := Lib.hid (Gr.trans HG5.out hg6); clear hg6
            have HT6 := Lib.hid (htab_gr HT.out HG6.out)
            go_wp2_with fail
            refine (HP.out _ HT6.out).mono ?_; rintro e w7 ⟨rfl, hg7⟩
            have HG7 := Lib.hid (Gr.trans HG6.out hg7); clear hg7
            go_wp2
            go_ret
            exact ⟨rfl, HG7.out⟩
      · have ho : ¬ ordN (nuV a.data.toList) (nuV b.data.toList) < 0 := by unfold ordN; rw [if_neg hlt]; split <;> omega
        generalize ordN (nuV a.data.toList) (nuV b.data.toList) = r at *
        have hr0 : (0 : Int) ≤ r := by omega
        clear he he2 ho hlt ha hb htab
        go_enter Tryd.func11, Tryd.ntmps11
        go_wp2_with fail
        refine (C0.out _).mono ?_; rintro e w1 ⟨rfl, hg1⟩
        have HG1 := Lib.hid hg1; clear hg1
        go_wp2_with fail
        refine (C1.out _).mono ?_; rintro e w2 ⟨rfl, hg2⟩
        have HG2 := Lib.hid (Gr.trans HG1.out hg2); clear hg2
        go_wp2_with fail
        refine (C2.out _).mono ?_; rintro e w3 ⟨rfl, hg3⟩
        have HG3 := Lib.hid (Gr.trans HG2.out hg3); clear hg3
        have HTp := Lib.hid (htab_gr HT.out HG3.out)
        go_wp2_with fail
        refine (HP.out _ HTp.out).mono ?_; rintro e w7 ⟨rfl, hg7⟩
        have HG7 := Lib.hid (Gr.trans HG3.out hg7); clear hg7
        go_wp2
        go_ret
        exact ⟨rfl, HG7.out⟩
    · have heb : (nuE b.data.toList != 0) = true := by simpa using he2
      generalize nuE b.data.toList = E at *
      clear he he2 ha hb htab
      go_enter Tryd.func11, Tryd.ntmps11
      go_wp2_with fail
      refine (C0.out _).mono ?_; rintro e w1 ⟨rfl, hg1⟩
      have HG1 := Lib.hid hg1; clear hg1
      go_wp2_with fail
      refine (C1.out _).mono ?_; rintro e w2 ⟨rfl, hg2⟩
      have HG2 := Lib.hid (Gr.trans HG1.out hg2); clear hg2
      have HTp := Lib.hid (htab_gr HT.out HG2.out)
      go_wp2_with fail
      refine (HP.out _ HTp.out).mono ?_; rintro e w7 ⟨rfl, hg7⟩
      have HG7 := Lib.hid (Gr.trans HG2.out hg7); clear hg7
      go_wp2
      go_ret
      exact ⟨rfl, HG7.out⟩
  · have heb : (nuE a.data.toList != 0) = true := by simpa using he
    generalize nuE a.data.toList = E at *
    clear he ha hb htab
    go_enter Tryd.func11, Tryd.ntmps11
    go_wp2_with fail
    refine (C0.out _).mono ?_; rintro e w1 ⟨rfl, hg1⟩
    have HG1 := Lib.hid hg1; clear hg1
    have HTp := Lib.hid (htab_gr HT.out HG1.out)
    go_wp2_with fail
    refine (HP.out _ HTp.out).mono ?_; rintro e w7 ⟨rfl, hg7⟩
    have HG7 := Lib.hid (Gr.trans HG1.out hg7); clear hg7
    go_wp2
    go_ret
    exact ⟨rfl, HG7.out⟩
end Go.Proofs.YtahbikegdgpncaaDoor
