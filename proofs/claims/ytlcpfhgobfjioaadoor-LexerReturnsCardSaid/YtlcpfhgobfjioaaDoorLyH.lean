/- Law 7: LexerReturns. -/
import Derived.Test.YtlcpfhgobfjioaaDoorLyG
set_option linter.unusedVariables false
set_option linter.unusedSimpArgs false
namespace Go.Proofs.YtlcpfhgobfjioaaDoor
open Go.RowKit Go.Shelf
open Z
theorem bare_eq {L M : List Tk} (hn : M.length = L.length) (h : ∀ j (h1 : j < M.length) (h2 : j < L.length), M[j].1 = L[j].1 ∧ M[j].2.1 = L[j].2.1) : bareL M = bareL L := by
  apply List.ext_getElem
  · rw [bareL_len, bareL_len]; exact hn
  · intro k h1 h2
    rw [bareL_len] at h1 h2
    obtain ⟨a, b⟩ := h k h1 h2
    simp only [bareL, List.getElem_map]
    exact Prod.ext a (Prod.ext b rfl)
theorem join_bare {L : List Tk} (h : (joinR L).2 = 0) : (scanR (joinR L).1).2.2 = (if L.length ≤ 256 then 0 else 5) ∧ (L.length ≤ 256 → (scanR (joinR L).1).1.length = L.length ∧ bareL (scanR (joinR L).1).1 = bareL L) := by
  obtain ⟨h1, h2⟩ := join_scan h
  exact ⟨h1, fun e => ⟨(h2 e).1, bare_eq (h2 e).1 (h2 e).2⟩⟩
set_option maxRecDepth 100000 in
set_option maxHeartbeats 2000000 in
theorem l7_LexerReturns {a : Option Addr} {L : List Tk} {c : Nat} (w : World) (hL : TksAt w a L) (hl : L.length ≤ 10000000000000) (hb : ∀ j (h : j < L.length), L[j].2.1.length ≤ 140737488355328) :
    Calls Tryd.prog 3 #[.slice a L.length c] w fun e w' => e = .returned (.bool true) ∧ Gr w w' := by
  have AW := Lib.hid (fun w => l7_awake w)
  have HL := Lib.hid hL
  have F := Lib.hid (r7_Few (c := c) w hL hl hb)
  have FF := Lib.hid (few_facts (L := L))
  have A : Hid (fewR L = true → ∀ w', Gr w w' → Calls Tryd.prog 10 #[.slice a L.length c] w' fun e w'' => e = .returned (.tuple #[.string (str (joinR L).1), .int .i64 (joinR L).2]) ∧ Gr w' w'') := Lib.hid fun h w' hg => by
    obtain ⟨h1, h2, h3⟩ := few_facts h
    exact lx_Join w' (hL.gr hg) h1 h2 h3
  have B : Hid (fewR L = true → ∀ w', Gr w w' → Calls Tryd.prog 13 #[.slice a L.length c] w' fun e w'' => ∃ a' c', e = .returned (.slice a' L.length c') ∧ TksAt w'' a' (bareL L) ∧ Gr w' w'') := Lib.hid fun h w' hg => by
    obtain ⟨h1, h2, h3⟩ := few_facts h
    exact l7_bare a c L w' (hL.gr hg) h1
  have HFL : Hid (fewR L = true → L.length ≤ 400) := Lib.hid fun h => (few_facts h).1
  have SC := Lib.hid (fun w => lx_Scan (str (joinR L).1) w)
  have JS := Lib.hid (join_bare (L := L))
  have hdd : (str (joinR L).1).data.toList = (joinR L).1 := rfl
  have hlen := scanR_len (joinR L).1
  rw [hdd] at SC
  clear hL hb FF hdd
  obtain ⟨n, hn⟩ : ∃ n, L.length = n := ⟨_, rfl⟩
  have HN := Lib.hid hn
  have hbl : Hid ((bareL L).length = n) := Lib.hid (by rw [bareL_len]; exact hn)
  rw [hn] at F A B JS HFL hl ⊢
  clear hn
  generalize scanR (joinR L).1 = R at *
  obtain ⟨M, at_, f⟩ := R
  generalize joinR L = V at *
  obtain ⟨x1, x2⟩ := V
  simp only at A SC JS hlen
  generalize str x1 = x at *
  cases hf : fewR L
  · rw [hf] at F
    clear A B hf JS SC hbl
    go_enter Tryd.func3, Tryd.ntmps3
    go_wp2_with fail
    refine F.out.mono ?_; rintro e w1 ⟨rfl, rfl⟩
    go_wp2_with fail
    refine (AW.out _).mono ?_; rintro e w2 ⟨rfl, hg⟩
    have HG := Lib.hid hg
    clear hg
    go_wp2
    go_ret
    exact ⟨rfl, HG.out⟩
  · rw [hf] at F
    have A := Lib.hid (A.out hf)
    have B := Lib.hid (B.out hf)
    have h400 := HFL.out hf
    clear hf HFL
    by_cases h2 : x2 = 0
    · obtain ⟨hs, hr⟩ := JS.out h2
      clear JS
      have z2 : (x2 != 0) = false := by simp [h2]
      by_cases h256 : n ≤ 256
      · obtain ⟨hm, hbb⟩ := hr h256
        rw [if_pos h256] at hs
        subst hs
        have HBB := Lib.hid hbb
        clear hbb hr h2
        have HM := Lib.hid hm
        clear hm
        go_enter Tryd.func3, Tryd.ntmps3
        go_wp2_with fail
        refine F.out.mono ?_; rintro e w1 ⟨rfl, rfl⟩
        go_wp2_with fail
        refine (A.out _ (Gr.refl _)).mono ?_; rintro e w2 ⟨rfl, hg⟩
        have HG := Lib.hid hg
        clear hg
        go_wp2_with fail
        refine (SC.out _).mono ?_; rintro e w3 ⟨v, rfl, ho, hg⟩
        obtain ⟨b, cb, rfl, ht, -⟩ := ho.shape
        have HT := Lib.hid ht
        have HG3 := Lib.hid (Gr.trans HG.out hg)
        have BM := Lib.hid (fun w (h : TksAt w (b) M) => l7_bare b cb M w h (by rw [HM.out]; omega))
        rw [HM.out] at BM ⊢
        clear hg ht ho HG
        go_wp2_with fail
        refine (B.out _ HG3.out).mono ?_; rintro e w4 ⟨a1, c1, rfl, h1, hg⟩
        have H1 := Lib.hid h1
        have HG4 := Lib.hid (Gr.trans HG3.out hg)
        have HT4 := Lib.hid (HT.out.gr hg)
        clear hg h1 HT HG3
        go_wp2_with fail
        refine (BM.out _ HT4.out).mono ?_; rintro e w5 ⟨a2, c2, rfl, h1, hg⟩
        rw [HBB.out] at h1
        have EQ := Lib.hid (sl_SameTk (ca := c1) (cb := c2) (H1.out.gr hg) h1 (by rw [hbl.out]; omega))
        rw [hbl.out] at EQ
        have HG5 := Lib.hid (Gr.trans HG4.out hg)
        clear hg h1 H1 HG4 HT4
        go_wp2_with fail
        refine EQ.out.mono ?_; rintro e w6 ⟨rfl, hg⟩
        have HG6 := Lib.hid (Gr.trans HG5.out hg)
        clear hg EQ HG5
        go_wp2_with fail
        refine (AW.out _).mono ?_; rintro e w7 ⟨rfl, hg⟩
        have HG7 := Lib.hid (Gr.trans HG6.out hg)
        clear hg HG6
        go_wp2
        go_ret
        exact ⟨rfl, HG7.out⟩
      · rw [if_neg h256] at hs
        subst hs
        clear hr h2
        go_enter Tryd.func3, Tryd.ntmps3
        go_wp2_with fail
        refine F.out.mono ?_; rintro e w1 ⟨rfl, rfl⟩
        go_wp2_with fail
        refine (A.out _ (Gr.refl _)).mono ?_; rintro e w2 ⟨rfl, hg⟩
        have HG := Lib.hid hg
        clear hg
        go_wp2_with fail
        refine (SC.out _).mono ?_; rintro e w3 ⟨v, rfl, ho, hg⟩
        obtain ⟨b, cb, rfl, ht, -⟩ := ho.shape
        have HT := Lib.hid ht
        have HG3 := Lib.hid (Gr.trans HG.out hg)
        clear hg ht ho HG
        go_wp2_with fail
        refine (AW.out _).mono ?_; rintro e w4 ⟨rfl, hg⟩
        have HG4 := Lib.hid (Gr.trans HG3.out hg)
        clear hg HG3
        go_wp2
        go_ret
        exact ⟨rfl, HG4.out⟩
    · have z2 : (x2 != 0) = true := by simp [h2]
      clear JS SC h2
      go_enter Tryd.func3, Tryd.ntmps3
      go_wp2_with fail
      refine F.out.mono ?_; rintro e w1 ⟨rfl, rfl⟩
      go_wp2_with fail
      refine (A.out _ (Gr.refl _)).mono ?_; rintro e w2 ⟨rfl, hg⟩
      have HG := Lib.hid hg
      clear hg
      go_wp2_with fail
      refine (AW.out _).mono ?_; rintro e w4 ⟨rfl, hg⟩
      have HG4 := Lib.hid (Gr.trans HG.out hg)
      clear hg HG
      go_wp2
      go_ret
      exact ⟨rfl, HG4.out⟩
end Go.Proofs.YtlcpfhgobfjioaaDoor
