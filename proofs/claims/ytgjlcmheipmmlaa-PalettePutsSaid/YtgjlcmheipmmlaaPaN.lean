/- Law 15: copyOf of the program. -/
import Derived.Test.YtgjlcmheipmmlaaPaL
set_option linter.unusedVariables false
set_option linter.unusedSimpArgs false
namespace Go.Proofs.Ytgjlcmheipmmlaa
open Go.RowKit
open Z
/-- the hues of K's palettes are those of l, and lie in other blocks than g -/
def ChN (g : Nat) (w : World) (K : List PV) (l : List Pl) : Prop := ChL w K l ∧ ∀ k (h : k < K.length) b o s, 0 < K[k].2.2.1 → K[k].2.1 = some ⟨b, o, s⟩ → b ≠ g
theorem rd_set {S : Sh Hu} {w : World} {a : Option Addr} {l : List Hu} {g i : Nat} {u : Value} (h : Rd S w a l) (hne : 0 < l.length → ∀ b o s, a = some ⟨b, o, s⟩ → b ≠ g) : Rd S (w.setCell ⟨g, i, none⟩ u) a l := fun k hk => by
  obtain ⟨b, o, e, hc⟩ := h k hk
  refine ⟨b, o, e, fun j v hj => ?_⟩
  rw [World.cell?_setCell_far w ⟨g, i, none⟩ ⟨b, _, none⟩ u (fun e2 => hne (by omega) b o none e e2.symm)]
  exact hc j v hj
theorem ChN.set {g i : Nat} {w : World} {K : List PV} {l : List Pl} {u : Value} (h : ChN g w K l) : ChN g (w.setCell ⟨g, i, none⟩ u) K l :=
  ⟨⟨h.1.1, fun k h1 h2 => by
    obtain ⟨e1, e2, e3, e4⟩ := h.1.2 k h1 h2
    exact ⟨e1, e2, rd_set e3 (fun h0 b o s e => h.2 k h1 b o s (by rw [e2]; exact h0) e), e4⟩⟩, h.2⟩
theorem ChN.gr {g : Nat} {w w' : World} {K : List PV} {l : List Pl} (h : ChN g w K l) (hg : Gr w w') : ChN g w' K l := ⟨h.1.gr hg, h.2⟩
theorem ChN.put {g : Nat} {w : World} {K : List PV} {l : List Pl} (h : ChN g w K l) {k : Nat} (hk : k < K.length) (hk' : k < l.length) {m : PV} (hm : ChAt w m l[k]) (hne : ∀ b o s, 0 < m.2.2.1 → m.2.1 = some ⟨b, o, s⟩ → b ≠ g) : ChN g w (K.set k m) l := by
  refine ⟨⟨by rw [List.length_set]; exact h.1.1, fun j h1 h2 => ?_⟩, fun j h1 b o s h0 e => ?_⟩
  · by_cases e : k = j
    · subst e; rw [List.getElem_set_self]; exact hm
    · rw [List.getElem_set_ne e]; exact h.1.2 j (by simpa using h1) h2
  · by_cases e2 : k = j
    · subst e2; rw [List.getElem_set_self] at e h0; exact hne b o s h0 e
    · rw [List.getElem_set_ne e2] at e h0; exact h.2 j (by simpa using h1) b o s h0 e
theorem all_set {α : Type} (S : Sh α) : ∀ (l : List α) (k : Nat) (h : k < l.length) (x : α) (j : Nat) (u : Value), j < S.sz → S.enc x = (S.enc l[k]).set j u → S.all (l.set k x) = (S.all l).set (k * S.sz + j) u
  | [], _, h, _, _, _, _, _ => absurd h (by simp)
  | y :: r, 0, _, x, j, u, hj, he => by
    show S.enc x ++ S.all r = (S.enc y ++ S.all r).set (0 * S.sz + j) u
    rw [Nat.zero_mul, Nat.zero_add, List.set_append_left _ _ (by rw [S.hlen]; exact hj), he]; rfl
  | y :: r, k + 1, h, x, j, u, hj, he => by
    have ih := all_set S r k (by simpa using h) x j u hj he
    show S.enc y ++ S.all (r.set k x) = (S.enc y ++ S.all r).set ((k + 1) * S.sz + j) u
    rw [List.set_append_right _ _ (by rw [S.hlen, Nat.add_mul]; omega), S.hlen, show (k + 1) * S.sz + j - S.sz = k * S.sz + j by rw [Nat.add_mul, Nat.one_mul]; omega, ih]
theorem Own.store {α : Type} {S : Sh α} {B g n cap : Nat} {w : World} {l : List α} (h : Own S B w (.slice (some ⟨g, 0, none⟩) n cap) l) {k : Nat} (hk : k < l.length) {x : α} {j : Nat} {u : Value} (hj : j < S.sz) (he : S.enc x = (S.enc l[k]).set j u) : Own S B (w.setCell ⟨g, k * S.sz + j, none⟩ u) (.slice (some ⟨g, 0, none⟩) n cap) (l.set k x) := by
  obtain ⟨h1, h2⟩ := h
  refine ⟨by rw [S.all_len, List.length_set], ?_⟩
  rcases h2 with ⟨e, -⟩ | ⟨g', cap', cur, e, hb, hg, hn1, hn2, hs, ht⟩
  · cases e
  · simp only [Value.slice.injEq, Option.some.injEq, Addr.mk.injEq] at e
    obtain ⟨⟨rfl, -, -⟩, rfl, rfl⟩ := e
    refine .inr ⟨g, cap, cur.setIfInBounds (k * S.sz + j) u, by rw [List.length_set], hb, ?_, by rw [List.length_set]; exact hn1, hn2, by simpa using hs, ?_⟩
    · exact heap_setCell_same w g _ cur S.t u hg
    · rw [List.length_set, all_set S l k hk x j u hj he, ← ht, Array.toList_setIfInBounds, List.take_set]
theorem Own.rd {α : Type} {S : Sh α} {B n cap : Nat} {a : Option Addr} {w : World} {l : List α} (h : Own S B w (.slice a n cap) l) : Rd S w a l := by
  obtain ⟨a', cap', e, hr, -⟩ := h.shape
  simp only [Value.slice.injEq] at e
  rw [e.1]; exact hr
theorem Own.fz {α : Type} {S : Sh α} {B n cap g : Nat} {w : World} {l : List α} (h : Own S B w (.slice (some ⟨g, 0, none⟩) n cap) l) (k : Nat) : w.frozen? ⟨g, k, none⟩ = false := by
  rcases h.row with ⟨e, -⟩ | ⟨g', cp, cur, e, -, hH⟩
  · simp only [Value.slice.injEq] at e; cases e.1
  · simp only [Value.slice.injEq, Option.some.injEq, Addr.mk.injEq] at e
    obtain ⟨⟨rfl, -, -⟩, -, -⟩ := e
    simp [World.frozen?, hH]
theorem Own.cellG {B n cap g : Nat} {w : World} {l : List PV} (h : Own shG B w (.slice (some ⟨g, 0, none⟩) n cap) l) {k : Nat} (hk : k < l.length) : w.cell? ⟨g, k * 2, none⟩ = some (.int .i64 l[k].1) ∧ w.cell? ⟨g, k * 2 + 1, none⟩ = some (psl l[k]) := by
  obtain ⟨b, o, e, hc⟩ := h.rd k hk
  cases e
  have h0 := hc 0 _ rfl
  have h1 := hc 1 _ rfl
  rw [Nat.zero_add] at h0 h1
  exact ⟨h0, h1⟩
set_option maxRecDepth 100000 in
set_option maxHeartbeats 4000000 in
theorem pl_copyOf {a : Option Addr} {M : List PV} {l : List Pl} {cap : Nat} (w : World) (hr : Rd shG w a M) (hc : ChL w M l) (hok : SlOk a cap) (hlen : l.length ≤ 1000) (hin : ∀ g ∈ l, g.2.length ≤ 900000) :
    Calls Try.prog 62 #[.slice a l.length cap] w fun e w' => (∃ v K, e = .returned v ∧ Own shG w.heap.size w' v K ∧ ChL w' K l) ∧ Gr w w' := by
  have hMl := hc.1
  have HC := Lib.hid hc
  have HIN := Lib.hid hin
  have HCL := Lib.hid (sl_CloneP (l := M) (cap := cap) w hr hok (by omega))
  rw [hMl] at HCL
  obtain ⟨n, hn⟩ : ∃ n, n = l.length := ⟨_, rfl⟩
  have HN := Lib.hid hn
  rw [← hn] at hlen HCL ⊢
  have HML := Lib.hid (show M.length = n by omega)
  clear hr hc hok hn hin hMl
  go_enter Try.func62, Try.ntmps62
  go_wp2_with fail
  refine HCL.out.mono ?_; rintro e w1 ⟨⟨v, rfl, ho⟩, hg1⟩
  have HG1 := Lib.hid hg1
  rcases ho.row with ⟨rfl, hM0⟩ | ⟨g, cp, cur, rfl, hgB, hgH⟩
  · have hn0 : n = 0 := by rw [← HML.out, hM0]; rfl
    have HO := Lib.hid ho
    have HCf := Lib.hid (show ChL w1 M l from HC.out.gr hg1)
    clear hg1 ho hM0 HCL hn0
    go_wp2
    refine wp_loop_rounds 1 ?_
    rw [rounds_succ]
    go_wp2
    go_ret
    exact ⟨⟨_, M, rfl, HO.out, HCf.out⟩, HG1.out⟩
  · have HO := Lib.hid (show Own shG w.heap.size w1 (.slice (some ⟨g, 0, none⟩) n cp) M by rw [← HML.out]; exact ho)
    have HGB := Lib.hid hgB
    have HCN : Hid (ChN g w1 M l) := Lib.hid ⟨HC.out.gr hg1, fun k hk b o s h0 e hbg => by
      obtain ⟨e1, e2, e3, e4⟩ := HC.out.2 k hk (by rw [← HC.out.1]; exact hk)
      obtain ⟨b', o', e', hcc⟩ := e3 0 (by rw [← e2]; exact h0)
      rw [e] at e'
      cases e'
      have := cellLt (hcc 0 _ rfl)
      omega⟩
    rw [HML.out]
    clear hg1 ho hgB hgH HCL
    go_wp2
    go_loopw [10] (fun i wr => ∃ (j : Nat) (K : List PV), i = .int .i64 j ∧ j ≤ n ∧ Hid (K.length = n) ∧ Hid (Own shG w.heap.size wr (.slice (some ⟨g, 0, none⟩) n cp) K) ∧ Hid (ChN g wr K l) ∧ Hid (Gr w wr)) (fun i _ => n - (intOf i).toNat)
    case atStart => exact ⟨0, M, rfl, Nat.zero_le _, HML, HO, HCN, HG1⟩
    case round =>
      obtain ⟨j, K, rfl, hj, HKL, HO, HCN, HG⟩ := hrel
      by_cases hlt : j < n
      · have hjK : j < K.length := by rw [HKL.out]; exact hlt
        have hjl : j < l.length := by rw [← HN.out]; exact hlt
        obtain ⟨c0, c1⟩ := HO.out.cellG hjK
        obtain ⟨q1, q2, q3, q4, q5, q6⟩ := HCN.out.1.2 j hjK hjl
        have HM3 := Lib.hid (show ∀ (a' : Option Addr) (c' : Nat) W, Gr wr W → (Rd shH W a' l[j].2) → l[j].2.length ≤ c' → c' ≤ maxLen → SlOk a' c' → ChAt W (K[j].1, a', l[j].2.length, c') l[j] from fun a' c' W hW h1 h2 h3 h4 => ⟨q1, rfl, h1, h2, h3, h4⟩)
        have HKJ := Lib.hid (show ∀ m : PV, m.1 = K[j].1 → shG.enc m = (shG.enc K[j]).set 1 (psl m) from fun m hm => by show [_, _] = [_, _]; rw [hm])
        have HCH := Lib.hid (fun W (hW : Gr wr W) => sl_CloneH (cap := K[j].2.2.2) W (q3.gr hW) q6 (HIN.out _ (List.getElem_mem hjl)))
        rw [psl, q2] at c1
        have HHL := Lib.hid (show l[j].2.length ≤ 900000 from HIN.out _ (List.getElem_mem hjl))
        have hgw := cellLt c0
        obtain ⟨x, hx⟩ : ∃ x, K[j].1 = x := ⟨_, rfl⟩
        rw [hx] at c0 HM3 HKJ
        clear q1 q2 q3 q4 q5 q6 hx
        generalize K[j].2.1 = ha at *
        generalize K[j].2.2.2 = hcap at *
        obtain ⟨hl, hhl⟩ : ∃ hl, l[j].2.length = hl := ⟨_, rfl⟩
        rw [hhl] at c1 HCH HM3 HHL
        have HL2 := Lib.hid hhl
        clear hhl
        obtain ⟨wa, hwa⟩ : ∃ wa, wa = wr.alloc (.cells #[.int .i64 x, .slice ha hl hcap] 39) := ⟨_, rfl⟩
        have hga : Gr wr wa := by rw [hwa]; exact (Gr.refl wr).alloc _
        have HCH1 := Lib.hid (HCH.out wa hga)
        go_wp2_with fail
        rw [← hwa]
        clear hwa
        refine HCH1.out.mono ?_; rintro e w2 ⟨⟨u, rfl, hou⟩, hg2⟩
        have hg12 := hga.trans hg2
        obtain ⟨ua, uc, rfl, hur, hul, hum, hus⟩ := hou.shape
        have d1 := gr_cell hg12 c1
        rw [HL2.out] at hul ⊢
        have hfz := (HO.out.gr hg12).fz (j * 2 + 1)
        have hnb : ∀ b o s, ua = some ⟨b, o, s⟩ → b ≠ g := fun b o s e => by
          rcases hou.row with ⟨e2, -⟩ | ⟨g2, cp2, cur2, e2, hb2, -⟩
          · simp only [Value.slice.injEq] at e2; rw [e2.1] at e; cases e
          · simp only [Value.slice.injEq] at e2; rw [e2.1] at e; cases e
            have := hga.size; omega
        have hO2 := (HO.out.gr hg12).store (k := j) hjK (x := (x, ua, hl, uc)) (j := 1) (u := .slice ua hl uc) (by decide) (HKJ.out _ rfl)
        have hC2 := ((HCN.out.gr hg12).put hjK hjl (HM3.out ua uc w2 hg12 hur hul hum hus) (fun b o s _ e => hnb b o s e)).set (i := j * 2 + 1) (u := .slice ua hl uc)
        have HO2 := Lib.hid hO2
        have HC2 := Lib.hid hC2
        have HG2 := Lib.hid ((HG.out.trans hg12).set (g := g) (o := j * 2 + 1) HGB.out (.slice ua hl uc))
        have HK2 := Lib.hid (show (K.set j (x, ua, hl, uc)).length = n by rw [List.length_set]; exact HKL.out)
        clear hO2 hC2 hou hur hul hum hus hnb hg2 hg12 hga HO HCN HG HKL HCH HCH1 c0 c1 HM3 HKJ
        go_wp2
        go_roundw
        case rel => exact ⟨j + 1, _, by go_num, by omega, HK2, HO2, HC2, HG2⟩
        case measure => simp [intOf]; omega
      · have HCf := Lib.hid HCN.out.1
        clear HCN
        go_wp2
        go_ret
        exact ⟨⟨_, K, rfl, HO.out, HCf.out⟩, HG.out⟩
end Go.Proofs.Ytgjlcmheipmmlaa
