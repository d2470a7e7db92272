/- Law 15: Drop of the program. -/
import Derived.Test.YtgjlcmheipmmlaaPaN
set_option linter.unusedVariables false
set_option linter.unusedSimpArgs false
namespace Go.Proofs.Ytgjlcmheipmmlaa
open Go.RowKit
open Z
theorem ChL.cons {w : World} {m : PV} {M : List PV} {g : Pl} {l : List Pl} : ChL w (m :: M) (g :: l) ↔ ChAt w m g ∧ ChL w M l := by
  constructor
  · intro h
    exact ⟨h.2 0 (by simp) (by simp), by simpa using h.1, fun k h1 h2 => h.2 (k + 1) (by simpa using h1) (by simpa using h2)⟩
  · rintro ⟨h1, h2⟩
    refine ⟨by simpa using h2.1, fun k h3 h4 => ?_⟩
    cases k with
    | zero => exact h1
    | succ k => exact h2.2 k (by simpa using h3) (by simpa using h4)
theorem ChL.filter {w : World} (p : Int → Bool) : ∀ {M : List PV} {l : List Pl}, ChL w M l → ChL w (M.filter fun m => p m.1) (l.filter fun g => p g.1)
  | [], [], _ => ChL.nil w
  | [], _ :: _, h => by have := h.1; simp at this
  | _ :: _, [], h => by have := h.1; simp at this
  | m :: M, g :: l, h => by
    obtain ⟨h1, h2⟩ := ChL.cons.1 h
    rw [List.filter_cons, List.filter_cons, h1.1]
    split
    · exact ChL.cons.2 ⟨h1, ChL.filter p h2⟩
    · exact ChL.filter p h2
theorem ChL.append {w : World} : ∀ {M M' : List PV} {l l' : List Pl}, ChL w M l → ChL w M' l' → ChL w (M ++ M') (l ++ l')
  | [], _, [], _, _, h => h
  | [], _, _ :: _, _, h, _ => by have := h.1; simp at this
  | _ :: _, _, [], _, h, _ => by have := h.1; simp at this
  | m :: M, _, g :: l, _, h, h' => by
    obtain ⟨h1, h2⟩ := ChL.cons.1 h
    exact ChL.cons.2 ⟨h1, h2.append h'⟩
/-- palettes of one's own -/
def OwnP (B : Nat) (w : World) (v : Value) (l : List Pl) : Prop := ∃ K, Own shG B w v K ∧ ChL w K l
theorem OwnP.nil (B : Nat) (w : World) : OwnP B w (.slice none 0 0) [] := ⟨[], Own.nil _ _ _, ChL.nil w⟩
theorem OwnP.shape {B : Nat} {w : World} {v : Value} {l : List Pl} (h : OwnP B w v l) : ∃ a cap, v = .slice a l.length cap ∧ RdP w a l ∧ l.length ≤ cap ∧ cap ≤ maxLen ∧ SlOk a cap := by
  obtain ⟨K, h1, h2⟩ := h
  obtain ⟨a, cap, e, r, h3, h4, h5⟩ := h1.shape
  rw [h2.1] at e h3
  exact ⟨a, cap, e, ⟨K, r, h2⟩, h3, h4, h5⟩
theorem OwnP.gr {B : Nat} {w w' : World} {v : Value} {l : List Pl} (h : OwnP B w v l) (hg : Gr w w') : OwnP B w' v l := by
  obtain ⟨K, h1, h2⟩ := h
  exact ⟨K, h1.gr hg, h2.gr hg⟩
theorem OwnP.low {B B' : Nat} {w : World} {v : Value} {l : List Pl} (h : OwnP B w v l) (hb : B' ≤ B) : OwnP B' w v l := by
  obtain ⟨K, h1, h2⟩ := h
  exact ⟨K, h1.low hb, h2⟩
set_option maxRecDepth 100000 in
theorem pl_Drop1 {q : Nat} {c : Int} (m : PV) (w : World) (hq : w.cell? ⟨q, 0, none⟩ = some (.int .i64 c)) : Calls Try.prog 65 #[.agg #[.int .i64 m.1, .slice m.2.1 m.2.2.1 m.2.2.2], .pointer (some ⟨q, 0, none⟩)] w fun e w' => e = .returned (.bool (decide (m.1 ≠ c))) ∧ Gr w w' := by
  obtain ⟨x, s0, s1, s2⟩ := m
  have hq1 := gr_cell ((Gr.refl w).alloc (.cells #[.int .i64 x, .slice s0 s1 s2] 39)) hq
  have HG := Lib.hid ((Gr.refl w).alloc (.cells #[.int .i64 x, .slice s0 s1 s2] 39))
  clear hq
  show Calls _ _ #[.agg #[.int .i64 x, .slice s0 s1 s2], _] _ _
  by_cases h : x = c
  · rw [decide_eq_false (show ¬ x ≠ c from fun hn => hn h)]
    subst h
    go_enter Try.func65, Try.ntmps65
    go_wp2
    go_ret
    exact ⟨rfl, HG.out⟩
  · rw [decide_eq_true (show x ≠ c from h)]
    go_enter Try.func65, Try.ntmps65
    go_wp2
    go_ret
    exact ⟨ret_bool (by simp [h]), HG.out⟩
set_option maxRecDepth 100000 in
set_option maxHeartbeats 2000000 in
theorem pl_keptP {a : Option Addr} {M : List PV} {cap q : Nat} {c : Int} (w : World) (hr : Rd shG w a M) (hlen : M.length ≤ 4096) (hq : w.cell? ⟨q, 0, none⟩ = some (.int .i64 c)) :
    Calls Try.prog 64 #[.slice a M.length cap, .func (.func 65) #[] #[.pointer (some ⟨q, 0, none⟩)]] w fun e w' => OwnRet shG w.heap.size w' e (M.filter fun m => decide (m.1 ≠ c)) ∧ Gr w w' := by
  have HR := Lib.hid hr
  have HQ := Lib.hid hq
  obtain ⟨n, hn⟩ : ∃ n, n = M.length := ⟨_, rfl⟩
  have HN := Lib.hid hn
  rw [← hn] at hlen ⊢
  clear hr hn hq
  go_enter Try.func64, Try.ntmps64
  go_wp2
  go_loopw [5, 10] (fun ow i wr => ∃ j : Nat, i = .int .i64 j ∧ j ≤ n ∧ Hid (Own shG w.heap.size wr ow ((M.take j).filter fun m => decide (m.1 ≠ c))) ∧ Hid (Gr w wr)) (fun _ i _ => n - (intOf i).toNat)
  case atStart => exact ⟨0, rfl, Nat.zero_le _, Lib.hid (by simpa using Own.nil shG _ _), Lib.hid (Gr.refl _)⟩
  case round =>
    obtain ⟨j, rfl, hj, HO, HG⟩ := hrel
    by_cases hlt : j < n
    · have hjl : j < M.length := by rw [← HN.out]; exact hlt
      obtain ⟨b, o, rfl, hcc⟩ := (HR.out.gr HG.out) j hjl
      have c0 : wr.cell? ⟨b, o + j * 2, none⟩ = some (.int .i64 M[j].1) := hcc 0 _ rfl
      have c1 : wr.cell? ⟨b, o + j * 2 + 1, none⟩ = some (.slice M[j].2.1 M[j].2.2.1 M[j].2.2.2) := hcc 1 _ rfl
      have HTK := Lib.hid (show (M.take (j + 1)).filter (fun m => decide (m.1 ≠ c)) = (M.take j).filter (fun m => decide (m.1 ≠ c)) ++ (if decide (M[j].1 ≠ c) = true then [M[j]] else []) by
        rw [List.take_succ_eq_append_getElem hjl, List.filter_append, List.filter_cons]; rfl)
      have HLL := Lib.hid (show ((M.take j).filter fun m => decide (m.1 ≠ c)).length ≤ 4096 from Nat.le_trans (List.length_filter_le _ _) (by rw [List.length_take]; omega))
      have HRF := Lib.hid (fun W hW => pl_Drop1 (q := q) (c := c) M[j] W hW)
      clear hcc
      generalize M[j] = x at *
      generalize (M.take j).filter (fun m => decide (m.1 ≠ c)) = xs at *
      have hxl := HLL.out
      obtain ⟨wa, hwa⟩ : ∃ wa, wa = wr.alloc (.cells #[.int .i64 x.1, .slice x.2.1 x.2.2.1 x.2.2.2] 39) := ⟨_, rfl⟩
      obtain ⟨p, hp⟩ : ∃ p, p = wr.heap.size := ⟨_, rfl⟩
      have hga : Gr wr wa := by rw [hwa]; exact (Gr.refl wr).alloc _
      have HBX := Lib.hid (show Blk shG wa p x by rw [hwa, hp]; exact Blk.new shG wr x)
      have HR2 := Lib.hid (HRF.out wa (gr_cell (HG.out.trans hga) HQ.out))
      generalize decide (x.1 ≠ c) = D at *
      have HO2 := Lib.hid (HO.out.gr hga)
      have HG2 := Lib.hid (HG.out.trans hga)
      have e0 := HBX.out.cell (k := 0) rfl
      have e1 : wa.cell? ⟨p, 1, none⟩ = some (.slice x.2.1 x.2.2.1 x.2.2.2) := HBX.out.cell (k := 1) rfl
      go_wp2_with fail
      rw [← hwa, ← hp]
      clear hwa hp hga HO HG c0 c1
      go_wp2_with fail
      refine HR2.out.mono ?_; rintro e w3 ⟨rfl, hg3⟩
      have HBX3 := HBX.out.gr hg3
      have f0 := HBX3.cell (k := 0) rfl
      have f1 : w3.cell? ⟨p, 1, none⟩ = some (.slice x.2.1 x.2.2.1 x.2.2.2) := HBX3.cell (k := 1) rfl
      have HO3 := Lib.hid (HO2.out.gr hg3)
      have HG3 := Lib.hid (HG2.out.trans hg3)
      clear hg3 HBX3 HBX HO2 HG2 HRF HR2 e0 e1
      cases D
      · have HT2 := Lib.hid (HTK.out.trans (List.append_nil xs))
        clear HTK
        go_wp2
        go_roundw
        case rel => exact ⟨j + 1, by go_num, by omega, Lib.hid (by rw [HT2.out]; exact HO3.out), HG3⟩
        case measure => simp [intOf]; omega
      · have HT2 := Lib.hid (show _ = xs ++ [x] from HTK.out)
        clear HTK
        go_wp2_with (at_builtin; refine push_s shG rfl _ _ rfl _ xs rfl HO3.out HG3.out x _ rfl rfl (by omega) ?_; rintro v5 w5 HO5 hg5; have HG5 := Lib.hid hg5; clear hg5)
        go_roundw
        case rel => exact ⟨j + 1, by go_num, by omega, Lib.hid (by rw [HT2.out]; exact HO5.out), HG5⟩
        case measure => simp [intOf]; omega
    · have hjn : j = M.length := by rw [← HN.out]; omega
      have HOe := Lib.hid (show Own shG w.heap.size wr u5 (M.filter fun m => decide (m.1 ≠ c)) by have := HO.out; rwa [hjn, List.take_length] at this)
      clear HO hjn
      go_wp2
      go_ret
      exact ⟨⟨_, rfl, HOe.out⟩, HG.out⟩
def dropL (l : List Pl) (c : Int) : List Pl := l.filter fun g => decide (g.1 ≠ c)
theorem drop_less {l : List Pl} {c : Int} : decide ((dropL l c).length < l.length) = decide (∃ g ∈ l, g.1 = c) := by
  rw [decide_eq_decide]
  unfold dropL
  rw [List.length_filter_lt_length_iff_exists]
  simp
theorem dropL_ok {l : List Pl} {c : Int} (h : palR l = 0) : palR (dropL l c) = 0 := by
  rw [palR_zero] at h ⊢
  exact ⟨Nat.le_trans (List.length_filter_le _ _) h.1, fun g hg => h.2.1 g (List.mem_filter.1 hg).1, h.2.2.filter _⟩
set_option maxRecDepth 100000 in
set_option maxHeartbeats 2000000 in
theorem pl_Drop {a : Option Addr} {l : List Pl} {cap : Nat} (c : Int) (w : World) (hr : RdP w a l) (hlen : l.length ≤ 9223372036854775807) (hin : ∀ g ∈ l, g.2.length ≤ 9223372036854775807) :
    Calls Try.prog 24 #[.slice a l.length cap, .int .i64 c] w fun e w' => (∃ v, e = .returned (.tuple #[v, .bool (decide (palR l = 0 ∧ ∃ g ∈ l, g.1 = c)), .int .i64 (palR l)]) ∧ OwnP w.heap.size w' v (if palR l = 0 then dropL l c else [])) ∧ Gr w w' := by
  obtain ⟨wb, hwb⟩ : ∃ wb, wb = w.alloc (.cells #[.int .i64 c] 3) := ⟨_, rfl⟩
  obtain ⟨q, hq⟩ : ∃ q, q = w.heap.size := ⟨_, rfl⟩
  have hgb : Gr w wb := by rw [hwb]; exact (Gr.refl w).alloc _
  have HQ := Lib.hid (show wb.cell? ⟨q, 0, none⟩ = some (.int .i64 c) by rw [hwb, hq]; exact fresh w [.int .i64 c] _ (k := 0) rfl)
  have HC := Lib.hid (pl_Check (cap := cap) wb (hr.gr hgb) hlen hin)
  have HGB := Lib.hid hgb
  have hmf : ∀ (fn : Fn) (first cap : Array Value) (w : World), (Instr.makeFunc fn first cap).run Try.prog w = .ok (.func fn first cap) w := fun _ _ _ _ => rfl
  by_cases h0 : palR l = 0
  · obtain ⟨M, hM, hch⟩ := hr
    have hb := palR_zero.1 h0
    have hl32 := hb.1
    have HK := Lib.hid (fun W (hW : Gr wb W) => pl_keptP (cap := cap) (q := q) (c := c) W (hM.gr (hgb.trans hW)) (by rw [hch.1]; omega) (gr_cell hW HQ.out))
    rw [hch.1] at HK
    have HCH := Lib.hid (show ChL wb (M.filter fun m => decide (m.1 ≠ c)) (dropL l c) from (hch.gr hgb).filter fun x => decide (x ≠ c))
    have HIN := Lib.hid (show ∀ g ∈ dropL l c, g.2.length ≤ 900000 from fun g hg => Nat.le_trans (huR_zero.1 (hb.2.1 g (List.mem_filter.1 hg).1).2).1 (by omega))
    have HLD := Lib.hid (show (dropL l c).length ≤ 1000 from Nat.le_trans (List.length_filter_le _ _) (by omega))
    have hless := drop_less (l := l) (c := c)
    rw [if_pos h0, show decide (palR l = 0 ∧ ∃ g ∈ l, g.1 = c) = decide ((dropL l c).length < l.length) by rw [hless, decide_eq_decide]; exact ⟨fun h => h.2, fun h => ⟨h0, h⟩⟩, h0]
    rw [h0] at HC
    clear hM hch hb hlen hin h0 hgb hless
    generalize M.filter (fun m => decide (m.1 ≠ c)) = M' at *
    generalize dropL l c = l' at *
    generalize l.length = ml at *
    go_enter Try.func24, Try.ntmps24
    go_wp2_with fail
    rw [← hwb, ← hq]
    clear hwb hq
    refine HC.out.mono ?_; rintro e w1 ⟨rfl, hg1⟩
    have HK1 := Lib.hid (HK.out w1 hg1)
    have HG1 := Lib.hid (HGB.out.trans hg1)
    have HC1 := Lib.hid (HCH.out.gr hg1)
    clear hg1 HC HK HCH
    go_wp2_with fail
    refine HK1.out.mono ?_; rintro e w2 ⟨⟨v, rfl, ho⟩, hg2⟩
    obtain ⟨a2, c2, rfl, r2, l2, m2, s2⟩ := ho.shape
    have HC2 := HC1.out.gr hg2
    have HCO := Lib.hid (pl_copyOf (cap := c2) w2 r2 HC2 s2 HLD.out HIN.out)
    have HG2 := Lib.hid (HG1.out.trans hg2)
    rw [HC2.1]
    clear ho r2 HC2 s2 l2 m2 hg2 HK1 HC1 HG1
    obtain ⟨n, hn⟩ : ∃ n, l'.length = n := ⟨_, rfl⟩
    rw [hn] at HCO ⊢
    have HN := Lib.hid hn
    clear hn
    go_wp2_with fail
    refine HCO.out.mono ?_; rintro e w3 ⟨⟨v3, K, rfl, ho3, hc3⟩, hg3⟩
    have HO3 := Lib.hid (show OwnP w.heap.size w3 v3 l' from ⟨K, ho3.low HG2.out.size, hc3⟩)
    have HG3 := Lib.hid (HG2.out.trans hg3)
    clear ho3 hc3 hg3 HCO HG2
    go_wp2
    go_ret3
    exact ⟨⟨_, by simp [HN.out], HO3.out⟩, HG3.out⟩
  · rw [if_neg h0, decide_eq_false (fun h => h0 h.1)]
    have hz : (palR l == 0) = false := by simp [h0]
    clear hr hlen hin h0 hgb
    generalize palR l = E at *
    generalize l.length = ml at *
    go_enter Try.func24, Try.ntmps24
    go_wp2_with fail
    rw [← hwb, ← hq]
    clear hwb hq
    refine HC.out.mono ?_; rintro e w1 ⟨rfl, hg1⟩
    have HG1 := Lib.hid (HGB.out.trans hg1)
    clear hg1 HC
    go_wp2
    go_ret3
    exact ⟨⟨_, rfl, OwnP.nil _ _⟩, HG1.out⟩
end Go.Proofs.Ytgjlcmheipmmlaa
