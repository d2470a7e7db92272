/- Law 15: Placed, Without, Put and Drop of the reference. -/
import Derived.Test.YtgjlcmheipmmlaaPbF
set_option linter.unusedVariables false
set_option linter.unusedSimpArgs false
namespace Go.Proofs.Ytgjlcmheipmmlaa
open Go.RowKit
open Z
set_option maxRecDepth 100000 in
set_option maxHeartbeats 4000000 in
theorem r15_Without {a : Option Addr} {M : List PV} {cap : Nat} (c : Int) (w : World) (hr : Rd shG w a M) (hlen : M.length ≤ 4096) :
    Calls Try.prog 66 #[.slice a M.length cap, .int .i64 c] w fun e w' => OwnRet shG w.heap.size w' e (M.filter fun m => decide (m.1 ≠ c)) ∧ Gr w w' := by
  have HR := Lib.hid hr
  obtain ⟨n, hn⟩ : ∃ n, n = M.length := ⟨_, rfl⟩
  have HN := Lib.hid hn
  rw [← hn] at hlen ⊢
  clear hr hn
  go_enter Try.func66, Try.ntmps66
  go_wp2
  go_loopw [5, 6] (fun ow i wr => ∃ j : Nat, i = .int .i64 j ∧ j ≤ n ∧ Hid (Own shG w.heap.size wr ow ((M.take j).filter fun m => decide (m.1 ≠ c))) ∧ Hid (Gr w wr)) (fun _ i _ => n - (intOf i).toNat)
  case atStart => exact ⟨0, rfl, Nat.zero_le _, Lib.hid (by simpa using Own.nil shG _ _), Lib.hid (Gr.refl _)⟩
  case round =>
    obtain ⟨j, rfl, hj, HO, HG⟩ := hrel
    by_cases hlt : j < n
    · have hjl : j < M.length := by rw [← HN.out]; exact hlt
      obtain ⟨b, o, rfl, hcc⟩ := (HR.out.gr HG.out) j hjl
      have c0 : wr.cell? ⟨b, o + j * 2, none⟩ = some (.int .i64 M[j].1) := hcc 0 _ rfl
      have c1 : wr.cell? ⟨b, o + j * 2 + 1, none⟩ = some (.slice M[j].2.1 M[j].2.2.1 M[j].2.2.2) := hcc 1 _ rfl
      have HTK := Lib.hid (show (M.take (j + 1)).filter (fun m => decide (m.1 ≠ c)) = (M.take j).filter (fun m => decide (m.1 ≠ c)) ++ (if decide (M[j].1 ≠ c) = true then [M[j]] else []) by
        rw [List.take_succ_eq_append_getElem hjl, List.filter_append, List.filter_cons]; rfl)
      have HLL := Lib.hid (show ((M.take j).filter fun m => decide (m.1 ≠ c)).length ≤ 4096 from Nat.le_trans (List.length_filter_le _ _) (by rw [List.length_take]; omega))
      clear hcc
      generalize M[j] = x at *
      generalize (M.take j).filter (fun m => decide (m.1 ≠ c)) = xs at *
      have hxl := HLL.out
      by_cases he : x.1 = c
      · have HT2 := Lib.hid (show (M.take (j + 1)).filter (fun m => decide (m.1 ≠ c)) = xs from HTK.out.trans (by simp [he]))
        clear HTK
        rw [he] at c0
        go_wp2
        go_roundw
        case rel => exact ⟨j + 1, by go_num, by omega, Lib.hid (by rw [HT2.out]; exact HO.out), HG⟩
        case measure => simp [intOf]; omega
      · have HT2 := Lib.hid (show (M.take (j + 1)).filter (fun m => decide (m.1 ≠ c)) = xs ++ [x] from HTK.out.trans (by simp [he]))
        have hne : (x.1 == c) = false := by simp [he]
        clear HTK
        go_wp2_with (at_builtin; refine push_s shG rfl _ _ rfl _ xs rfl HO.out HG.out x _ rfl rfl (by omega) ?_; rintro v5 w5 HO5 hg5; have HG5 := Lib.hid hg5; clear hg5)
        go_roundw
        case rel => exact ⟨j + 1, by go_num, by omega, Lib.hid (by rw [HT2.out]; exact HO5.out), HG5⟩
        case measure => simp [intOf]; omega
    · have hjn : j = M.length := by rw [← HN.out]; omega
      have HOe := Lib.hid (show Own shG w.heap.size wr u5 (M.filter fun m => decide (m.1 ≠ c)) by have := HO.out; rwa [hjn, List.take_length] at this)
      clear HO hjn
      go_wp2
      go_ret
      exact ⟨⟨_, rfl, HOe.out⟩, HG.out⟩
theorem idF_iff {l : List Pl} {c : Int} : decide (0 ≤ idF l c) = decide (∃ g ∈ l, g.1 = c) := by
  rw [decide_eq_decide]
  rcases idF_find (l := l) (n := c) with ⟨h1, h2⟩ | ⟨k, hk, h1, h2⟩
  · rw [List.find?_eq_none] at h2
    exact ⟨fun h => by omega, fun ⟨g, hg, e⟩ => absurd (h2 g hg) (by simp [e])⟩
  · have h3 := List.find?_some h2
    exact ⟨fun _ => ⟨_, List.getElem_mem hk, by simpa using h3⟩, fun _ => by omega⟩
set_option maxRecDepth 100000 in
set_option maxHeartbeats 2000000 in
theorem r15_Drop {a : Option Addr} {l : List Pl} {cap : Nat} (c : Int) (w : World) (hr : RdP w a l) (hlen : l.length ≤ 9223372036854775807) (hin : ∀ g ∈ l, g.2.length ≤ 9223372036854775807) :
    Calls Try.prog 25 #[.slice a l.length cap, .int .i64 c] w fun e w' => (∃ v, e = .returned (.tuple #[v, .bool (decide (palR l = 0 ∧ ∃ g ∈ l, g.1 = c)), .int .i64 (palR l)]) ∧ OwnP w.heap.size w' v (if palR l = 0 then dropL l c else [])) ∧ Gr w w' := by
  have HC := Lib.hid (r15_Check (cap := cap) w hr hlen hin)
  by_cases h0 : palR l = 0
  · have HPL := Lib.hid (fun W (hW : Gr w W) => r15_Place (cap := cap) c W (hr.gr hW) hlen)
    obtain ⟨M, hM, hch⟩ := hr
    have hl32 := (palR_zero.1 h0).1
    have HK := Lib.hid (fun W (hW : Gr w W) => r15_Without (cap := cap) c W (hM.gr hW) (by rw [hch.1]; omega))
    rw [hch.1] at HK
    have HCH := Lib.hid (show ChL w (M.filter fun m => decide (m.1 ≠ c)) (dropL l c) from hch.filter fun x => decide (x ≠ c))
    have hix := idF_iff (l := l) (c := c)
    rw [if_pos h0, show decide (palR l = 0 ∧ ∃ g ∈ l, g.1 = c) = decide (0 ≤ idF l c) by rw [hix, decide_eq_decide]; exact ⟨fun h => h.2, fun h => ⟨h0, h⟩⟩, h0]
    rw [h0] at HC
    clear hM hch hlen hin h0 hix
    generalize M.filter (fun m => decide (m.1 ≠ c)) = M' at *
    generalize dropL l c = l' at *
    generalize idF l c = ix at *
    generalize l.length = ml at *
    go_enter Try.func25, Try.ntmps25
    go_wp2_with fail
    refine HC.out.mono ?_; rintro e w1 ⟨rfl, hg1⟩
    have HK1 := Lib.hid (HK.out w1 hg1)
    have HG1 := Lib.hid hg1
    clear hg1 HC HK
    go_wp2_with fail
    refine HK1.out.mono ?_; rintro e w2 ⟨⟨v, rfl, ho⟩, hg2⟩
    have HG2 := Lib.hid (HG1.out.trans hg2)
    have HO2 := Lib.hid (show OwnP w.heap.size w2 v l' from ⟨M', ho.low HG1.out.size, HCH.out.gr HG2.out⟩)
    have HP2 := Lib.hid (HPL.out w2 HG2.out)
    clear ho hg2 HK1 HG1 HPL
    go_wp2_with fail
    refine HP2.out.mono ?_; rintro e w3 ⟨rfl, rfl⟩
    go_wp2
    go_ret3
    exact ⟨⟨_, rfl, HO2.out⟩, HG2.out⟩
  · rw [if_neg h0, decide_eq_false (fun h => h0 h.1)]
    have hz : (palR l == 0) = false := by simp [h0]
    clear hr hlen hin h0
    generalize palR l = E at *
    generalize l.length = ml at *
    go_enter Try.func25, Try.ntmps25
    go_wp2_with fail
    refine HC.out.mono ?_; rintro e w1 ⟨rfl, hg1⟩
    have HG1 := Lib.hid hg1
    clear hg1 HC
    go_wp2
    go_ret3
    exact ⟨⟨_, rfl, OwnP.nil _ _⟩, HG1.out⟩
end Go.Proofs.Ytgjlcmheipmmlaa
