/- GlRT: GlR, GlS, GlT, joined. -/
import Derived.Test.YtflkgkchoagphaaGreatDoorGlH
import Derived.Test.YtflkgkchoagphaaGreatDoorGlMN
import Derived.Test.YtflkgkchoagphaaGreatDoorRange3
set_option linter.unusedVariables false
set_option linter.unusedSimpArgs false

/- The iterator over knots and those behind them. -/
namespace Go.Proofs.YtflkgkchoagphaaGreatDoor
open Go.RowKit Go.Shelf Go.Deep
open Z
attribute [local go_sem] Oper.semAt_some

abbrev vKn (k : Kn) : Value := .agg #[.int .i64 k.1, .string k.2]
def succK (a : Option Addr) (l : List Kn) (cap k : Nat) : Array Value := match l[k]? with
  | some g => #[vKn g, .slice (tlA a cap k 2) (l.length - (k + 1)) (cap - (k + 1))]
  | none => #[.bool false, .bool false]
theorem succK_size (a : Option Addr) (l : List Kn) (cap k : Nat) : (succK a l cap k).size = 2 := by unfold succK; split <;> rfl
theorem succK_at {a : Option Addr} {l : List Kn} {cap k : Nat} (h : k < l.length) : succK a l cap k = #[vKn l[k], .slice (tlA a cap k 2) (l.length - (k + 1)) (cap - (k + 1))] := by
  unfold succK; rw [List.getElem?_eq_getElem h]
set_option maxHeartbeats 2000000 in
set_option maxRecDepth 100000 in
theorem k_rounds (l : List Kn) (a : Option Addr) (cap : Nat) (Bs : Nat) (S : Nat → Prop) (w0 : World) (hr : RdK w0 a l) (hcap : l.length ≤ cap) (hcm : cap ≤ maxLen) (hS : S Bs) (hSa : ∀ g off, l ≠ [] → a = some ⟨g, off, none⟩ → S g) (hSz : ∀ k, S k → k < w0.heap.size)
    (hB : w0.cell? ⟨Bs, 0, none⟩ = some (.slice a l.length cap)) (hlen : l.length ≤ 3000) :
    RoundsA Tryz.prog 97 #[.pointer (some ⟨Bs, 0, none⟩)] (succK a l cap) l.length S w0 := by
  unfold maxLen at hcm
  intro y J Jx W hW hA hY h0
  have HCB := Lib.hid (fun X (hX : KeepB S w0 X) => ((hX.cell (p := ⟨Bs, 0, none⟩) hS).trans hB : X.cell? ⟨Bs, 0, none⟩ = some (.slice a l.length cap)))
  have HBL : Hid (∀ X, KeepB S w0 X → Bs < X.heap.size) := fun X hX => cell_lt (HCB.out X hX)
  have HR := Lib.hid hr; clear hr
  have HY := Lib.hid hY; clear hY
  have HA := Lib.hid hA; clear hA
  have HSA := Lib.hid hSa; clear hSa
  have HSZ : Hid (∀ X, KeepB S w0 X → ∀ k, S k → k < X.heap.size) := fun X hX k hk => by
    have h1 := hX k hk
    rcases Nat.lt_or_ge k X.heap.size with h | h
    · exact h
    · rw [Array.getElem?_eq_none h] at h1
      have := hSz k hk
      rw [Array.getElem?_eq_getElem this] at h1; cases h1
  clear hSz
  have hc0 := HCB.out W hW
  refine callsIn_of_wp Tryz.func97 rfl trivial ?_ rfl
  simp only [Tryz.ntmps97, List.size_toArray, List.length_cons, List.length_nil, Nat.reduceAdd, Nat.reduceSub, Array.replicate_succ, Array.replicate_zero, List.push_toArray, List.append_toArray, List.nil_append, List.cons_append]
  gi_wp2
  gi_loopw [3, 4, 7] (fun _ _ i wr => ∃ k : Nat, i = .int .i64 k ∧ k ≤ l.length ∧ Hid (J k wr) ∧ KeepB S w0 wr) (fun _ _ i _ => l.length - (intOf i).toNat)
  case atStart => exact ⟨0, rfl, Nat.zero_le _, h0, hW⟩
  case round =>
    obtain ⟨k, rfl, hk, HJ, hnx⟩ := hrel
    by_cases hlt : k < l.length
    · obtain ⟨b, o, hb, hat⟩ := HR.out k hlt
      have hSb := HSA.out b o (fun e => by rw [e] at hlt; simp at hlt) hb
      have hbl := HBL.out wr hnx
      have hbb := HSZ.out wr hnx b hSb
      obtain ⟨k0, k1⟩ := hat
      have c0 := (hnx.cell (p := ⟨b, o + k * 2, none⟩) hSb).trans k0
      have c1 := (hnx.cell (p := ⟨b, o + k * 2 + 1, none⟩) hSb).trans k1
      clear k0 k1
      have hcx := HCB.out wr hnx
      have HX : Hid (Gr wr ((wr.alloc (.cells #[.int .i64 l[k].1, .string l[k].2] 64)).drew)) := ((Gr.refl wr).alloc _).drew
      have HK2 : Hid (KeepB S wr ((wr.alloc (.cells #[.int .i64 l[k].1, .string l[k].2] 64)).drew)) := KeepB.gr HX.out (HSZ.out wr hnx)
      obtain ⟨fn, tmps, assign, body, hy, hR⟩ := HY.out k _ hlt (HA.out k _ _ HX.out HJ.out)
      rw [succK_at hlt] at hy
      unfold tlA at hy
      generalize l[k] = g at *
      obtain ⟨x, s⟩ := g
      simp only at c0 c1 hy hR
      have hcx' : (wr.alloc (.cells #[.int .i64 x, .string s] 64)).cell? ⟨Bs, 0, none⟩ = some (.slice a l.length cap) := by rw [World.cell?_alloc_old _ _ _ (by simp; omega)]; exact hcx
      subst hb
      have q1 : IntKind.i64.wrap ((k : Int) + 1) = (k : Int) + 1 := IntWalk.i64_in _ (by omega)
      have q2 : (0 : Int) ≤ (k : Int) + 1 := by omega
      have q3 : (k : Int) + 1 ≤ l.length := by omega
      have q4 : ((k : Int) + 1).toNat = k + 1 := by omega
      by_cases hcp : cap = k + 1
      · rw [if_pos hcp] at hy
        subst hcp
        rw [Nat.sub_self, show l.length - (k + 1) = 0 by omega] at hy
        gi_wp2
        gi_region_with ((refine hR.mono ?_; rintro e W3 hE0; obtain ⟨bb, rfl, hE⟩ := two_ways hE0; clear hE0))
        all_goals
          clear q1 q2 q3 q4
          rcases hE with ⟨rfl, hJ3, hk3⟩ | ⟨rfl, hJx3⟩
          · have HJ3 := Lib.hid hJ3; clear hJ3
            have HK3 := Lib.hid (hnx.trans (HK2.out.trans hk3)); clear hk3
            gi_wp2
            go_roundw
            case rel => exact ⟨k + 1, by go_num, by omega, HJ3.out, HK3.out⟩
            case measure => simp [intOf]; omega
          · have HX3 := Lib.hid hJx3; clear hJx3
            gi_wp2
            refine bodyPost_ret (results_none rfl _ _ _) rfl ?_
            exact ⟨⟨_, rfl⟩, .inr HX3.out⟩
      · rw [if_neg hcp] at hy
        simp only [Option.map_some, WideShapes.add_plain] at hy
        gi_wp2
        gi_region_with ((refine hR.mono ?_; rintro e W3 hE0; obtain ⟨bb, rfl, hE⟩ := two_ways hE0; clear hE0))
        all_goals
          clear q1 q2 q3 q4
          rcases hE with ⟨rfl, hJ3, hk3⟩ | ⟨rfl, hJx3⟩
          · have HJ3 := Lib.hid hJ3; clear hJ3
            have HK3 := Lib.hid (hnx.trans (HK2.out.trans hk3)); clear hk3
            gi_wp2
            go_roundw
            case rel => exact ⟨k + 1, by go_num, by omega, HJ3.out, HK3.out⟩
            case measure => simp [intOf]; omega
          · have HX3 := Lib.hid hJx3; clear hJx3
            gi_wp2
            refine bodyPost_ret (results_none rfl _ _ _) rfl ?_
            exact ⟨⟨_, rfl⟩, .inr HX3.out⟩
    · have hkn : k = l.length := by omega
      subst hkn
      gi_wp2
      go_end0
      exact ⟨⟨_, rfl⟩, .inl HJ.out⟩
set_option maxHeartbeats 400000 in
theorem gk_succ (a : Option Addr) (n c : Nat) (w : World) :
    Calls Tryz.prog 71 #[.slice a n c] w fun e w' => e = .returned (.func (.func 97) #[] #[.pointer (some ⟨w.heap.size, 0, none⟩)]) ∧ w' = w.alloc (.cells #[.slice a n c] 50) := by
  have hmf : ∀ (fn : Fn) (first cap : Array Value) (w : World), (Instr.makeFunc fn first cap).run Tryz.prog w = .ok (.func fn first cap) w := fun _ _ _ _ => rfl
  go_enter Tryz.func71, Tryz.ntmps71
  go_wp2
  go_ret
  exact ⟨rfl, rfl⟩
end Go.Proofs.YtflkgkchoagphaaGreatDoor

/- The errors of knots, both sides. -/
namespace Go.Proofs.YtflkgkchoagphaaGreatDoor
open Go.RowKit Go.Shelf Go.Deep
open Z

/-- a knot's own error -/
def knE (k : Kn) : Int := if k.1 < 0 ∨ 20000000 < k.1 then 2 else compE k.2
def kstE (l : List Kn) (k : Nat) : Int := match l[k]? with
  | none => 0
  | some g => if knE g ≠ 0 then knE g else if k = 0 then 0 else match l[k - 1]? with
    | none => 0
    | some p => if g.1 < p.1 then 9 else 0
def knsE (l : List Kn) : Int := if 512 < l.length then 5 else firstE ((List.range l.length).map (kstE l))
def bendE (l : List Kn) : Int := if l.length = 0 then 12 else knsE l
theorem kstE_at {l : List Kn} {k : Nat} (hk : k < l.length) : kstE l k = if knE l[k] ≠ 0 then knE l[k] else if k = 0 then 0 else (if (l[k]).1 < (l[k - 1]'(by omega)).1 then 9 else 0) := by
  unfold kstE
  rw [List.getElem?_eq_getElem hk, List.getElem?_eq_getElem (show k - 1 < l.length by omega)]
theorem knsE_many {l : List Kn} (hl : 512 < l.length) : knsE l = 5 := by unfold knsE; rw [if_pos hl]
theorem knsE_step {l : List Kn} {k : Nat} {r : Int} (hl : ¬ 512 < l.length) (hr : knsE l = r) (hk : k < l.length) (h : ∀ j, j < k → kstE l j = 0) {c : Int} (hc : kstE l k = c) (hne : c ≠ 0) : r = c := by
  rw [← hr]; unfold knsE; rw [if_neg hl]
  have := firstE_at (l := (List.range l.length).map (kstE l)) (k := k) (by simpa using hk) (fun j hj hjk => by simpa using h j hjk) (by simpa [hc] using hne)
  rw [this]; simpa using hc
theorem knsE_ok {l : List Kn} (hl : ¬ 512 < l.length) (h : ∀ j, j < l.length → kstE l j = 0) : knsE l = 0 := by
  unfold knsE; rw [if_neg hl]
  exact firstE_all fun j hj => by simpa using h j (by simpa using hj)
theorem knsE_zero {l : List Kn} (h : knsE l = 0) : l.length ≤ 512 ∧ ∀ j, j < l.length → kstE l j = 0 := by
  by_cases hl : 512 < l.length
  · rw [knsE_many hl] at h; omega
  · refine ⟨by omega, fun j => ?_⟩
    induction j using Nat.strongRecOn with
    | _ j ih =>
      intro hj
      by_cases hne : kstE l j = 0
      · exact hne
      · exact absurd (knsE_step hl h hj (fun i hi => ih i hi (by omega)) rfl hne).symm hne
theorem kstE_first {l : List Kn} {k : Nat} (hk : k < l.length) (h0 : k = 0) (he : knE l[k] = 0) : kstE l k = 0 := by rw [kstE_at hk, if_neg (by simpa using he), if_pos h0]
theorem kstE_err {l : List Kn} {k : Nat} {c : Int} (hk : k < l.length) (he : knE l[k] = c) (hc : c ≠ 0) : kstE l k = c := by rw [kstE_at hk, if_pos (by rw [he]; exact hc), he]
theorem kstE_lo {l : List Kn} {j k : Nat} (hk : k < l.length) (hj : k = j + 1) (he : knE l[k] = 0) (h : (l[k]).1 < (l[j]'(by omega)).1) : kstE l k = 9 := by
  subst hj
  rw [kstE_at hk, if_neg (by simpa using he), if_neg (by omega)]; exact if_pos h
theorem kstE_in {l : List Kn} {j k : Nat} (hk : k < l.length) (hj : k = j + 1) (he : knE l[k] = 0) (h : ¬ (l[k]).1 < (l[j]'(by omega)).1) : kstE l k = 0 := by
  subst hj
  rw [kstE_at hk, if_neg (by simpa using he), if_neg (by omega)]; exact if_neg h
theorem knE_out {x : Int} {s : ByteArray} (h : x < 0 ∨ 20000000 < x) : knE (x, s) = 2 := if_pos h
theorem knE_in {x : Int} {s : ByteArray} (h : ¬ (x < 0 ∨ 20000000 < x)) : knE (x, s) = compE s := if_neg h
section
variable {w0 : World}
set_option maxHeartbeats 4000000 in
set_option maxRecDepth 100000 in
theorem ret3_Bends {a : Option Addr} {l : List Kn} {cap : Nat} (hc : RdK w0 a l) (hf : 512 < l.length ∨ ∀ k ∈ l, k.2.size ≤ 400000) (hlm : l.length ≤ maxLen) : Ret w0 72 #[.slice a l.length cap] (.int .i64 (bendE l)) := by
  unfold maxLen at hlm
  unfold bendE
  by_cases h0 : l.length = 0
  · rw [if_pos h0, h0]
    clear hc hf hlm h0
    intro w hg
    have HG := Lib.hid hg; clear hg
    go_enter Tryz.func72, Tryz.ntmps72
    go_wp2
    go_ret
    exact ⟨rfl, HG.out⟩
  · rw [if_neg h0]
    by_cases hm : 512 < l.length
    · rw [knsE_many hm]
      clear hc hf
      generalize l.length = n at *
      intro w hg
      have HG := Lib.hid hg; clear hg
      go_enter Tryz.func72, Tryz.ntmps72
      go_wp2
      go_ret
      exact ⟨rfl, HG.out⟩
    · have HC := Lib.hid hc
      have HS := Lib.hid (hf.resolve_left hm)
      clear hc hf
      obtain ⟨r, hr⟩ : ∃ r, knsE l = r := ⟨_, rfl⟩
      have HST := Lib.hid (fun (k : Nat) (hk : k < l.length) (h : ∀ j, j < k → kstE l j = 0) (c : Int) (hc : kstE l k = c) (hne : c ≠ 0) => knsE_step hm hr hk h hc hne)
      have HEND : Hid ((∀ j, j < l.length → kstE l j = 0) → r = 0) := fun h => by rw [← hr]; exact knsE_ok hm h
      rw [hr]
      clear hr
      obtain ⟨n, hn⟩ : ∃ n, n = l.length := ⟨_, rfl⟩
      have HN := Lib.hid hn
      rw [← hn]
      have hn512 : n ≤ 512 := by omega
      have hn0 : ((n : Int) == 0) = false := by simp; omega
      clear hn hlm hm h0
      intro w hg
      have HG := Lib.hid hg; clear hg
      go_enter Tryz.func72, Tryz.ntmps72
      go_wp2
      go_loopw [3, 4] (fun i _ wr => ∃ k : Nat, i = .int .i64 k ∧ k ≤ n ∧ Hid (Gr w0 wr) ∧ Hid (∀ j, j < k → kstE l j = 0)) (fun i _ _ => n - (intOf i).toNat)
      case atStart => exact ⟨0, rfl, Nat.zero_le _, HG.out, fun j h => absurd h (by omega)⟩
      case round =>
        clear HG
        obtain ⟨k, rfl, hk, HG, HK⟩ := hrel
        by_cases hlt : k < n
        · have hkl : k < l.length := by rw [← HN.out]; exact hlt
          obtain ⟨b, o, rfl, hat⟩ := HC.out k hkl
          have S1 := fun h0 he => kstE_first hkl h0 he
          have S2 := fun c he hc => kstE_err (c := c) hkl he hc
          have S3 := fun (j : Nat) hj he h => kstE_lo (j := j) hkl hj he h
          have S4 := fun (j : Nat) hj he h => kstE_in (j := j) hkl hj he h
          have hs := HS.out _ (List.getElem_mem hkl)
          generalize hgk : l[k] = g at *
          obtain ⟨x, s⟩ := g
          have HA := Lib.hid hat; clear hat
          obtain ⟨c0, c1⟩ := HA.out.gr HG.out
          by_cases hx : x < 0 ∨ 20000000 < x
          · have HR := Lib.hid (HST.out _ hkl HK.out _ (S2 2 (knE_out hx) (by omega)) (by omega))
            clear S1 S2 S3 S4 hs hgk
            rcases hx with hx | hx
            · go_wp2
              go_ret
              exact ⟨ret_int HR.out.symm, HG.out⟩
            · have hx0 : ¬ x < 0 := by omega
              go_wp2
              go_ret
              exact ⟨ret_int HR.out.symm, HG.out⟩
          · have hke := knE_in (s := s) hx
            have K := ret3_Level (w0 := w0) (s := s) hs
            obtain ⟨hx0, hx1⟩ : 0 ≤ x ∧ x ≤ 20000000 := by omega
            clear hx
            by_cases he : compE s = 0
            · rw [he] at K
              have K := Lib.hid K
              rw [he] at hke
              rcases Nat.eq_zero_or_pos k with hk0 | hk0
              · have H0 := Lib.hid (S1 hk0 hke)
                have hz : decide (0 < k) = false := by simp; omega
                clear S1 S2 S3 S4 hs he hgk hke hk0
                go_wp2_with fail
                refine (K.out _ HG.out).mono ?_
                rintro e w1 ⟨rfl, hg⟩
                replace HG := Lib.hid hg; clear hg c0 c1
                obtain ⟨c0, c1⟩ := HA.out.gr HG.out
                go_wp2
                go_quiet (fail)
                rename_i nq
                replace HG := Lib.hid (below_drewN HG.out nq)
                clear c0 c1
                generalize w1.drewN nq = w2 at *
                go_wp2
                go_roundw
                case rel =>
                  refine ⟨k + 1, by go_num, by omega, HG.out, fun j h => ?_⟩
                  by_cases hjk : j = k
                  · subst hjk; exact H0.out
                  · exact HK.out j (by omega)
                case measure => simp [intOf]; omega
              · obtain ⟨j, hj⟩ : ∃ j, k = j + 1 := ⟨k - 1, by omega⟩
                have T3 := S3 j hj hke
                have T4 := S4 j hj hke
                have hjl : j < l.length := by omega
                obtain ⟨b', o', hb', hdt⟩ := HC.out j hjl
                obtain ⟨rfl, rfl⟩ : b = b' ∧ o = o' := by simpa using hb'
                generalize hgj : l[j] = p at *
                obtain ⟨px, ps⟩ := p
                have HD := Lib.hid hdt; clear hdt
                have hz : 0 < k := by omega
                have hw1 : IntKind.i64.wrap ((k : Int) - 1) = (j : Int) := by rw [IntWalk.i64_in _ (by omega)]; omega
                have hjn : (j : Int) < n := by omega
                by_cases hlo : x < px
                · have HR := Lib.hid (HST.out _ hkl HK.out _ (T3 hlo) (by omega))
                  clear S1 S2 S3 S4 T3 T4 hs he hgk hgj hke hk0 hj hjl
                  go_wp2_with fail
                  refine (K.out _ HG.out).mono ?_
                  rintro e w1 ⟨rfl, hg⟩
                  replace HG := Lib.hid hg; clear hg c0 c1
                  obtain ⟨c0, c1⟩ := HA.out.gr HG.out
                  obtain ⟨d0, d1⟩ := HD.out.gr HG.out
                  go_wp2
                  go_quiet (fail)
                  rename_i nq
                  replace HG := Lib.hid (below_drewN HG.out nq)
                  clear c0 c1 d0 d1
                  generalize w1.drewN nq = w2 at *
                  go_wp2
                  go_ret
                  exact ⟨ret_int HR.out.symm, HG.out⟩
                · have H0 := Lib.hid (T4 hlo)
                  clear S1 S2 S3 S4 T3 T4 hs he hgk hgj hke hk0 hj hjl
                  go_wp2_with fail
                  refine (K.out _ HG.out).mono ?_
                  rintro e w1 ⟨rfl, hg⟩
                  replace HG := Lib.hid hg; clear hg c0 c1
                  obtain ⟨c0, c1⟩ := HA.out.gr HG.out
                  obtain ⟨d0, d1⟩ := HD.out.gr HG.out
                  go_wp2
                  go_quiet (fail)
                  rename_i nq
                  replace HG := Lib.hid (below_drewN HG.out nq)
                  clear c0 c1 d0 d1
                  generalize w1.drewN nq = w2 at *
                  go_wp2
                  go_roundw
                  case rel =>
                    refine ⟨k + 1, by go_num, by omega, HG.out, fun i h => ?_⟩
                    by_cases hij : i = k
                    · subst hij; exact H0.out
                    · exact HK.out i (by omega)
                  case measure => simp [intOf]; omega
            · have HR := Lib.hid (HST.out _ hkl HK.out _ (S2 _ hke he) he)
              have hne : (compE s != 0) = true := by simpa using he
              have K := Lib.hid K
              clear S1 S2 S3 S4 hs hgk hke
              generalize compE s = c at *
              go_wp2_with fail
              refine (K.out _ HG.out).mono ?_
              rintro e w1 ⟨rfl, hg⟩
              replace HG := Lib.hid hg; clear hg c0 c1
              obtain ⟨c0, c1⟩ := HA.out.gr HG.out
              go_wp2
              go_ret
              exact ⟨ret_int HR.out.symm, HG.out⟩
        · have HR := Lib.hid (HEND.out fun j hj => HK.out j (by have := HN.out; omega))
          go_wp2
          go_ret
          exact ⟨ret_int HR.out.symm, HG.out⟩
end
theorem KnAt.new (w : World) (x : Int) (s : ByteArray) (t : TypeId) : KnAt (w.alloc (.cells #[.int .i64 x, .string s] t)) w.heap.size 0 (x, s) := ⟨by simp, by simp⟩
theorem one_limK {w0 : World} (n : Int) (w : World) (hg : Gr w0 w) : Calls Tryz.prog 95 #[.slice (some ⟨w.heap.size, 0, none⟩) 1 1] (w.alloc (.cells #[.int .i64 n, .int .i64 20000000] 136)) fun e w' => e = .returned (.int .i64 (if n < 0 ∨ 20000000 < n then 2 else 0)) ∧ Gr w w' ∧ Gr w0 w' := by
  have H := gl_checkInts w.heap.size [(n, 20000000)] (w.alloc (.cells #[.int .i64 n, .int .i64 20000000] 136)) (by simp) (lims_one _ _ _ _)
  have he : (if [(n, (20000000 : Int))].all okL = true then (0 : Int) else 2) = if n < 0 ∨ 20000000 < n then 2 else 0 := by
    simp only [List.all, okL, Bool.and_true, Bool.and_eq_true, decide_eq_true_eq]
    by_cases h : n < 0 ∨ 20000000 < n
    · rw [if_pos h, if_neg (by omega)]
    · rw [if_neg h, if_pos (by omega)]
  rw [he] at H
  refine H.mono ?_
  rintro e w1 ⟨rfl, hg1⟩
  exact ⟨rfl, Gr.trans ((Gr.refl w).alloc _) hg1, Gr.trans (hg.alloc _) hg1⟩
section
variable {w0 : World} (htab : Tab w0) (hmx : Mx w0) (herr : ErrR w0)
include htab hmx herr
set_option maxHeartbeats 4000000 in
set_option maxRecDepth 100000 in
theorem ret_checkKnots {a : Option Addr} {l : List Kn} {cap : Nat} (hc : RdK w0 a l) (hf : 512 < l.length ∨ ∀ k ∈ l, k.2.size ≤ 400000) (hlm : l.length ≤ maxLen) : Ret w0 70 #[.slice a l.length cap] (.int .i64 (knsE l)) := by
  unfold maxLen at hlm
  by_cases hm : 512 < l.length
  · rw [knsE_many hm]
    clear hc hf htab hmx herr
    generalize l.length = n at *
    intro w hg
    have HG := Lib.hid hg; clear hg
    go_enter Tryz.func70, Tryz.ntmps70
    go_wp2
    go_ret
    exact ⟨rfl, HG.out⟩
  · have HC := Lib.hid hc
    have HS := Lib.hid (hf.resolve_left hm)
    clear hc hf
    obtain ⟨r, hr⟩ : ∃ r, knsE l = r := ⟨_, rfl⟩
    have HST := Lib.hid (fun (k : Nat) (hk : k < l.length) (h : ∀ j, j < k → kstE l j = 0) (c : Int) (hc : kstE l k = c) (hne : c ≠ 0) => knsE_step hm hr hk h hc hne)
    have HEND : Hid ((∀ j, j < l.length → kstE l j = 0) → r = 0) := fun h => by rw [← hr]; exact knsE_ok hm h
    rw [hr]
    clear hr
    obtain ⟨n, hn⟩ : ∃ n, n = l.length := ⟨_, rfl⟩
    have HN := Lib.hid hn
    rw [← hn]
    have hn512 : n ≤ 512 := by omega
    clear hn hlm hm
    have CK := Lib.hid (fun (s : ByteArray) (hs : s.size ≤ 400000) => RetG.of4 (w0 := w0) fun w1 h => ret_checkLevel (htab_gr htab h) (hmx.gr h) (herr.gr h) hs)
    have CI := Lib.hid (fun (x : Int) (w : World) (hg : Gr w0 w) => one_limK x w hg)
    clear htab hmx herr
    intro w hg
    have HG := Lib.hid hg; clear hg
    go_enter Tryz.func70, Tryz.ntmps70
    go_wp2
    go_loopw [3, 4, 5, 6, 12] (fun _ _ _ _ i wr => ∃ k : Nat, i = .int .i64 k ∧ k ≤ n ∧ Hid (Gr w0 wr) ∧ Hid (∀ j, j < k → kstE l j = 0)) (fun _ _ _ _ i _ => n - (intOf i).toNat)
    case atStart => exact ⟨0, rfl, Nat.zero_le _, HG.out, fun j h => absurd h (by omega)⟩
    case round =>
      clear HG
      obtain ⟨k, rfl, hk, HG, HK⟩ := hrel
      by_cases hlt : k < n
      · have hkl : k < l.length := by rw [← HN.out]; exact hlt
        obtain ⟨b, o, rfl, hat⟩ := HC.out k hkl
        have S1 := fun h0 he => kstE_first hkl h0 he
        have S2 := fun c he hc => kstE_err (c := c) hkl he hc
        have S3 := fun (j : Nat) hj he h => kstE_lo (j := j) hkl hj he h
        have S4 := fun (j : Nat) hj he h => kstE_in (j := j) hkl hj he h
        have hs := HS.out _ (List.getElem_mem hkl)
        generalize hgk : l[k] = g at *
        obtain ⟨x, s⟩ := g
        have HA := Lib.hid hat; clear hat
        obtain ⟨c0, c1⟩ := HA.out.gr HG.out
        have HB := Lib.hid (KnAt.new wr x s 64)
        have HGA := Lib.hid (HG.out.alloc (.cells #[.int .i64 x, .string s] 64))
        have hB := HB.out
        obtain ⟨b0, b1⟩ := hB
        simp only [Nat.zero_add] at b0 b1
        have C := CI.out x _ HGA.out
        rw [show (wr.alloc (.cells #[.int .i64 x, .string s] 64)).heap.size = wr.heap.size + 1 by simp] at C
        have HX := Lib.hid ((Gr.refl wr).alloc (.cells #[.int .i64 x, .string s] 64))
        by_cases hx : x < 0 ∨ 20000000 < x
        · have HR := Lib.hid (HST.out _ hkl HK.out _ (S2 2 (knE_out hx) (by omega)) (by omega))
          rw [if_pos hx] at C
          have C := Lib.hid C
          clear S1 S2 S3 S4 hs hgk CK CI hx
          go_wp2_with fail
          refine C.out.mono ?_
          rintro e w1 ⟨rfl, hg1, hg⟩
          replace HG := Lib.hid hg; clear hg hg1 c0 c1 b0 b1 HB HGA
          go_wp2
          go_ret
          exact ⟨ret_int HR.out.symm, HG.out⟩
        · have hke := knE_in (s := s) hx
          rw [if_neg hx] at C
          have C := Lib.hid C
          have K := CK.out s hs
          clear CI CK
          obtain ⟨hx0, hx1⟩ : 0 ≤ x ∧ x ≤ 20000000 := by omega
          clear hx
          by_cases he : compE s = 0
          · rw [he] at K
            have K := Lib.hid K
            rw [he] at hke
            rcases Nat.eq_zero_or_pos k with hk0 | hk0
            · have H0 := Lib.hid (S1 hk0 hke)
              have hz : decide (0 < k) = false := by simp; omega
              clear S1 S2 S3 S4 hs he hgk hke hk0
              go_wp2_with fail
              refine C.out.mono ?_
              rintro e w1 ⟨rfl, hg1, hg⟩
              obtain ⟨d0, d1⟩ := HB.out.gr hg1
              simp only [Nat.zero_add] at d0 d1
              clear c0 c1 b0 b1
              have HB1 := Lib.hid (HB.out.gr hg1)
              replace HG := Lib.hid hg; clear hg hg1 HB HGA
              go_wp2_with fail
              refine (K.out _ HG.out).mono ?_
              rintro e w2 ⟨rfl, hg⟩
              have hB := HB1.out.gr hg
              clear d0 d1
              obtain ⟨d0, d1⟩ := hB
              simp only [Nat.zero_add] at d0 d1
              replace HG := Lib.hid (Gr.trans HG.out hg); clear hg HB1
              go_wp2
              go_quiet (fail)
              rename_i nq
              replace HG := Lib.hid (below_drewN HG.out nq)
              clear d0 d1
              generalize w2.drewN nq = w3 at *
              go_wp2
              go_roundw
              case rel =>
                refine ⟨k + 1, by go_num, by omega, HG.out, fun j h => ?_⟩
                by_cases hjk : j = k
                · subst hjk; exact H0.out
                · exact HK.out j (by omega)
              case measure => simp [intOf]; omega
            · obtain ⟨j, hj⟩ : ∃ j, k = j + 1 := ⟨k - 1, by omega⟩
              have T3 := S3 j hj hke
              have T4 := S4 j hj hke
              have hjl : j < l.length := by omega
              obtain ⟨b', o', hb', hdt⟩ := HC.out j hjl
              obtain ⟨rfl, rfl⟩ : b = b' ∧ o = o' := by simpa using hb'
              generalize hgj : l[j] = p at *
              obtain ⟨px, ps⟩ := p
              have HD := Lib.hid hdt; clear hdt
              have hz : 0 < k := by omega
              have hw1 : IntKind.i64.wrap ((k : Int) - 1) = (j : Int) := by rw [IntWalk.i64_in _ (by omega)]; omega
              have hjn : (j : Int) < n := by omega
              by_cases hlo : x < px
              · have HR := Lib.hid (HST.out _ hkl HK.out _ (T3 hlo) (by omega))
                clear S1 S2 S3 S4 T3 T4 hs he hgk hgj hke hk0 hj hjl
                go_wp2_with fail
                refine C.out.mono ?_
                rintro e w1 ⟨rfl, hg1, hg⟩
                obtain ⟨d0, d1⟩ := HB.out.gr hg1
                simp only [Nat.zero_add] at d0 d1
                clear c0 c1 b0 b1
                have HB1 := Lib.hid (HB.out.gr hg1)
                replace HG := Lib.hid hg; clear hg hg1 HB HGA
                go_wp2_with fail
                refine (K.out _ HG.out).mono ?_
                rintro e w2 ⟨rfl, hg⟩
                have hB := HB1.out.gr hg
                clear d0 d1
                obtain ⟨d0, d1⟩ := hB
                simp only [Nat.zero_add] at d0 d1
                replace HG := Lib.hid (Gr.trans HG.out hg); clear hg HB1
                obtain ⟨e0, e1⟩ := HD.out.gr HG.out
                go_wp2
                go_quiet (fail)
                rename_i nq
                replace HG := Lib.hid (below_drewN HG.out nq)
                clear d0 d1 e0 e1
                generalize w2.drewN nq = w3 at *
                go_wp2
                go_ret
                exact ⟨ret_int HR.out.symm, HG.out⟩
              · have H0 := Lib.hid (T4 hlo)
                clear S1 S2 S3 S4 T3 T4 hs he hgk hgj hke hk0 hj hjl
                go_wp2_with fail
                refine C.out.mono ?_
                rintro e w1 ⟨rfl, hg1, hg⟩
                obtain ⟨d0, d1⟩ := HB.out.gr hg1
                simp only [Nat.zero_add] at d0 d1
                clear c0 c1 b0 b1
                have HB1 := Lib.hid (HB.out.gr hg1)
                replace HG := Lib.hid hg; clear hg hg1 HB HGA
                go_wp2_with fail
                refine (K.out _ HG.out).mono ?_
                rintro e w2 ⟨rfl, hg⟩
                have hB := HB1.out.gr hg
                clear d0 d1
                obtain ⟨d0, d1⟩ := hB
                simp only [Nat.zero_add] at d0 d1
                replace HG := Lib.hid (Gr.trans HG.out hg); clear hg HB1
                obtain ⟨e0, e1⟩ := HD.out.gr HG.out
                go_wp2
                go_quiet (fail)
                rename_i nq
                replace HG := Lib.hid (below_drewN HG.out nq)
                clear d0 d1 e0 e1
                generalize w2.drewN nq = w3 at *
                go_wp2
                go_roundw
                case rel =>
                  refine ⟨k + 1, by go_num, by omega, HG.out, fun i h => ?_⟩
                  by_cases hij : i = k
                  · subst hij; exact H0.out
                  · exact HK.out i (by omega)
                case measure => simp [intOf]; omega
          · have HR := Lib.hid (HST.out _ hkl HK.out _ (S2 _ hke he) he)
            have hne : (compE s != 0) = true := by simpa using he
            have K := Lib.hid K
            clear S1 S2 S3 S4 hs hgk hke
            generalize compE s = c at *
            go_wp2_with fail
            refine C.out.mono ?_
            rintro e w1 ⟨rfl, hg1, hg⟩
            obtain ⟨d0, d1⟩ := HB.out.gr hg1
            simp only [Nat.zero_add] at d0 d1
            clear c0 c1 b0 b1
            replace HG := Lib.hid hg; clear hg hg1 HB HGA
            go_wp2_with fail
            refine (K.out _ HG.out).mono ?_
            rintro e w2 ⟨rfl, hg⟩
            replace HG := Lib.hid (Gr.trans HG.out hg); clear hg d0 d1
            go_wp2
            go_ret
            exact ⟨ret_int HR.out.symm, HG.out⟩
      · have HR := Lib.hid (HEND.out fun j hj => HK.out j (by have := HN.out; omega))
        go_wp2
        go_ret
        exact ⟨ret_int HR.out.symm, HG.out⟩
end
end Go.Proofs.YtflkgkchoagphaaGreatDoor

/- Read of the reference. -/
namespace Go.Proofs.YtflkgkchoagphaaGreatDoor
open Go.RowKit Go.Shelf Go.Deep
open Z
attribute [local go_sem] Oper.semAt_some

/-- how many knots lie before or at a time -/
def rdN : List Kn → Int → Nat
  | [], _ => 0
  | k :: l, t => if k.1 ≤ t then rdN l t + 1 else 0
theorem rdN_eq : ∀ {l : List Kn} {t : Int} {m : Nat}, m ≤ l.length → (∀ j (hj : j < l.length), j < m → (l[j]).1 ≤ t) → (∀ hm : m < l.length, t < (l[m]).1) → rdN l t = m
  | [], t, m, h, _, _ => by have : m = 0 := by simpa using h
                            subst this; rfl
  | k :: l, t, m, h, h1, h2 => by
    unfold rdN
    cases m with
    | zero => have := h2 (by simp); simp at this; rw [if_neg (by omega)]
    | succ m =>
      have h0 := h1 0 (by simp) (by omega)
      simp at h0
      rw [if_pos h0, rdN_eq (m := m) (by simpa using h) (fun j hj hjm => h1 (j + 1) (by simpa using hj) (by omega)) (fun hm => h2 (by simpa using hm))]
def mixL (p g : Kn) (t : Int) : ByteArray := RT (rv p.2 + (rv g.2 - rv p.2) * Rat.divInt (t - p.1) (g.1 - p.1))
def readL (l : List Kn) (t : Int) : ByteArray := match rdN l t with
  | 0 => match l[0]? with
    | some g => g.2
    | none => ⟨#[]⟩
  | m + 1 => match l[m]?, l[m + 1]? with
    | some p, some g => mixL p g t
    | some p, none => p.2
    | none, _ => ⟨#[]⟩
theorem readL_first {l : List Kn} {t : Int} (h0 : 0 < l.length) (h : t < (l[0]).1) : readL l t = (l[0]).2 := by
  unfold readL
  rw [rdN_eq (m := 0) (by omega) (fun j hj h => absurd h (by omega)) (fun _ => h)]
  simp only [List.getElem?_eq_getElem h0]
theorem readL_last {l : List Kn} {t : Int} {j : Nat} (hj : j + 1 = l.length) (h : ∀ i (hi : i < l.length), i < j + 1 → (l[i]).1 ≤ t) : readL l t = (l[j]'(by omega)).2 := by
  unfold readL
  rw [rdN_eq (m := j + 1) (by omega) (fun i hi hij => h i hi hij) (fun hm => absurd hm (by omega))]
  simp only [List.getElem?_eq_getElem (show j < l.length by omega), List.getElem?_eq_none (show l.length ≤ j + 1 by omega)]
theorem readL_mid {l : List Kn} {t : Int} {j : Nat} (hj : j + 1 < l.length) (h : ∀ i (hi : i < l.length), i < j + 1 → (l[i]).1 ≤ t) (h2 : t < (l[j + 1]).1) : readL l t = mixL (l[j]'(by omega)) l[j + 1] t := by
  unfold readL
  rw [rdN_eq (m := j + 1) (by omega) (fun i hi hij => h i hi hij) (fun hm => h2)]
  simp only [List.getElem?_eq_getElem (show j < l.length by omega), List.getElem?_eq_getElem hj]
def readE (l : List Kn) (t : Int) : ByteArray × Int := if bendE l = 0 then (readL l t, 0) else (⟨#[]⟩, bendE l)
theorem bendE_zero {l : List Kn} (h : bendE l = 0) : 0 < l.length ∧ l.length ≤ 512 ∧ ∀ j, j < l.length → kstE l j = 0 := by
  unfold bendE at h
  split at h
  · omega
  · have := knsE_zero h
    exact ⟨by omega, this⟩
theorem kst_ok {l : List Kn} {k : Nat} (hk : k < l.length) (h : kstE l k = 0) : 0 ≤ (l[k]).1 ∧ (l[k]).1 ≤ 20000000 ∧ compE (l[k]).2 = 0 ∧ (0 < k → (l[k - 1]'(by omega)).1 ≤ (l[k]).1) := by
  rw [kstE_at hk] at h
  split at h
  · rename_i h1; exact absurd h h1
  · rename_i h1
    have h1 : knE l[k] = 0 := by simpa using h1
    unfold knE at h1
    split at h1
    · omega
    · rename_i h2
      refine ⟨by omega, by omega, h1, fun h0 => ?_⟩
      rw [if_neg (by omega)] at h
      split at h
      · omega
      · omega
theorem Kn.sh {k : Kn} (h : compE k.2 = 0) (hs : k.2.size ≤ 1000) : ∃ a : Rat, k.2 = RT a ∧ rv k.2 = a ∧ Sh 1000 a := by
  obtain ⟨b, hb, ib, lb⟩ := compE_zero h
  obtain ⟨a, e, ha, hra⟩ := text_sh (k := k.2.size) (by rw [hb]; exact chkS_RT ib) (Nat.le_refl _)
  exact ⟨a, e, hra, ha.mono hs⟩
def FitsK (l : List Kn) : Prop := 512 < l.length ∨ ∀ k ∈ l, k.2.size ≤ 1000
theorem FitsK.w {l : List Kn} (h : FitsK l) : 512 < l.length ∨ ∀ k ∈ l, k.2.size ≤ 400000 := h.imp id fun h k hk => by have := h k hk; omega
section
variable {w0 : World}
set_option maxHeartbeats 4000000 in
set_option maxRecDepth 100000 in
theorem ret3_Read {a : Option Addr} {l : List Kn} {cap : Nat} {t : Int} (hc : RdK w0 a l) (hf : FitsK l) (hlm : l.length ≤ maxLen) (ht : isJ t) : Ret w0 37 #[.slice a l.length cap, .int .i64 t] (vSI (readE l t)) := by
  have C := ret3_Bends (cap := cap) hc hf.w hlm
  unfold readE
  by_cases h : bendE l = 0
  · rw [if_pos h]
    rw [h] at C
    have C := Lib.hid C
    obtain ⟨hpos, h512, hz⟩ := bendE_zero h
    have hsz := hf.resolve_left (by omega)
    have HC := Lib.hid hc
    have HF := Lib.hid (fun (h : t < (l[0]).1) => readL_first hpos h)
    have HL := Lib.hid (fun (j : Nat) (hj : j + 1 = l.length) (h : ∀ i (hi : i < l.length), i < j + 1 → (l[i]).1 ≤ t) => readL_last hj h)
    have HM := Lib.hid (fun (j : Nat) (hj : j + 1 < l.length) (h : ∀ i (hi : i < l.length), i < j + 1 → (l[i]).1 ≤ t) (h2 : t < (l[j + 1]).1) => readL_mid hj h h2)
    have HZ := Lib.hid (fun (k : Nat) (hk : k < l.length) => kst_ok hk (hz k hk))
    have HS := Lib.hid (fun (k : Nat) (hk : k < l.length) => Kn.sh (HZ.out k hk).2.2.1 (hsz _ (List.getElem_mem hk)))
    obtain ⟨r, hr⟩ : ∃ r, readL l t = r := ⟨_, rfl⟩
    rw [hr] at HF HL HM ⊢
    obtain ⟨n, hn⟩ : ∃ n, n = l.length := ⟨_, rfl⟩
    have HN := Lib.hid hn
    rw [← hn] at C ⊢
    have hn512 : n ≤ 512 := by omega
    have hpos' : 0 < n := by omega
    obtain ⟨t0, t1⟩ := ht
    clear hc hf hlm hz hsz h hn hr h512
    unfold vSI
    intro w hg
    have HG := Lib.hid hg; clear hg
    go_enter Tryz.func37, Tryz.ntmps37
    go_wp2_with fail
    refine (C.out _ HG.out).mono ?_
    rintro e w1 ⟨rfl, hg⟩
    replace HG := Lib.hid hg; clear hg
    go_wp2
    go_loopw [7] (fun i wr => ∃ (m : Nat) (q : Int), i = .int .i64 q ∧ q + 1 = m ∧ m ≤ n ∧ Hid (Gr w0 wr) ∧ Hid (∀ j (hj : j < l.length), j < m → (l[j]).1 ≤ t)) (fun i _ => n - (intOf i + 1).toNat)
    case atStart => exact ⟨0, -1, rfl, rfl, Nat.zero_le _, HG.out, fun j hj h => absurd h (by omega)⟩
    case round =>
      clear HG
      obtain ⟨m, q, rfl, hq, hk, HG, HK⟩ := hrel
      have hwq : IntKind.i64.wrap (q + 1) = (m : Int) := by rw [IntWalk.i64_in _ (by omega)]; exact hq
      by_cases hlt : m < n
      · have hkl : m < l.length := by rw [← HN.out]; exact hlt
        obtain ⟨b, o, hb, hat⟩ := HC.out m hkl
        obtain ⟨z0, z1, -, -⟩ := HZ.out m hkl
        generalize hgk : l[m] = g at *
        obtain ⟨x, s⟩ := g
        simp only at z0 z1
        have HA := Lib.hid hat; clear hat
        obtain ⟨c0, c1⟩ := HA.out.gr HG.out
        simp only at c0 c1
        by_cases hst : x ≤ t
        · have HT := Lib.hid (show (l[m]).1 ≤ t by rw [hgk]; exact hst)
          subst hb
          clear hgk
          go_wp2
          go_roundw
          case rel =>
            refine ⟨m + 1, m, by go_num, by omega, by omega, HG.out, fun j hj h => ?_⟩
            by_cases hjk : j = m
            · subst hjk; exact HT.out
            · exact HK.out j hj (by omega)
          case measure => simp [intOf]; omega
        · subst hb
          rcases Nat.eq_zero_or_pos m with hm0 | hm0
          · have hv : r = s := by
              have e := HF.out (by subst hm0; rw [hgk]; simp only; omega)
              subst hm0; rw [e, hgk]
            have hq0 : q < 0 := by omega
            have d1 : wr.cell? ⟨b, o + 1, none⟩ = some (.string s) := by subst hm0; simpa using c1
            subst hv
            clear hgk HS HZ HL HM HF hq hm0
            go_wp2
            go_ret2
            exact ⟨rfl, HG.out⟩
          · obtain ⟨j, hj⟩ : ∃ j, m = j + 1 := ⟨m - 1, by omega⟩
            obtain rfl : q = (j : Int) := by omega
            have hjl : j < l.length := by omega
            obtain ⟨b', o', hb', hdt⟩ := HC.out j hjl
            obtain ⟨rfl, rfl⟩ : b = b' ∧ o = o' := by simpa using hb'
            have hpt := HK.out j hjl (by omega)
            obtain ⟨pz0, pz1, -, -⟩ := HZ.out j hjl
            have hv := HM.out j (by omega) (fun i hi hij => HK.out i hi (by omega)) (by subst hj; rw [hgk]; simp only; omega)
            obtain ⟨pa, pe1, pe2, pe3⟩ := HS.out j hjl
            obtain ⟨xa, xe1, xe2, xe3⟩ := HS.out m hkl
            have hv2 : r = mixL l[j] l[m] t := by subst hj; exact hv
            clear hv
            rw [hgk] at xe1 xe2 hv2
            generalize hgj : l[j] = p at *
            obtain ⟨px, ps⟩ := p
            simp only at pz0 pz1 hpt pe1 pe2 xe1 xe2
            unfold mixL at hv2
            simp only at hv2
            rw [pe2, xe2] at hv2
            have C2 := Lib.hid (RetG.of4 (w0 := w0) fun w1 _ => ret_Over (w0 := w1) (n := t - px) (d := x - px) (by omega) (by omega) (by omega) (by omega) (by omega))
            have C3 := RetG.of4 (w0 := w0) fun w1 _ => ret_Mixed (w0 := w1) pe3 xe3 (sh_part (p := t - px) (q := x - px) (by omega) (by omega) (by omega) (by omega)) (by omega) (by omega) (by omega)
            rw [← hv2, ← pe1, ← xe1] at C3
            have C3 := Lib.hid C3
            have HD := Lib.hid hdt; clear hdt
            obtain ⟨d0, d1⟩ := HD.out.gr HG.out
            simp only at d0 d1
            have hq0 : ¬ (j : Int) < 0 := by omega
            have hne : ((m : Int) == (n : Int)) = false := by simp; omega
            have hjn : (j : Int) < n := by omega
            have hwr1 : IntKind.i64.wrap (t - px) = t - px := IntWalk.i64_in _ (by omega)
            have hwr2 : IntKind.i64.wrap (x - px) = x - px := IntWalk.i64_in _ (by omega)
            generalize RT (Rat.divInt (t - px) (x - px)) = u at *
            clear hgk hgj hv2 pe1 pe2 pe3 xe1 xe2 xe3 HS HZ HL HM HF hq hj hm0 hkl hjl hpos
            go_wp2_with fail
            have gd : Gr w0 wr.drew := HG.out.drew
            go_region_held3 (fun w' => w'.cell? ⟨b, o + m * 2, none⟩ = some (.int .i64 x) ∧ w'.cell? ⟨b, o + m * 2 + 1, none⟩ = some (.string s) ∧ w'.cell? ⟨b, o + j * 2, none⟩ = some (.int .i64 px) ∧ w'.cell? ⟨b, o + j * 2 + 1, none⟩ = some (.string ps)) (go_keep) (first
              | (go_at_call 48; refine (C2.out _ (by assumption)).mono ?_; rintro e w7 ⟨rfl, hg7⟩; have g7 : Gr w0 w7 := Gr.trans (by assumption) hg7; have m0 : w7.cell? ⟨b, o + m * 2, none⟩ = some (.int .i64 x) := gr_cell hg7 (by assumption); have m1 : w7.cell? ⟨b, o + m * 2 + 1, none⟩ = some (.string s) := gr_cell hg7 (by assumption); have m2 : w7.cell? ⟨b, o + j * 2, none⟩ = some (.int .i64 px) := gr_cell hg7 (by assumption); have m3 : w7.cell? ⟨b, o + j * 2 + 1, none⟩ = some (.string ps) := gr_cell hg7 (by assumption))
              | (go_at_call 73; refine (C3.out _ (by assumption)).mono ?_; rintro e w8 ⟨rfl, hg8⟩; have g8 : Gr w0 w8 := Gr.trans (by assumption) hg8; have m0 : w8.cell? ⟨b, o + m * 2, none⟩ = some (.int .i64 x) := gr_cell hg8 (by assumption); have m1 : w8.cell? ⟨b, o + m * 2 + 1, none⟩ = some (.string s) := gr_cell hg8 (by assumption); have m2 : w8.cell? ⟨b, o + j * 2, none⟩ = some (.int .i64 px) := gr_cell hg8 (by assumption); have m3 : w8.cell? ⟨b, o + j * 2 + 1, none⟩ = some (.string ps) := gr_cell hg8 (by assumption)))
            clear hwr1 hwr2
            go_wp2
            go_ret2
            exact ⟨rfl, by assumption⟩
      · have hmn : m = n := by omega
        obtain ⟨j, hj⟩ : ∃ j, m = j + 1 := ⟨m - 1, by omega⟩
        obtain rfl : q = (j : Int) := by omega
        have hjl : j < l.length := by have := HN.out; omega
        obtain ⟨b, o, hb, hdt⟩ := HC.out j hjl
        have hv := HL.out j (by have := HN.out; omega) (fun i hi hij => HK.out i hi (by omega))
        generalize hgj : l[j] = p at *
        obtain ⟨px, ps⟩ := p
        simp only at hv
        subst hv
        obtain ⟨d0, d1⟩ := hdt.gr HG.out
        simp only at d0 d1
        clear hdt
        subst hb
        have hq0 : ¬ (j : Int) < 0 := by omega
        have heq : ((m : Int) == (n : Int)) = true := by simp; omega
        have hjn : (j : Int) < n := by omega
        clear hgj HS HZ HL HM HF
        go_wp2
        go_ret2
        exact ⟨rfl, HG.out⟩
  · rw [if_neg h]
    have hne : (bendE l != 0) = true := by simpa using h
    clear h hc hf hlm ht
    have C := Lib.hid C
    unfold vSI
    generalize bendE l = c at *
    intro w hg
    have HG := Lib.hid hg; clear hg
    go_enter Tryz.func37, Tryz.ntmps37
    go_wp2_with fail
    refine (C.out _ HG.out).mono ?_
    rintro e w1 ⟨rfl, hg⟩
    replace HG := Lib.hid hg; clear hg
    go_wp2
    go_ret2
    exact ⟨rfl, HG.out⟩
end
end Go.Proofs.YtflkgkchoagphaaGreatDoor
