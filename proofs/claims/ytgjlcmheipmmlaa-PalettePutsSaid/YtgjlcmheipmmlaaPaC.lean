/- Law 15: hues, entries and palettes in memory; checkHues of the program. -/
import Derived.Test.YtgjlcmheipmmlaaPaB
set_option linter.unusedVariables false
set_option linter.unusedSimpArgs false
namespace Go.Proofs.Ytgjlcmheipmmlaa
open Go.RowKit
open Z
theorem Try.infoH : ∃ i : TypeInfo, Try.prog.info? 110 = some i ∧ i.zero = some (.agg #[.int .i64 0, .int .i64 0, .int .i64 0]) ∧ i.size = 3 ∧ i.bytes = 24 := info_parts (by kernel_rfl)
theorem Try.infoE : ∃ i : TypeInfo, Try.prog.info? 57 = some i ∧ i.zero = some (.agg #[.int .i64 0, .int .i64 0, .int .i64 0, .int .i64 0]) ∧ i.size = 4 ∧ i.bytes = 32 := info_parts (by kernel_rfl)
theorem Try.infoPr : ∃ i : TypeInfo, Try.prog.info? 55 = some i ∧ i.zero = some (.agg #[.int .i64 0, .int .i64 0]) ∧ i.size = 2 ∧ i.bytes = 16 := info_parts (by kernel_rfl)
theorem Try.infoPl : ∃ i : TypeInfo, Try.prog.info? 39 = some i ∧ i.zero = some (.agg #[.int .i64 0, .slice none 0 0]) ∧ i.size = 2 ∧ i.bytes = 32 := info_parts (by kernel_rfl)
def shH : Sh Hu := { enc := fun x => [.int .i64 x.1, .int .i64 x.2.1, .int .i64 x.2.2], sz := 3, t := 110, st := 37, zero := .agg #[.int .i64 0, .int .i64 0, .int .i64 0], bytes := 24, hinfo := Try.infoH, hund := Try.underlying37, hlen := fun _ => rfl, hone := fun _ u hu => by simp only [List.mem_cons, List.not_mem_nil, or_false] at hu; rcases hu with rfl | rfl | rfl <;> rfl, hz := rfl, hsz := by decide, hb := by decide }
def shE : Sh En := { enc := fun x => [.int .i64 x.1, .int .i64 x.2.1, .int .i64 x.2.2.1, .int .i64 x.2.2.2], sz := 4, t := 57, st := 24, zero := .agg #[.int .i64 0, .int .i64 0, .int .i64 0, .int .i64 0], bytes := 32, hinfo := Try.infoE, hund := Try.underlying24, hlen := fun _ => rfl, hone := fun _ u hu => by simp only [List.mem_cons, List.not_mem_nil, or_false] at hu; rcases hu with rfl | rfl | rfl | rfl <;> rfl, hz := rfl, hsz := by decide, hb := by decide }
def shR : Sh Pr := { enc := fun x => [.int .i64 x.1, .int .i64 x.2], sz := 2, t := 55, st := 72, zero := .agg #[.int .i64 0, .int .i64 0], bytes := 16, hinfo := Try.infoPr, hund := Try.underlying72, hlen := fun _ => rfl, hone := fun _ u hu => by simp only [List.mem_cons, List.not_mem_nil, or_false] at hu; rcases hu with rfl | rfl <;> rfl, hz := rfl, hsz := by decide, hb := by decide }
/-- a palette in memory: its number, where its hues lie, how many, their room -/
abbrev PV := Int × Option Addr × Nat × Nat
def psl (m : PV) : Value := .slice m.2.1 m.2.2.1 m.2.2.2
def shG : Sh PV := { enc := fun m => [.int .i64 m.1, psl m], sz := 2, t := 39, st := 25, zero := .agg #[.int .i64 0, .slice none 0 0], bytes := 32, hinfo := Try.infoPl, hund := Try.underlying25, hlen := fun _ => rfl, hone := fun _ u hu => by simp only [List.mem_cons, List.not_mem_nil, or_false] at hu; rcases hu with rfl | rfl <;> rfl, hz := rfl, hsz := by decide, hb := by decide }
def ChAt (w : World) (m : PV) (g : Pl) : Prop := m.1 = g.1 ∧ m.2.2.1 = g.2.length ∧ Rd shH w m.2.1 g.2 ∧ g.2.length ≤ m.2.2.2 ∧ m.2.2.2 ≤ maxLen ∧ SlOk m.2.1 m.2.2.2
def ChL (w : World) (M : List PV) (l : List Pl) : Prop := M.length = l.length ∧ ∀ k (h : k < M.length) (h' : k < l.length), ChAt w M[k] l[k]
theorem ChAt.gr {w w' : World} {m : PV} {g : Pl} (h : ChAt w m g) (hg : Gr w w') : ChAt w' m g := ⟨h.1, h.2.1, h.2.2.1.gr hg, h.2.2.2⟩
theorem ChL.gr {w w' : World} {M : List PV} {l : List Pl} (h : ChL w M l) (hg : Gr w w') : ChL w' M l := ⟨h.1, fun k h1 h2 => (h.2 k h1 h2).gr hg⟩
theorem ChL.nil (w : World) : ChL w [] [] := ⟨rfl, fun k h => absurd h (by simp)⟩
theorem ChL.take {w : World} {M : List PV} {l : List Pl} (h : ChL w M l) (n : Nat) : ChL w (M.take n) (l.take n) := ⟨by rw [List.length_take, List.length_take, h.1], fun k h1 h2 => by
  rw [List.length_take] at h1 h2
  rw [List.getElem_take, List.getElem_take]
  exact h.2 k (by omega) (by omega)⟩
theorem ChL.drop {w : World} {M : List PV} {l : List Pl} (h : ChL w M l) (n : Nat) : ChL w (M.drop n) (l.drop n) := ⟨by rw [List.length_drop, List.length_drop, h.1], fun k h1 h2 => by
  rw [List.length_drop] at h1 h2
  rw [List.getElem_drop, List.getElem_drop]
  exact h.2 (n + k) (by omega) (by omega)⟩
theorem ChL.app {w : World} {M K : List PV} {l r : List Pl} (h : ChL w M l) (h' : ChL w K r) : ChL w (M ++ K) (l ++ r) := ⟨by rw [List.length_append, List.length_append, h.1, h'.1], fun k h1 h2 => by
  rw [List.length_append] at h1 h2
  by_cases hk : k < M.length
  · rw [List.getElem_append_left hk, List.getElem_append_left (by rw [← h.1]; exact hk)]
    exact h.2 k hk (by rw [← h.1]; exact hk)
  · rw [List.getElem_append_right (by omega), List.getElem_append_right (by rw [← h.1]; omega)]
    have e := h.1
    have := h'.2 (k - M.length) (by omega) (by omega)
    simpa [e] using this⟩
theorem ChL.one {w : World} {m : PV} {g : Pl} (h : ChAt w m g) : ChL w [m] [g] := ⟨rfl, fun k h1 h2 => by
  have : k = 0 := by simp at h1; omega
  subst this; exact h⟩
/-- palettes lie behind an address -/
def RdP (w : World) (a : Option Addr) (l : List Pl) : Prop := ∃ M, Rd shG w a M ∧ ChL w M l
theorem RdP.gr {w w' : World} {a : Option Addr} {l : List Pl} (h : RdP w a l) (hg : Gr w w') : RdP w' a l := by
  obtain ⟨M, h1, h2⟩ := h
  exact ⟨M, h1.gr hg, h2.gr hg⟩
theorem RdP.nil (w : World) (a : Option Addr) : RdP w a [] := ⟨[], Rd.nil _ _ _, ChL.nil w⟩
theorem RdP.at {w : World} {a : Option Addr} {l : List Pl} (h : RdP w a l) {k : Nat} (hk : k < l.length) : ∃ b o c cap, a = some ⟨b, o, none⟩ ∧ w.cell? ⟨b, o + k * 2, none⟩ = some (.int .i64 l[k].1) ∧ w.cell? ⟨b, o + k * 2 + 1, none⟩ = some (.slice c l[k].2.length cap) ∧ Rd shH w c l[k].2 ∧ l[k].2.length ≤ cap ∧ cap ≤ maxLen ∧ SlOk c cap := by
  obtain ⟨M, h1, h2⟩ := h
  have hkM : k < M.length := by rw [h2.1]; exact hk
  obtain ⟨b, o, e, hc⟩ := h1 k hkM
  obtain ⟨e1, e2, h3, h4, h5, h6⟩ := h2.2 k hkM hk
  refine ⟨b, o, M[k].2.1, M[k].2.2.2, e, ?_, ?_, h3, h4, h5, h6⟩
  · rw [← e1]; exact hc 0 _ rfl
  · rw [← e2]; exact hc 1 _ rfl
theorem hu_cells {w : World} {a : Option Addr} {l : List Hu} (h : Rd shH w a l) {k : Nat} (hk : k < l.length) : ∃ b o, a = some ⟨b, o, none⟩ ∧ w.cell? ⟨b, o + k * 3, none⟩ = some (.int .i64 l[k].1) ∧ w.cell? ⟨b, o + k * 3 + 1, none⟩ = some (.int .i64 l[k].2.1) ∧ w.cell? ⟨b, o + k * 3 + 2, none⟩ = some (.int .i64 l[k].2.2) := by
  obtain ⟨b, o, e, hc⟩ := h k hk
  exact ⟨b, o, e, hc 0 _ rfl, hc 1 _ rfl, hc 2 _ rfl⟩
theorem en_cells {w : World} {a : Option Addr} {l : List En} (h : Rd shE w a l) {k : Nat} (hk : k < l.length) : ∃ b o, a = some ⟨b, o, none⟩ ∧ w.cell? ⟨b, o + k * 4, none⟩ = some (.int .i64 l[k].1) ∧ w.cell? ⟨b, o + k * 4 + 1, none⟩ = some (.int .i64 l[k].2.1) ∧ w.cell? ⟨b, o + k * 4 + 2, none⟩ = some (.int .i64 l[k].2.2.1) ∧ w.cell? ⟨b, o + k * 4 + 3, none⟩ = some (.int .i64 l[k].2.2.2) := by
  obtain ⟨b, o, e, hc⟩ := h k hk
  exact ⟨b, o, e, hc 0 _ rfl, hc 1 _ rfl, hc 2 _ rfl, hc 3 _ rfl⟩
theorem pr_cells {w : World} {a : Option Addr} {l : List Pr} (h : Rd shR w a l) {k : Nat} (hk : k < l.length) : ∃ b o, a = some ⟨b, o, none⟩ ∧ w.cell? ⟨b, o + k * 2, none⟩ = some (.int .i64 l[k].1) ∧ w.cell? ⟨b, o + k * 2 + 1, none⟩ = some (.int .i64 l[k].2) := by
  obtain ⟨b, o, e, hc⟩ := h k hk
  exact ⟨b, o, e, hc 0 _ rfl, hc 1 _ rfl⟩
theorem wrap_pred {j k : Nat} (h : j = k + 1) (hj : j ≤ 1000000000) : IntKind.i64.wrap ((j : Int) - 1) = (k : Int) := by
  rw [IntWalk.i64_in ((j : Int) - 1) (by omega)]; omega
set_option maxRecDepth 100000 in
set_option maxHeartbeats 4000000 in
theorem pl_checkHues {a : Option Addr} {l : List Hu} {cap : Nat} (w : World) (hr : Rd shH w a l) (hlen : l.length ≤ 9223372036854775807) :
    Calls Try.prog 57 #[.slice a l.length cap] w fun e w' => e = .returned (.int .i64 (huR l)) ∧ Gr w w' := by
  have HR := Lib.hid hr
  obtain ⟨E, hE⟩ : ∃ E, huR l = E := ⟨_, rfl⟩
  rw [hE]
  unfold huR at hE
  obtain ⟨n, hn⟩ : ∃ n, n = l.length := ⟨_, rfl⟩
  have HN := Lib.hid hn
  rw [← hn] at hE hlen ⊢
  clear hn hr
  by_cases h256 : 256 < n
  · rw [if_pos h256] at hE
    subst hE
    go_enter Try.func57, Try.ntmps57
    go_wp2
    go_ret
    exact ⟨rfl, Gr.refl w⟩
  · rw [if_neg h256] at hE
    have HE := Lib.hid hE
    clear hE
    go_enter Try.func57, Try.ntmps57
    go_wp2
    go_loopw [10] (fun i wr => ∃ j : Nat, i = .int .i64 j ∧ j ≤ n ∧ Hid (chk huE (fun _ => 0) huK bef (prevK huK l j) (l.drop j) = E) ∧ Hid (Gr w wr)) (fun i _ => n - (intOf i).toNat)
    case atStart => exact ⟨0, rfl, Nat.zero_le _, HE, Lib.hid (Gr.refl _)⟩
    case round =>
      obtain ⟨j, rfl, hj, HE, HG⟩ := hrel
      by_cases hlt : j < n
      · have hjl : j < l.length := by rw [← HN.out]; exact hlt
        have HE2 := Lib.hid ((chk_step hjl).symm.trans HE.out)
        obtain ⟨b, o, rfl, hc0, hc1, hc2⟩ := hu_cells (HR.out.gr HG.out) hjl
        have HH := Lib.hid (show huE l[j] = if 0 ≤ l[j].1 ∧ l[j].1 ≤ 999 ∧ 0 ≤ l[j].2.1 ∧ l[j].2.1 ≤ 14 ∧ 0 ≤ l[j].2.2 ∧ l[j].2.2 ≤ 65535 then 0 else 2 from rfl)
        have HKc := Lib.hid (show huK l[j] = (l[j].1, l[j].2.1) from rfl)
        generalize huK l[j] = kc at *
        generalize huE l[j] = he at *
        generalize l[j].1 = c at *
        generalize l[j].2.1 = at1 at *
        generalize l[j].2.2 = v at *
        have HI0 := Lib.hid (fun w => pl_inRange c 0 999 w)
        have HI1 := Lib.hid (fun w => pl_inRange at1 0 14 w)
        have HI2 := Lib.hid (fun w => pl_isLevel v w)
        obtain ⟨wa, hwa⟩ : ∃ wa, wa = wr.alloc (.cells #[.int .i64 c, .int .i64 at1, .int .i64 v] 110) := ⟨_, rfl⟩
        obtain ⟨p, hp⟩ : ∃ p, p = wr.heap.size := ⟨_, rfl⟩
        have hga : Gr wr wa := by rw [hwa]; exact (Gr.refl wr).alloc _
        have HGA := Lib.hid hga
        have e0 : wa.cell? ⟨p, 0, none⟩ = some (.int .i64 c) := by rw [hwa, hp]; exact fresh wr [.int .i64 c, .int .i64 at1, .int .i64 v] _ (k := 0) rfl
        have e1 : wa.cell? ⟨p, 1, none⟩ = some (.int .i64 at1) := by rw [hwa, hp]; exact fresh wr [.int .i64 c, .int .i64 at1, .int .i64 v] _ (k := 1) rfl
        have e2 : wa.cell? ⟨p, 2, none⟩ = some (.int .i64 v) := by rw [hwa, hp]; exact fresh wr [.int .i64 c, .int .i64 at1, .int .i64 v] _ (k := 2) rfl
        clear HE hga
        by_cases k0 : 0 ≤ c ∧ c ≤ 999
        · rw [decide_eq_true k0] at HI0
          by_cases k1 : 0 ≤ at1 ∧ at1 ≤ 14
          · rw [decide_eq_true k1] at HI1
            by_cases k2 : 0 ≤ v ∧ v ≤ 65535
            · rw [decide_eq_true k2] at HI2
              have hz : he = 0 := by rw [HH.out, if_pos (by omega)]
              have HE3 := HE2.out
              rw [if_pos hz] at HE3
              have HE3 := Lib.hid HE3
              clear HE2 HH hz k0 k1 k2
              by_cases hj0 : 0 < j
              · obtain ⟨k, hk⟩ : ∃ k, j = k + 1 := ⟨j - 1, by omega⟩
                have HK1 := Lib.hid (wrap_pred hk (by omega))
                have HJK := Lib.hid hk
                have hkl : k < l.length := by omega
                have hkn : k < n := by omega
                have hpv : prevK huK l j = some (huK l[k]) := by rw [hk]; simp [prevK, List.getElem?_eq_getElem hkl]
                obtain ⟨b2, o2, eb, d0, d1, d2⟩ := hu_cells ((HR.out.gr HG.out).gr HGA.out) hkl
                cases eb
                have HE4 := HE3.out
                rw [hpv, HKc.out] at HE4
                have HKp := Lib.hid (show huK l[k] = (l[k].1, l[k].2.1) from rfl)
                clear hk hpv HE3
                generalize huK l[k] = kp at *
                generalize l[k].1 = pc at *
                generalize l[k].2.1 = pa at *
                generalize l[k].2.2 = pv at *
                have HPC := Lib.hid (@pcmp_le (c, at1) (pc, pa))
                have HX := Lib.hid (fun W => pm_Compare c at1 pc pa W)
                rw [HKp.out] at HE4
                generalize pcmp (c, at1) (pc, pa) = C at *
                cases hB : bef (pc, pa) (c, at1)
                · have hC : C ≤ 0 := HPC.out.2 hB
                  have hv : E = 9 := by rw [if_neg (by simpa using hB)] at HE4; exact HE4.symm
                  subst hv
                  clear HE4 HPC hB
                  go_wp2_with fail
                  refine (HI0.out _).mono ?_; rintro e w1 ⟨rfl, rfl⟩
                  go_wp2_with fail
                  refine (HI1.out _).mono ?_; rintro e w1 ⟨rfl, rfl⟩
                  go_wp2_with fail
                  refine (HI2.out _).mono ?_; rintro e w1 ⟨rfl, rfl⟩
                  go_wp2_with fail
                  rw [← hwa, ← hp]
                  clear hwa hp
                  have hS0 : (fun w' : World => Gr wa w') wa.drew := (Gr.refl _).drew
                  refine wp_region_held (S := fun w' : World => Gr wa w') (by kernel_rfl) ?_
                  change wpAnyH _ _ _ _ _ _ _ _ wa.drew
                  refine wpAnyH_take (i := 0) (v := .int .i64 j) rfl (by kernel_rfl) (by kernel_rfl) (by kernel_rfl) (fun _ _ _ h => h) (Or.inl ⟨by rfl, ?_⟩) hS0 ?_
                  · intro w hSw; go_simp
                  try simp only [Act.put, List.getElem_toArray, List.getElem_cons_succ, List.getElem_cons_zero, List.setIfInBounds_toArray, List.set_cons_zero, List.set_cons_succ]
                  refine wpAnyH_take (i := 1) (v := .bool true) rfl (by kernel_rfl) (by kernel_rfl) (by kernel_rfl) (fun _ _ _ h => h) (Or.inl ⟨by rfl, ?_⟩) hS0 ?_
                  · intro w hSw; go_simp
                  try simp only [Act.put, List.getElem_toArray, List.getElem_cons_succ, List.getElem_cons_zero, List.setIfInBounds_toArray, List.set_cons_zero, List.set_cons_succ]
                  refine wpAnyH_take (i := 2) (v := .bool true) rfl (by kernel_rfl) (by kernel_rfl) (by kernel_rfl) (fun _ _ _ h => h) (Or.inl ⟨by rfl, ?_⟩) hS0 ?_
                  · intro w hSw; go_simp
                  try simp only [Act.put, List.getElem_toArray, List.getElem_cons_succ, List.getElem_cons_zero, List.setIfInBounds_toArray, List.set_cons_zero, List.set_cons_succ]
                  refine wpAnyH_take (i := 3) (v := .agg #[.int .i64 c, .int .i64 at1, .int .i64 v]) rfl (by kernel_rfl) (by kernel_rfl) (by kernel_rfl) (fun _ _ _ h => h) (Or.inl ⟨by rfl, ?_⟩) hS0 ?_
                  · intro w hSw; have s0 := gr_cell hSw e0; have s1 := gr_cell hSw e1; have s2 := gr_cell hSw e2; go_simp
                  try simp only [Act.put, List.getElem_toArray, List.getElem_cons_succ, List.getElem_cons_zero, List.setIfInBounds_toArray, List.set_cons_zero, List.set_cons_succ]
                  refine wpAnyH_take (i := 5) (v := .slice (some ⟨b, o, none⟩) n cap) rfl (by kernel_rfl) (by kernel_rfl) (by kernel_rfl) (fun _ _ _ h => h) (Or.inl ⟨by rfl, ?_⟩) hS0 ?_
                  · intro w hSw; go_simp
                  try simp only [Act.put, List.getElem_toArray, List.getElem_cons_succ, List.getElem_cons_zero, List.setIfInBounds_toArray, List.set_cons_zero, List.set_cons_succ]
                  refine wpAnyH_take (i := 6) (v := .int .i64 j) rfl (by kernel_rfl) (by kernel_rfl) (by kernel_rfl) (fun _ _ _ h => h) (Or.inl ⟨by rfl, ?_⟩) hS0 ?_
                  · intro w hSw; go_simp
                  try simp only [Act.put, List.getElem_toArray, List.getElem_cons_succ, List.getElem_cons_zero, List.setIfInBounds_toArray, List.set_cons_zero, List.set_cons_succ]
                  refine wpAnyH_take (i := 7) (v := .int .i64 k) rfl (by kernel_rfl) (by kernel_rfl) (by kernel_rfl) (fun _ _ _ h => h) (Or.inl ⟨by rfl, ?_⟩) hS0 ?_
                  · intro w hSw; have s1 := HK1.out; go_simp
                  try simp only [Act.put, List.getElem_toArray, List.getElem_cons_succ, List.getElem_cons_zero, List.setIfInBounds_toArray, List.set_cons_zero, List.set_cons_succ]
                  refine wpAnyH_take (i := 8) (v := .pointer (some ⟨b, o + k * 3, none⟩)) rfl (by kernel_rfl) (by kernel_rfl) (by kernel_rfl) (fun _ _ _ h => h) (Or.inl ⟨by rfl, ?_⟩) hS0 ?_
                  · intro w hSw; go_simp
                  try simp only [Act.put, List.getElem_toArray, List.getElem_cons_succ, List.getElem_cons_zero, List.setIfInBounds_toArray, List.set_cons_zero, List.set_cons_succ]
                  refine wpAnyH_take (i := 9) (v := .agg #[.int .i64 pc, .int .i64 pa, .int .i64 pv]) rfl (by kernel_rfl) (by kernel_rfl) (by kernel_rfl) (fun _ _ _ h => h) (Or.inl ⟨by rfl, ?_⟩) hS0 ?_
                  · intro w hSw; have s0 := gr_cell hSw d0; have s1 := gr_cell hSw d1; have s2 := gr_cell hSw d2; go_simp
                  try simp only [Act.put, List.getElem_toArray, List.getElem_cons_succ, List.getElem_cons_zero, List.setIfInBounds_toArray, List.set_cons_zero, List.set_cons_succ]
                  refine wpAnyH_ready (rs := [4]) (by kernel_rfl) (by simp) (AllReadyH.cons rfl (fun K' hK' => ?_) AllReadyH.nil)
                  go_simp
                  refine (pl_keyOf c at1 v _).mono ?_; rintro e w3 ⟨rfl, hg3⟩
                  refine hK'.out _ _ (hS0.trans hg3) (fun hS1 => ?_)
                  clear hK' K'
                  try simp only [Act.put, List.getElem_toArray, List.getElem_cons_succ, List.getElem_cons_zero, List.setIfInBounds_toArray, List.set_cons_zero, List.set_cons_succ]
                  refine wpAnyH_ready (rs := [10]) (by kernel_rfl) (by simp) (AllReadyH.cons rfl (fun K' hK' => ?_) AllReadyH.nil)
                  go_simp
                  refine (pl_keyOf pc pa pv _).mono ?_; rintro e w4 ⟨rfl, hg4⟩
                  refine hK'.out _ _ (hS1.trans hg4) (fun hS2 => ?_)
                  clear hK' K'
                  try simp only [Act.put, List.getElem_toArray, List.getElem_cons_succ, List.getElem_cons_zero, List.setIfInBounds_toArray, List.set_cons_zero, List.set_cons_succ]
                  refine wpAnyH_ready (rs := [11]) (by kernel_rfl) (by simp) (AllReadyH.cons rfl (fun K' hK' => ?_) AllReadyH.nil)
                  go_simp
                  refine (HX.out _).mono ?_; rintro e w5 ⟨rfl, hg5⟩
                  refine hK'.out _ _ (hS2.trans hg5) (fun hS3 => ?_)
                  clear hK' K'
                  try simp only [Act.put, List.getElem_toArray, List.getElem_cons_succ, List.getElem_cons_zero, List.setIfInBounds_toArray, List.set_cons_zero, List.set_cons_succ]
                  refine wpAnyH_take (i := 12) (v := .bool true) rfl (by kernel_rfl) (by kernel_rfl) (by kernel_rfl) (fun _ _ _ h => h) (Or.inl ⟨by rfl, ?_⟩) hS3 ?_
                  · intro w hSw; go_simp
                  try simp only [Act.put, List.getElem_toArray, List.getElem_cons_succ, List.getElem_cons_zero, List.setIfInBounds_toArray, List.set_cons_zero, List.set_cons_succ]
                  refine wpAnyH_take (i := 13) (v := .bool true) rfl (by kernel_rfl) (by kernel_rfl) (by kernel_rfl) (fun _ _ _ h => h) (Or.inl ⟨by rfl, ?_⟩) hS3 ?_
                  · intro w hSw; go_simp
                  try simp only [Act.put, List.getElem_toArray, List.getElem_cons_succ, List.getElem_cons_zero, List.setIfInBounds_toArray, List.set_cons_zero, List.set_cons_succ]
                  refine wpAnyH_take (i := 14) (v := .bool true) rfl (by kernel_rfl) (by kernel_rfl) (by kernel_rfl) (fun _ _ _ h => h) (Or.inl ⟨by rfl, ?_⟩) hS3 ?_
                  · intro w hSw; go_simp
                  try simp only [Act.put, List.getElem_toArray, List.getElem_cons_succ, List.getElem_cons_zero, List.setIfInBounds_toArray, List.set_cons_zero, List.set_cons_succ]
                  refine wpAnyH_done (by kernel_rfl) ?_ _
                  have HG3 := Lib.hid (HG.out.trans (HGA.out.trans hS3))
                  go_wp2
                  go_ret
                  exact ⟨rfl, HG3.out⟩
                · have hC : ¬ C ≤ 0 := fun h => by have := HPC.out.1 h; rw [hB] at this; cases this
                  have HE5 : Hid (chk huE (fun _ => 0) huK bef (prevK huK l (j + 1)) (l.drop (j + 1)) = E) := Lib.hid (by rw [if_pos (by simpa using hB), if_pos rfl] at HE4; exact HE4)
                  clear HE4 HPC hB
                  go_wp2_with fail
                  refine (HI0.out _).mono ?_; rintro e w1 ⟨rfl, rfl⟩
                  go_wp2_with fail
                  refine (HI1.out _).mono ?_; rintro e w1 ⟨rfl, rfl⟩
                  go_wp2_with fail
                  refine (HI2.out _).mono ?_; rintro e w1 ⟨rfl, rfl⟩
                  go_wp2_with fail
                  rw [← hwa, ← hp]
                  clear hwa hp
                  have hS0 : (fun w' : World => Gr wa w') wa.drew := (Gr.refl _).drew
                  refine wp_region_held (S := fun w' : World => Gr wa w') (by kernel_rfl) ?_
                  change wpAnyH _ _ _ _ _ _ _ _ wa.drew
                  refine wpAnyH_take (i := 0) (v := .int .i64 j) rfl (by kernel_rfl) (by kernel_rfl) (by kernel_rfl) (fun _ _ _ h => h) (Or.inl ⟨by rfl, ?_⟩) hS0 ?_
                  · intro w hSw; go_simp
                  try simp only [Act.put, List.getElem_toArray, List.getElem_cons_succ, List.getElem_cons_zero, List.setIfInBounds_toArray, List.set_cons_zero, List.set_cons_succ]
                  refine wpAnyH_take (i := 1) (v := .bool true) rfl (by kernel_rfl) (by kernel_rfl) (by kernel_rfl) (fun _ _ _ h => h) (Or.inl ⟨by rfl, ?_⟩) hS0 ?_
                  · intro w hSw; go_simp
                  try simp only [Act.put, List.getElem_toArray, List.getElem_cons_succ, List.getElem_cons_zero, List.setIfInBounds_toArray, List.set_cons_zero, List.set_cons_succ]
                  refine wpAnyH_take (i := 2) (v := .bool true) rfl (by kernel_rfl) (by kernel_rfl) (by kernel_rfl) (fun _ _ _ h => h) (Or.inl ⟨by rfl, ?_⟩) hS0 ?_
                  · intro w hSw; go_simp
                  try simp only [Act.put, List.getElem_toArray, List.getElem_cons_succ, List.getElem_cons_zero, List.setIfInBounds_toArray, List.set_cons_zero, List.set_cons_succ]
                  refine wpAnyH_take (i := 3) (v := .agg #[.int .i64 c, .int .i64 at1, .int .i64 v]) rfl (by kernel_rfl) (by kernel_rfl) (by kernel_rfl) (fun _ _ _ h => h) (Or.inl ⟨by rfl, ?_⟩) hS0 ?_
                  · intro w hSw; have s0 := gr_cell hSw e0; have s1 := gr_cell hSw e1; have s2 := gr_cell hSw e2; go_simp
                  try simp only [Act.put, List.getElem_toArray, List.getElem_cons_succ, List.getElem_cons_zero, List.setIfInBounds_toArray, List.set_cons_zero, List.set_cons_succ]
                  refine wpAnyH_take (i := 5) (v := .slice (some ⟨b, o, none⟩) n cap) rfl (by kernel_rfl) (by kernel_rfl) (by kernel_rfl) (fun _ _ _ h => h) (Or.inl ⟨by rfl, ?_⟩) hS0 ?_
                  · intro w hSw; go_simp
                  try simp only [Act.put, List.getElem_toArray, List.getElem_cons_succ, List.getElem_cons_zero, List.setIfInBounds_toArray, List.set_cons_zero, List.set_cons_succ]
                  refine wpAnyH_take (i := 6) (v := .int .i64 j) rfl (by kernel_rfl) (by kernel_rfl) (by kernel_rfl) (fun _ _ _ h => h) (Or.inl ⟨by rfl, ?_⟩) hS0 ?_
                  · intro w hSw; go_simp
                  try simp only [Act.put, List.getElem_toArray, List.getElem_cons_succ, List.getElem_cons_zero, List.setIfInBounds_toArray, List.set_cons_zero, List.set_cons_succ]
                  refine wpAnyH_take (i := 7) (v := .int .i64 k) rfl (by kernel_rfl) (by kernel_rfl) (by kernel_rfl) (fun _ _ _ h => h) (Or.inl ⟨by rfl, ?_⟩) hS0 ?_
                  · intro w hSw; have s1 := HK1.out; go_simp
                  try simp only [Act.put, List.getElem_toArray, List.getElem_cons_succ, List.getElem_cons_zero, List.setIfInBounds_toArray, List.set_cons_zero, List.set_cons_succ]
                  refine wpAnyH_take (i := 8) (v := .pointer (some ⟨b, o + k * 3, none⟩)) rfl (by kernel_rfl) (by kernel_rfl) (by kernel_rfl) (fun _ _ _ h => h) (Or.inl ⟨by rfl, ?_⟩) hS0 ?_
                  · intro w hSw; go_simp
                  try simp only [Act.put, List.getElem_toArray, List.getElem_cons_succ, List.getElem_cons_zero, List.setIfInBounds_toArray, List.set_cons_zero, List.set_cons_succ]
                  refine wpAnyH_take (i := 9) (v := .agg #[.int .i64 pc, .int .i64 pa, .int .i64 pv]) rfl (by kernel_rfl) (by kernel_rfl) (by kernel_rfl) (fun _ _ _ h => h) (Or.inl ⟨by rfl, ?_⟩) hS0 ?_
                  · intro w hSw; have s0 := gr_cell hSw d0; have s1 := gr_cell hSw d1; have s2 := gr_cell hSw d2; go_simp
                  try simp only [Act.put, List.getElem_toArray, List.getElem_cons_succ, List.getElem_cons_zero, List.setIfInBounds_toArray, List.set_cons_zero, List.set_cons_succ]
                  refine wpAnyH_ready (rs := [4]) (by kernel_rfl) (by simp) (AllReadyH.cons rfl (fun K' hK' => ?_) AllReadyH.nil)
                  go_simp
                  refine (pl_keyOf c at1 v _).mono ?_; rintro e w3 ⟨rfl, hg3⟩
                  refine hK'.out _ _ (hS0.trans hg3) (fun hS1 => ?_)
                  clear hK' K'
                  try simp only [Act.put, List.getElem_toArray, List.getElem_cons_succ, List.getElem_cons_zero, List.setIfInBounds_toArray, List.set_cons_zero, List.set_cons_succ]
                  refine wpAnyH_ready (rs := [10]) (by kernel_rfl) (by simp) (AllReadyH.cons rfl (fun K' hK' => ?_) AllReadyH.nil)
                  go_simp
                  refine (pl_keyOf pc pa pv _).mono ?_; rintro e w4 ⟨rfl, hg4⟩
                  refine hK'.out _ _ (hS1.trans hg4) (fun hS2 => ?_)
                  clear hK' K'
                  try simp only [Act.put, List.getElem_toArray, List.getElem_cons_succ, List.getElem_cons_zero, List.setIfInBounds_toArray, List.set_cons_zero, List.set_cons_succ]
                  refine wpAnyH_ready (rs := [11]) (by kernel_rfl) (by simp) (AllReadyH.cons rfl (fun K' hK' => ?_) AllReadyH.nil)
                  go_simp
                  refine (HX.out _).mono ?_; rintro e w5 ⟨rfl, hg5⟩
                  refine hK'.out _ _ (hS2.trans hg5) (fun hS3 => ?_)
                  clear hK' K'
                  try simp only [Act.put, List.getElem_toArray, List.getElem_cons_succ, List.getElem_cons_zero, List.setIfInBounds_toArray, List.set_cons_zero, List.set_cons_succ]
                  refine wpAnyH_take (i := 12) (v := .bool false) rfl (by kernel_rfl) (by kernel_rfl) (by kernel_rfl) (fun _ _ _ h => h) (Or.inl ⟨by rfl, ?_⟩) hS3 ?_
                  · intro w hSw; go_simp
                  try simp only [Act.put, List.getElem_toArray, List.getElem_cons_succ, List.getElem_cons_zero, List.setIfInBounds_toArray, List.set_cons_zero, List.set_cons_succ]
                  refine wpAnyH_take (i := 13) (v := .bool false) rfl (by kernel_rfl) (by kernel_rfl) (by kernel_rfl) (fun _ _ _ h => h) (Or.inl ⟨by rfl, ?_⟩) hS3 ?_
                  · intro w hSw; go_simp
                  try simp only [Act.put, List.getElem_toArray, List.getElem_cons_succ, List.getElem_cons_zero, List.setIfInBounds_toArray, List.set_cons_zero, List.set_cons_succ]
                  refine wpAnyH_take (i := 14) (v := .bool false) rfl (by kernel_rfl) (by kernel_rfl) (by kernel_rfl) (fun _ _ _ h => h) (Or.inl ⟨by rfl, ?_⟩) hS3 ?_
                  · intro w hSw; go_simp
                  try simp only [Act.put, List.getElem_toArray, List.getElem_cons_succ, List.getElem_cons_zero, List.setIfInBounds_toArray, List.set_cons_zero, List.set_cons_succ]
                  refine wpAnyH_done (by kernel_rfl) ?_ _
                  have HG3 := Lib.hid (HG.out.trans (HGA.out.trans hS3))
                  clear HG HX HKc HKp hc0 hc1 hc2 d0 d1 d2 e0 e1 e2
                  go_wp2
                  go_roundw
                  case rel => exact ⟨j + 1, by go_num, by omega, HE5, HG3⟩
                  case measure => simp [intOf]; omega
              · have hj1 : j = 0 := by omega
                have HE5 : Hid (chk huE (fun _ => 0) huK bef (prevK huK l (j + 1)) (l.drop (j + 1)) = E) := Lib.hid (by have := HE3.out; rw [if_pos (by rw [hj1]; rfl), if_pos rfl] at this; exact this)
                clear HE3 hj1
                go_wp2_with fail
                refine (HI0.out _).mono ?_; rintro e w1 ⟨rfl, rfl⟩
                go_wp2_with fail
                refine (HI1.out _).mono ?_; rintro e w1 ⟨rfl, rfl⟩
                go_wp2_with fail
                refine (HI2.out _).mono ?_; rintro e w1 ⟨rfl, rfl⟩
                go_wp2_with fail
                rw [← hwa, ← hp]
                clear hwa hp
                have hS0 : (fun w' : World => Gr wa w') wa.drew := (Gr.refl _).drew
                refine wp_region_held (S := fun w' : World => Gr wa w') (by kernel_rfl) ?_
                change wpAnyH _ _ _ _ _ _ _ _ wa.drew
                refine wpAnyH_take (i := 0) (v := .int .i64 j) rfl (by kernel_rfl) (by kernel_rfl) (by kernel_rfl) (fun _ _ _ h => h) (Or.inl ⟨by rfl, ?_⟩) hS0 ?_
                · intro w hSw; go_simp
                try simp only [Act.put, List.getElem_toArray, List.getElem_cons_succ, List.getElem_cons_zero, List.setIfInBounds_toArray, List.set_cons_zero, List.set_cons_succ]
                refine wpAnyH_take (i := 1) (v := .bool false) rfl (by kernel_rfl) (by kernel_rfl) (by kernel_rfl) (fun _ _ _ h => h) (Or.inl ⟨by rfl, ?_⟩) hS0 ?_
                · intro w hSw; go_simp
                try simp only [Act.put, List.getElem_toArray, List.getElem_cons_succ, List.getElem_cons_zero, List.setIfInBounds_toArray, List.set_cons_zero, List.set_cons_succ]
                refine wpAnyH_take (i := 2) (v := .bool false) rfl (by kernel_rfl) (by kernel_rfl) (by kernel_rfl) (fun _ _ _ h => h) (Or.inl ⟨by rfl, ?_⟩) hS0 ?_
                · intro w hSw; go_simp
                try simp only [Act.put, List.getElem_toArray, List.getElem_cons_succ, List.getElem_cons_zero, List.setIfInBounds_toArray, List.set_cons_zero, List.set_cons_succ]
                refine wpAnyH_take (i := 3) (v := undef) rfl (by kernel_rfl) (by kernel_rfl) (by kernel_rfl) (fun _ _ _ h => h) (Or.inr ⟨by kernel_rfl, rfl⟩) hS0 ?_
                try simp only [Act.put, List.getElem_toArray, List.getElem_cons_succ, List.getElem_cons_zero, List.setIfInBounds_toArray, List.set_cons_zero, List.set_cons_succ]
                refine wpAnyH_take (i := 4) (v := undef) rfl (by kernel_rfl) (by kernel_rfl) (by kernel_rfl) (fun _ _ _ h => h) (Or.inr ⟨by kernel_rfl, rfl⟩) hS0 ?_
                try simp only [Act.put, List.getElem_toArray, List.getElem_cons_succ, List.getElem_cons_zero, List.setIfInBounds_toArray, List.set_cons_zero, List.set_cons_succ]
                refine wpAnyH_take (i := 5) (v := undef) rfl (by kernel_rfl) (by kernel_rfl) (by kernel_rfl) (fun _ _ _ h => h) (Or.inr ⟨by kernel_rfl, rfl⟩) hS0 ?_
                try simp only [Act.put, List.getElem_toArray, List.getElem_cons_succ, List.getElem_cons_zero, List.setIfInBounds_toArray, List.set_cons_zero, List.set_cons_succ]
                refine wpAnyH_take (i := 6) (v := undef) rfl (by kernel_rfl) (by kernel_rfl) (by kernel_rfl) (fun _ _ _ h => h) (Or.inr ⟨by kernel_rfl, rfl⟩) hS0 ?_
                try simp only [Act.put, List.getElem_toArray, List.getElem_cons_succ, List.getElem_cons_zero, List.setIfInBounds_toArray, List.set_cons_zero, List.set_cons_succ]
                refine wpAnyH_take (i := 7) (v := undef) rfl (by kernel_rfl) (by kernel_rfl) (by kernel_rfl) (fun _ _ _ h => h) (Or.inr ⟨by kernel_rfl, rfl⟩) hS0 ?_
                try simp only [Act.put, List.getElem_toArray, List.getElem_cons_succ, List.getElem_cons_zero, List.setIfInBounds_toArray, List.set_cons_zero, List.set_cons_succ]
                refine wpAnyH_take (i := 8) (v := undef) rfl (by kernel_rfl) (by kernel_rfl) (by kernel_rfl) (fun _ _ _ h => h) (Or.inr ⟨by kernel_rfl, rfl⟩) hS0 ?_
                try simp only [Act.put, List.getElem_toArray, List.getElem_cons_succ, List.getElem_cons_zero, List.setIfInBounds_toArray, List.set_cons_zero, List.set_cons_succ]
                refine wpAnyH_take (i := 9) (v := undef) rfl (by kernel_rfl) (by kernel_rfl) (by kernel_rfl) (fun _ _ _ h => h) (Or.inr ⟨by kernel_rfl, rfl⟩) hS0 ?_
                try simp only [Act.put, List.getElem_toArray, List.getElem_cons_succ, List.getElem_cons_zero, List.setIfInBounds_toArray, List.set_cons_zero, List.set_cons_succ]
                refine wpAnyH_take (i := 10) (v := undef) rfl (by kernel_rfl) (by kernel_rfl) (by kernel_rfl) (fun _ _ _ h => h) (Or.inr ⟨by kernel_rfl, rfl⟩) hS0 ?_
                try simp only [Act.put, List.getElem_toArray, List.getElem_cons_succ, List.getElem_cons_zero, List.setIfInBounds_toArray, List.set_cons_zero, List.set_cons_succ]
                refine wpAnyH_take (i := 11) (v := undef) rfl (by kernel_rfl) (by kernel_rfl) (by kernel_rfl) (fun _ _ _ h => h) (Or.inr ⟨by kernel_rfl, rfl⟩) hS0 ?_
                try simp only [Act.put, List.getElem_toArray, List.getElem_cons_succ, List.getElem_cons_zero, List.setIfInBounds_toArray, List.set_cons_zero, List.set_cons_succ]
                refine wpAnyH_take (i := 12) (v := undef) rfl (by kernel_rfl) (by kernel_rfl) (by kernel_rfl) (fun _ _ _ h => h) (Or.inr ⟨by kernel_rfl, rfl⟩) hS0 ?_
                try simp only [Act.put, List.getElem_toArray, List.getElem_cons_succ, List.getElem_cons_zero, List.setIfInBounds_toArray, List.set_cons_zero, List.set_cons_succ]
                refine wpAnyH_take (i := 13) (v := .bool false) rfl (by kernel_rfl) (by kernel_rfl) (by kernel_rfl) (fun _ _ _ h => h) (Or.inl ⟨by rfl, ?_⟩) hS0 ?_
                · intro w hSw; go_simp
                try simp only [Act.put, List.getElem_toArray, List.getElem_cons_succ, List.getElem_cons_zero, List.setIfInBounds_toArray, List.set_cons_zero, List.set_cons_succ]
                refine wpAnyH_take (i := 14) (v := .bool false) rfl (by kernel_rfl) (by kernel_rfl) (by kernel_rfl) (fun _ _ _ h => h) (Or.inl ⟨by rfl, ?_⟩) hS0 ?_
                · intro w hSw; go_simp
                try simp only [Act.put, List.getElem_toArray, List.getElem_cons_succ, List.getElem_cons_zero, List.setIfInBounds_toArray, List.set_cons_zero, List.set_cons_succ]
                refine wpAnyH_done (by kernel_rfl) ?_ _
                have HG3 := Lib.hid (HG.out.trans (HGA.out.trans hS0))
                clear HG HKc hc0 hc1 hc2 e0 e1 e2
                go_wp2
                go_roundw
                case rel => exact ⟨j + 1, by go_num, by omega, HE5, HG3⟩
                case measure => simp [intOf]; omega
            · rw [decide_eq_false k2] at HI2
              have hv : E = 2 := by rw [← HE2.out, HH.out, if_neg (by omega), if_neg (by omega)]
              subst hv
              clear HE2 HH k0 k1 k2
              go_wp2_with fail
              refine (HI0.out _).mono ?_; rintro e w1 ⟨rfl, rfl⟩
              go_wp2_with fail
              refine (HI1.out _).mono ?_; rintro e w1 ⟨rfl, rfl⟩
              go_wp2_with fail
              refine (HI2.out _).mono ?_; rintro e w1 ⟨rfl, rfl⟩
              go_wp2
              rw [← hwa]
              go_ret
              exact ⟨rfl, HG.out.trans HGA.out⟩
          · rw [decide_eq_false k1] at HI1
            have hv : E = 2 := by rw [← HE2.out, HH.out, if_neg (by omega), if_neg (by omega)]
            subst hv
            clear HE2 HH k0 k1
            go_wp2_with fail
            refine (HI0.out _).mono ?_; rintro e w1 ⟨rfl, rfl⟩
            go_wp2_with fail
            refine (HI1.out _).mono ?_; rintro e w1 ⟨rfl, rfl⟩
            go_wp2
            rw [← hwa]
            go_ret
            exact ⟨rfl, HG.out.trans HGA.out⟩
        · rw [decide_eq_false k0] at HI0
          have hv : E = 2 := by rw [← HE2.out, HH.out, if_neg (by omega), if_neg (by omega)]
          subst hv
          clear HE2 HH k0
          go_wp2_with fail
          refine (HI0.out _).mono ?_; rintro e w1 ⟨rfl, rfl⟩
          go_wp2
          rw [← hwa]
          go_ret
          exact ⟨rfl, HG.out.trans HGA.out⟩
      · have hv : E = 0 := by
          have := HE.out
          rw [List.drop_eq_nil_of_le (by rw [← HN.out]; omega)] at this
          exact this.symm
        subst hv
        clear HE
        go_wp2
        go_ret
        exact ⟨rfl, HG.out⟩
end Go.Proofs.Ytgjlcmheipmmlaa
