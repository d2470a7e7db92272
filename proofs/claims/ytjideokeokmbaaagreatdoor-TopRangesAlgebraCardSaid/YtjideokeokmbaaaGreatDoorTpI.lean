/- T3: sets of channels are an algebra: the closures. -/
import Derived.Test.YtjideokeokmbaaaGreatDoorTpH
set_option linter.unusedVariables false
set_option linter.unusedSimpArgs false
namespace Go.Proofs.YtjideokeokmbaaaGreatDoor
open Go.RowKit Go.Shelf
open Z
theorem setCell_self {w : World} {b o : Nat} {v : Value} (h : w.cell? ⟨b, o, none⟩ = some v) : w.setCell ⟨b, o, none⟩ v = w := by
  unfold World.cell? at h
  unfold World.setCell
  have e : ∀ (l : Array Obj) (f : Obj → Obj), (∀ x, l[b]? = some x → f x = x) → l.modify b f = l := fun l f hf => by
    refine Array.ext_getElem? fun j => ?_
    rw [Array.getElem?_modify]
    split
    · rename_i hj; subst hj
      cases hx : l[b]? with
      | none => rfl
      | some x => simp [hf x hx]
    · rfl
  rw [e]
  intro x hx
  simp only [hx] at h
  cases x <;> simp_all
  rename_i c e f
  refine Array.ext_getElem? fun j => ?_
  rw [Array.getElem?_setIfInBounds]
  split
  · rename_i hj; subst hj
    obtain ⟨h1, h2⟩ := Array.getElem?_eq_some_iff.1 h
    rw [if_pos h1, h]
  · rfl
/-- a slice of ranges in good form -/
def SlR (w : World) (v : Value) (X : RL) : Prop := (∃ b c, v = .slice b X.length c ∧ RngAt w b X ∧ (b = none → c = 0) ∧ ∀ p o, b = some ⟨p, o, none⟩ → p < w.heap.size) ∧ checkR X = 0 ∧ X.length ≤ 1000
theorem SlR.gr {w w' : World} {v : Value} {X : RL} (h : SlR w v X) (hg : Gr w w') : SlR w' v X := by
  obtain ⟨⟨b, c, rfl, h1, h2, h3⟩, h4, h5⟩ := h
  exact ⟨⟨b, c, rfl, h1.gr hg, h2, fun p o e => Nat.lt_of_lt_of_le (h3 p o e) hg.size⟩, h4, h5⟩
theorem SlR.of {w : World} {B : Nat} {v : Value} {X : RL} (h : OwnR B w v X) (h1 : checkR X = 0) (h2 : X.length ≤ 1000) : ∃ b n c, v = .slice b n c ∧ SlR w (.slice b n c) X := by
  obtain ⟨b, c, rfl, a1, a2, a3⟩ := h.shape2
  exact ⟨b, _, c, rfl, ⟨b, c, rfl, a1, a2, a3⟩, h1, h2⟩
theorem SlR.slice {w : World} {v : Value} {X : RL} (h : SlR w v X) : ∃ b n c, v = .slice b n c := by
  obtain ⟨⟨b, c, rfl, -⟩, -⟩ := h
  exact ⟨_, _, _, rfl⟩
/-- the cells that the closures hold -/
structure PC (w : World) (gc gp : Nat) : Prop where
  c : w.cell? ⟨gc, 0, none⟩ = some (.pointer (some ⟨gp, 0, none⟩))
  p : w.cell? ⟨gp, 0, none⟩ = some (.bool true)
  f : w.frozen? ⟨gp, 0, none⟩ = false
theorem PC.gr {w w' : World} {gc gp : Nat} (h : PC w gc gp) (hg : Gr w w') : PC w' gc gp := by
  refine ⟨gr_cellT hg h.c, gr_cellT hg h.p, ?_⟩
  have e := hg.block gp (cellLt h.p)
  have := h.f; unfold World.frozen? at this ⊢; rw [e]; exact this
set_option maxRecDepth 100000 in
set_option maxHeartbeats 1000000 in
theorem pl_of (gp : Nat) (v : Value) (w : World) (h : w.cell? ⟨gp, 0, none⟩ = some (.bool true)) (hf : w.frozen? ⟨gp, 0, none⟩ = false) :
    Calls Tryz.prog 7 #[.pointer (some ⟨gp, 0, none⟩), v, .int .i64 0] w fun e w' => e = .returned v ∧ w' = w := by
  have hs := setCell_self h
  go_enter Tryz.func7, Tryz.ntmps7
  go_wp2
  go_ret
  exact ⟨rfl, rfl⟩
set_option maxRecDepth 100000 in
set_option maxHeartbeats 2000000 in
theorem al_orR {gc gp : Nat} {va vb : Value} {X Y : RL} (w : World) (hc : PC w gc gp) (ha : SlR w va X) (hb : SlR w vb Y) :
    Calls Tryz.prog 6 #[va, vb, .pointer (some ⟨gc, 0, none⟩)] w fun e w' => ∃ b n c, e = .returned (.slice b n c) ∧ SlR w' (.slice b n c) (orR X Y) ∧ Gr w w' := by
  obtain ⟨⟨ba, ca, rfl, a1, a2, a3⟩, a4, a5⟩ := ha
  obtain ⟨⟨bb, cb, rfl, b1, b2, b3⟩, b4, b5⟩ := hb
  have UN := Lib.hid (fun w' (hg : Gr w w') => ra_Union ba bb X Y ca cb w' (a1.gr hg) (b1.gr hg) a2 b2 (by omega) (by omega) (fun p o e => Nat.lt_of_lt_of_le (a3 p o e) hg.size) (fun p o e => Nat.lt_of_lt_of_le (b3 p o e) hg.size))
  have eU : (combR (fun x y => x || y) X Y).2 = 0 := (comb_chk a4 b4).2
  rw [eU] at UN
  have lU := combR_len2 (fun x y => x || y) X Y
  have cU : checkR (combR (fun x y => x || y) X Y).1 = 0 := (comb_chk a4 b4).1
  unfold orR
  generalize (combR (fun x y => x || y) X Y).1 = U at *
  have SL := Lib.hid (fun (w : World) (B : Nat) (v : Value) (h : OwnR B w v U) => SlR.of h cU lU)
  have HC := Lib.hid hc
  clear a1 a2 a3 a4 a5 b1 b2 b3 b4 b5 eU lU cU hc
  go_enter Tryz.func6, Tryz.ntmps6
  go_wp2
  have hS0 : (fun w' : World => Gr w w') w.drew := (Gr.refl _).drew
  refine wp_region_held (S := fun w' : World => Gr w w') (by kernel_rfl) ?_
  change wpAnyH _ _ _ _ _ _ _ _ w.drew
  refine wpAnyH_take (i := 0) (v := (.pointer (some ⟨gp, 0, none⟩))) rfl (by kernel_rfl) (by kernel_rfl) (by kernel_rfl) (fun _ _ _ h => h) (Or.inl ⟨by rfl, ?_⟩) hS0 ?_
  · intro w hSw; have s1 := gr_cellT hSw HC.out.c; go_simp
  try simp only [Act.put, List.getElem_toArray, List.getElem_cons_succ, List.getElem_cons_zero, List.setIfInBounds_toArray, List.set_cons_zero, List.set_cons_succ]
  refine wpAnyH_take (i := 1) (v := .slice ba X.length ca) rfl (by kernel_rfl) (by kernel_rfl) (by kernel_rfl) (fun _ _ _ h => h) (Or.inl ⟨by rfl, ?_⟩) hS0 ?_
  · intro w hSw; go_simp
  try simp only [Act.put, List.getElem_toArray, List.getElem_cons_succ, List.getElem_cons_zero, List.setIfInBounds_toArray, List.set_cons_zero, List.set_cons_succ]
  refine wpAnyH_take (i := 2) (v := .slice bb Y.length cb) rfl (by kernel_rfl) (by kernel_rfl) (by kernel_rfl) (fun _ _ _ h => h) (Or.inl ⟨by rfl, ?_⟩) hS0 ?_
  · intro w hSw; go_simp
  try simp only [Act.put, List.getElem_toArray, List.getElem_cons_succ, List.getElem_cons_zero, List.setIfInBounds_toArray, List.set_cons_zero, List.set_cons_succ]
  refine wpAnyH_ready (rs := [3]) (by kernel_rfl) (by simp) (AllReadyH.cons rfl (fun K' hK' => ?_) AllReadyH.nil)
  go_simp
  refine (UN.out _ hS0).mono ?_; rintro e w6 ⟨v, rfl, ho, hg⟩
  have HG6 := Lib.hid (Gr.trans hS0 hg)
  obtain ⟨b, n, c, rfl, hsl⟩ := SL.out _ _ _ ho
  have HSL := Lib.hid hsl
  clear ho hsl hg UN SL
  refine hK'.out _ _ HG6.out (fun hS1 => ?_)
  clear hK' K'
  try simp only [Act.put, List.getElem_toArray, List.getElem_cons_succ, List.getElem_cons_zero, List.setIfInBounds_toArray, List.set_cons_zero, List.set_cons_succ]
  refine wpAnyH_take (i := 4) (v := .slice b n c) rfl (by kernel_rfl) (by kernel_rfl) (by kernel_rfl) (fun _ _ _ h => h) (Or.inl ⟨by rfl, ?_⟩) hS1 ?_
  · intro w hSw; go_simp
  try simp only [Act.put, List.getElem_toArray, List.getElem_cons_succ, List.getElem_cons_zero, List.setIfInBounds_toArray, List.set_cons_zero, List.set_cons_succ]
  refine wpAnyH_take (i := 5) (v := .int .i64 0) rfl (by kernel_rfl) (by kernel_rfl) (by kernel_rfl) (fun _ _ _ h => h) (Or.inl ⟨by rfl, ?_⟩) hS1 ?_
  · intro w hSw; go_simp
  try simp only [Act.put, List.getElem_toArray, List.getElem_cons_succ, List.getElem_cons_zero, List.setIfInBounds_toArray, List.set_cons_zero, List.set_cons_succ]
  refine wpAnyH_ready (rs := [6]) (by kernel_rfl) (by simp) (AllReadyH.cons rfl (fun K' hK' => ?_) AllReadyH.nil)
  go_simp
  refine (pl_of gp _ _ (HC.out.gr HG6.out).p (HC.out.gr HG6.out).f).mono ?_; rintro e w7 ⟨rfl, rfl⟩
  refine hK'.out _ _ HG6.out (fun hS2 => ?_)
  clear hK' K'
  try simp only [Act.put, List.getElem_toArray, List.getElem_cons_succ, List.getElem_cons_zero, List.setIfInBounds_toArray, List.set_cons_zero, List.set_cons_succ]
  refine wpAnyH_take (i := 7) (v := .slice b n c) rfl (by kernel_rfl) (by kernel_rfl) (by kernel_rfl) (fun _ _ _ h => h) (Or.inl ⟨by rfl, ?_⟩) hS2 ?_
  · intro w hSw; go_simp
  try simp only [Act.put, List.getElem_toArray, List.getElem_cons_succ, List.getElem_cons_zero, List.setIfInBounds_toArray, List.set_cons_zero, List.set_cons_succ]
  refine wpAnyH_done (by kernel_rfl) ?_ _
  go_wp2
  go_ret
  exact ⟨_, _, _, rfl, HSL.out, HG6.out⟩
set_option maxRecDepth 100000 in
set_option maxHeartbeats 2000000 in
theorem al_anR {gc gp : Nat} {va vb : Value} {X Y : RL} (w : World) (hc : PC w gc gp) (ha : SlR w va X) (hb : SlR w vb Y) :
    Calls Tryz.prog 9 #[va, vb, .pointer (some ⟨gc, 0, none⟩)] w fun e w' => ∃ b n c, e = .returned (.slice b n c) ∧ SlR w' (.slice b n c) (anR X Y) ∧ Gr w w' := by
  obtain ⟨⟨ba, ca, rfl, a1, a2, a3⟩, a4, a5⟩ := ha
  obtain ⟨⟨bb, cb, rfl, b1, b2, b3⟩, b4, b5⟩ := hb
  have UN := Lib.hid (fun w' (hg : Gr w w') => ra_Common ba bb X Y ca cb w' (a1.gr hg) (b1.gr hg) a2 b2 (by omega) (by omega) (fun p o e => Nat.lt_of_lt_of_le (a3 p o e) hg.size) (fun p o e => Nat.lt_of_lt_of_le (b3 p o e) hg.size))
  have eU : (combR (fun x y => x && y) X Y).2 = 0 := (comb_chk a4 b4).2
  rw [eU] at UN
  have lU := combR_len2 (fun x y => x && y) X Y
  have cU : checkR (combR (fun x y => x && y) X Y).1 = 0 := (comb_chk a4 b4).1
  unfold anR
  generalize (combR (fun x y => x && y) X Y).1 = U at *
  have SL := Lib.hid (fun (w : World) (B : Nat) (v : Value) (h : OwnR B w v U) => SlR.of h cU lU)
  have HC := Lib.hid hc
  clear a1 a2 a3 a4 a5 b1 b2 b3 b4 b5 eU lU cU hc
  go_enter Tryz.func9, Tryz.ntmps9
  go_wp2
  have hS0 : (fun w' : World => Gr w w') w.drew := (Gr.refl _).drew
  refine wp_region_held (S := fun w' : World => Gr w w') (by kernel_rfl) ?_
  change wpAnyH _ _ _ _ _ _ _ _ w.drew
  refine wpAnyH_take (i := 0) (v := (.pointer (some ⟨gp, 0, none⟩))) rfl (by kernel_rfl) (by kernel_rfl) (by kernel_rfl) (fun _ _ _ h => h) (Or.inl ⟨by rfl, ?_⟩) hS0 ?_
  · intro w hSw; have s1 := gr_cellT hSw HC.out.c; go_simp
  try simp only [Act.put, List.getElem_toArray, List.getElem_cons_succ, List.getElem_cons_zero, List.setIfInBounds_toArray, List.set_cons_zero, List.set_cons_succ]
  refine wpAnyH_take (i := 1) (v := .slice ba X.length ca) rfl (by kernel_rfl) (by kernel_rfl) (by kernel_rfl) (fun _ _ _ h => h) (Or.inl ⟨by rfl, ?_⟩) hS0 ?_
  · intro w hSw; go_simp
  try simp only [Act.put, List.getElem_toArray, List.getElem_cons_succ, List.getElem_cons_zero, List.setIfInBounds_toArray, List.set_cons_zero, List.set_cons_succ]
  refine wpAnyH_take (i := 2) (v := .slice bb Y.length cb) rfl (by kernel_rfl) (by kernel_rfl) (by kernel_rfl) (fun _ _ _ h => h) (Or.inl ⟨by rfl, ?_⟩) hS0 ?_
  · intro w hSw; go_simp
  try simp only [Act.put, List.getElem_toArray, List.getElem_cons_succ, List.getElem_cons_zero, List.setIfInBounds_toArray, List.set_cons_zero, List.set_cons_succ]
  refine wpAnyH_ready (rs := [3]) (by kernel_rfl) (by simp) (AllReadyH.cons rfl (fun K' hK' => ?_) AllReadyH.nil)
  go_simp
  refine (UN.out _ hS0).mono ?_; rintro e w6 ⟨v, rfl, ho, hg⟩
  have HG6 := Lib.hid (Gr.trans hS0 hg)
  obtain ⟨b, n, c, rfl, hsl⟩ := SL.out _ _ _ ho
  have HSL := Lib.hid hsl
  clear ho hsl hg UN SL
  refine hK'.out _ _ HG6.out (fun hS1 => ?_)
  clear hK' K'
  try simp only [Act.put, List.getElem_toArray, List.getElem_cons_succ, List.getElem_cons_zero, List.setIfInBounds_toArray, List.set_cons_zero, List.set_cons_succ]
  refine wpAnyH_take (i := 4) (v := .slice b n c) rfl (by kernel_rfl) (by kernel_rfl) (by kernel_rfl) (fun _ _ _ h => h) (Or.inl ⟨by rfl, ?_⟩) hS1 ?_
  · intro w hSw; go_simp
  try simp only [Act.put, List.getElem_toArray, List.getElem_cons_succ, List.getElem_cons_zero, List.setIfInBounds_toArray, List.set_cons_zero, List.set_cons_succ]
  refine wpAnyH_take (i := 5) (v := .int .i64 0) rfl (by kernel_rfl) (by kernel_rfl) (by kernel_rfl) (fun _ _ _ h => h) (Or.inl ⟨by rfl, ?_⟩) hS1 ?_
  · intro w hSw; go_simp
  try simp only [Act.put, List.getElem_toArray, List.getElem_cons_succ, List.getElem_cons_zero, List.setIfInBounds_toArray, List.set_cons_zero, List.set_cons_succ]
  refine wpAnyH_ready (rs := [6]) (by kernel_rfl) (by simp) (AllReadyH.cons rfl (fun K' hK' => ?_) AllReadyH.nil)
  go_simp
  refine (pl_of gp _ _ (HC.out.gr HG6.out).p (HC.out.gr HG6.out).f).mono ?_; rintro e w7 ⟨rfl, rfl⟩
  refine hK'.out _ _ HG6.out (fun hS2 => ?_)
  clear hK' K'
  try simp only [Act.put, List.getElem_toArray, List.getElem_cons_succ, List.getElem_cons_zero, List.setIfInBounds_toArray, List.set_cons_zero, List.set_cons_succ]
  refine wpAnyH_take (i := 7) (v := .slice b n c) rfl (by kernel_rfl) (by kernel_rfl) (by kernel_rfl) (fun _ _ _ h => h) (Or.inl ⟨by rfl, ?_⟩) hS2 ?_
  · intro w hSw; go_simp
  try simp only [Act.put, List.getElem_toArray, List.getElem_cons_succ, List.getElem_cons_zero, List.setIfInBounds_toArray, List.set_cons_zero, List.set_cons_succ]
  refine wpAnyH_done (by kernel_rfl) ?_ _
  go_wp2
  go_ret
  exact ⟨_, _, _, rfl, HSL.out, HG6.out⟩
set_option maxRecDepth 100000 in
set_option maxHeartbeats 2000000 in
theorem al_leR {gc gp : Nat} {va vb : Value} {X Y : RL} (w : World) (hc : PC w gc gp) (ha : SlR w va X) (hb : SlR w vb Y) :
    Calls Tryz.prog 11 #[va, vb, .pointer (some ⟨gc, 0, none⟩)] w fun e w' => ∃ b n c, e = .returned (.slice b n c) ∧ SlR w' (.slice b n c) (leR X Y) ∧ Gr w w' := by
  obtain ⟨⟨ba, ca, rfl, a1, a2, a3⟩, a4, a5⟩ := ha
  obtain ⟨⟨bb, cb, rfl, b1, b2, b3⟩, b4, b5⟩ := hb
  have UN := Lib.hid (fun w' (hg : Gr w w') => ra_Minus ba bb X Y ca cb w' (a1.gr hg) (b1.gr hg) a2 b2 (by omega) (by omega) (fun p o e => Nat.lt_of_lt_of_le (a3 p o e) hg.size) (fun p o e => Nat.lt_of_lt_of_le (b3 p o e) hg.size))
  have eU : (combR (fun x y => x && !y) X Y).2 = 0 := (comb_chk a4 b4).2
  rw [eU] at UN
  have lU := combR_len2 (fun x y => x && !y) X Y
  have cU : checkR (combR (fun x y => x && !y) X Y).1 = 0 := (comb_chk a4 b4).1
  unfold leR
  generalize (combR (fun x y => x && !y) X Y).1 = U at *
  have SL := Lib.hid (fun (w : World) (B : Nat) (v : Value) (h : OwnR B w v U) => SlR.of h cU lU)
  have HC := Lib.hid hc
  clear a1 a2 a3 a4 a5 b1 b2 b3 b4 b5 eU lU cU hc
  go_enter Tryz.func11, Tryz.ntmps11
  go_wp2
  have hS0 : (fun w' : World => Gr w w') w.drew := (Gr.refl _).drew
  refine wp_region_held (S := fun w' : World => Gr w w') (by kernel_rfl) ?_
  change wpAnyH _ _ _ _ _ _ _ _ w.drew
  refine wpAnyH_take (i := 0) (v := (.pointer (some ⟨gp, 0, none⟩))) rfl (by kernel_rfl) (by kernel_rfl) (by kernel_rfl) (fun _ _ _ h => h) (Or.inl ⟨by rfl, ?_⟩) hS0 ?_
  · intro w hSw; have s1 := gr_cellT hSw HC.out.c; go_simp
  try simp only [Act.put, List.getElem_toArray, List.getElem_cons_succ, List.getElem_cons_zero, List.setIfInBounds_toArray, List.set_cons_zero, List.set_cons_succ]
  refine wpAnyH_take (i := 1) (v := .slice ba X.length ca) rfl (by kernel_rfl) (by kernel_rfl) (by kernel_rfl) (fun _ _ _ h => h) (Or.inl ⟨by rfl, ?_⟩) hS0 ?_
  · intro w hSw; go_simp
  try simp only [Act.put, List.getElem_toArray, List.getElem_cons_succ, List.getElem_cons_zero, List.setIfInBounds_toArray, List.set_cons_zero, List.set_cons_succ]
  refine wpAnyH_take (i := 2) (v := .slice bb Y.length cb) rfl (by kernel_rfl) (by kernel_rfl) (by kernel_rfl) (fun _ _ _ h => h) (Or.inl ⟨by rfl, ?_⟩) hS0 ?_
  · intro w hSw; go_simp
  try simp only [Act.put, List.getElem_toArray, List.getElem_cons_succ, List.getElem_cons_zero, List.setIfInBounds_toArray, List.set_cons_zero, List.set_cons_succ]
  refine wpAnyH_ready (rs := [3]) (by kernel_rfl) (by simp) (AllReadyH.cons rfl (fun K' hK' => ?_) AllReadyH.nil)
  go_simp
  refine (UN.out _ hS0).mono ?_; rintro e w6 ⟨v, rfl, ho, hg⟩
  have HG6 := Lib.hid (Gr.trans hS0 hg)
  obtain ⟨b, n, c, rfl, hsl⟩ := SL.out _ _ _ ho
  have HSL := Lib.hid hsl
  clear ho hsl hg UN SL
  refine hK'.out _ _ HG6.out (fun hS1 => ?_)
  clear hK' K'
  try simp only [Act.put, List.getElem_toArray, List.getElem_cons_succ, List.getElem_cons_zero, List.setIfInBounds_toArray, List.set_cons_zero, List.set_cons_succ]
  refine wpAnyH_take (i := 4) (v := .slice b n c) rfl (by kernel_rfl) (by kernel_rfl) (by kernel_rfl) (fun _ _ _ h => h) (Or.inl ⟨by rfl, ?_⟩) hS1 ?_
  · intro w hSw; go_simp
  try simp only [Act.put, List.getElem_toArray, List.getElem_cons_succ, List.getElem_cons_zero, List.setIfInBounds_toArray, List.set_cons_zero, List.set_cons_succ]
  refine wpAnyH_take (i := 5) (v := .int .i64 0) rfl (by kernel_rfl) (by kernel_rfl) (by kernel_rfl) (fun _ _ _ h => h) (Or.inl ⟨by rfl, ?_⟩) hS1 ?_
  · intro w hSw; go_simp
  try simp only [Act.put, List.getElem_toArray, List.getElem_cons_succ, List.getElem_cons_zero, List.setIfInBounds_toArray, List.set_cons_zero, List.set_cons_succ]
  refine wpAnyH_ready (rs := [6]) (by kernel_rfl) (by simp) (AllReadyH.cons rfl (fun K' hK' => ?_) AllReadyH.nil)
  go_simp
  refine (pl_of gp _ _ (HC.out.gr HG6.out).p (HC.out.gr HG6.out).f).mono ?_; rintro e w7 ⟨rfl, rfl⟩
  refine hK'.out _ _ HG6.out (fun hS2 => ?_)
  clear hK' K'
  try simp only [Act.put, List.getElem_toArray, List.getElem_cons_succ, List.getElem_cons_zero, List.setIfInBounds_toArray, List.set_cons_zero, List.set_cons_succ]
  refine wpAnyH_take (i := 7) (v := .slice b n c) rfl (by kernel_rfl) (by kernel_rfl) (by kernel_rfl) (fun _ _ _ h => h) (Or.inl ⟨by rfl, ?_⟩) hS2 ?_
  · intro w hSw; go_simp
  try simp only [Act.put, List.getElem_toArray, List.getElem_cons_succ, List.getElem_cons_zero, List.setIfInBounds_toArray, List.set_cons_zero, List.set_cons_succ]
  refine wpAnyH_done (by kernel_rfl) ?_ _
  go_wp2
  go_ret
  exact ⟨_, _, _, rfl, HSL.out, HG6.out⟩
end Go.Proofs.YtjideokeokmbaaaGreatDoor
