/- Sets of channels: the program's operations of sets: combine. -/
import Derived.Test.YtjideokeokmbaaaGreatDoorRgD
set_option linter.unusedVariables false
set_option linter.unusedSimpArgs false
namespace Go.Proofs.YtjideokeokmbaaaGreatDoor
open Go.RowKit Go.Shelf
open Z
attribute [local go_sem] Oper.semAt_some
set_option maxRecDepth 100000 in
set_option maxHeartbeats 2000000 in
theorem ra_combine_bad (fid : Nat) (a b : Option Addr) (A B : List (Int × Int)) (ca cb : Nat) (w : World) (hA : RngAt w a A) (hB : RngAt w b B) (hca : a = none → ca = 0) (hcb : b = none → cb = 0) (hla : A.length ≤ 10000000000000) (hlb : B.length ≤ 10000000000000) (rem : Bool → Bool → Bool)
    (hbad : ¬ (checkR A = 0 ∧ checkR B = 0)) :
    Calls Tryz.prog 19 #[.slice a A.length ca, .slice b B.length cb, .func (.func fid) #[] #[]] w fun e w' => ∃ v, e = .returned (.tuple #[v, .int .i64 (combR rem A B).2]) ∧ OwnR w.heap.size w' v (combR rem A B).1 ∧ Gr w w' := by
  have C := Lib.hid (fun w' (hg : Gr w w') => ra_Check a A ca w' (hA.gr hg) hca hla)
  have D := Lib.hid (fun w' (hg : Gr w w') => ra_Check b B cb w' (hB.gr hg) hcb hlb)
  have HG := Lib.hid ((Gr.refl w).alloc (.cells #[.func (.func fid) #[] #[]] 50))
  unfold combR
  clear hA hB hca hcb hla hlb
  generalize A.length = la at *
  generalize B.length = lb at *
  by_cases h : checkR A = 0
  · have h2 : ¬ checkR B = 0 := fun e => hbad ⟨h, e⟩
    rw [if_neg (by simp [h]), if_pos h2]
    rw [h] at C
    clear hbad
    generalize checkR B = v at *
    have hv : (v == 0) = false := by rw [beq_eq_false_iff_ne]; exact h2
    go_enter Tryz.func19, Tryz.ntmps19
    go_wp2_with fail
    refine (C.out _ HG.out).mono ?_; rintro e w2 ⟨rfl, hg2⟩
    have HG2 := Lib.hid (Gr.trans HG.out hg2)
    clear hg2
    go_wp2_with fail
    refine (D.out _ HG2.out).mono ?_; rintro e w3 ⟨rfl, hg3⟩
    have HG3 := Lib.hid (Gr.trans HG2.out hg3)
    clear hg3
    go_wp2
    go_ret2
    exact ⟨_, rfl, OwnR.nil _ _, HG3.out⟩
  · rw [if_pos h]
    clear hbad
    generalize checkR A = v at *
    have hv : (v == 0) = false := by rw [beq_eq_false_iff_ne]; exact h
    go_enter Tryz.func19, Tryz.ntmps19
    go_wp2_with fail
    refine (C.out _ HG.out).mono ?_; rintro e w2 ⟨rfl, hg2⟩
    have HG2 := Lib.hid (Gr.trans HG.out hg2)
    clear hg2
    go_wp2
    go_ret2
    exact ⟨_, rfl, OwnR.nil _ _, HG2.out⟩
set_option maxRecDepth 100000 in
set_option maxHeartbeats 4000000 in
theorem ra_combine_ok (fid : Nat) (hent : ∀ args w, (callFunc fid args).run Tryz.prog w = .ok (.enter fid args) w) (a b : Option Addr) (A B : List (Int × Int)) (ca cb : Nat) (w : World) (hA : RngAt w a A) (hB : RngAt w b B) (hca : a = none → ca = 0) (hcb : b = none → cb = 0) (hla : A.length ≤ 1000000) (hlb : B.length ≤ 1000000) (rem : Bool → Bool → Bool)
    (hpa : ∀ p o, a = some ⟨p, o, none⟩ → p < w.heap.size) (hpb : ∀ p o, b = some ⟨p, o, none⟩ → p < w.heap.size)
    (hrem : ∀ x y w, Calls Tryz.prog fid #[.bool x, .bool y] w fun e w' => e = .returned (.bool (rem x y)) ∧ w = w') (h0 : checkR A = 0) (h1 : checkR B = 0) :
    Calls Tryz.prog 19 #[.slice a A.length ca, .slice b B.length cb, .func (.func fid) #[] #[]] w fun e w' => ∃ v, e = .returned (.tuple #[v, .int .i64 0]) ∧ OwnR w.heap.size w' v (setS (combG rem (inR A) (inR B) (chans [(1, 999)])) 1000) ∧ Gr w w' := by
  obtain ⟨hzv, hzs⟩ := zero_of_info Tryz.infoMembers
  obtain ⟨Z, hZ⟩ : ∃ Z, memA (fun _ => false) = Z := ⟨_, rfl⟩
  rw [hZ] at hzv
  have HZ := Lib.hid hZ
  clear hZ
  have C := Lib.hid (fun w' (hg : Gr w w') => ra_Check a A ca w' (hA.gr hg) hca (by omega))
  have D := Lib.hid (fun w' (hg : Gr w w') => ra_Check b B cb w' (hB.gr hg) hcb (by omega))
  rw [h0] at C
  rw [h1] at D
  have MA : Hid (∀ w', Gr w w' → Calls Tryz.prog 33 #[.slice a A.length ca] w' fun e w2 => e = .returned (.agg (memA (inR A))) ∧ Gr w' w2) :=
    Lib.hid fun w' hg => ra_membersOf a A ca w' hca hla (fun r hr => (isRg_iff r).1 (checkL_each h0 r hr)) (hA.gr hg) (fun p o h => Nat.lt_of_lt_of_le (hpa p o h) hg.size)
  have MB : Hid (∀ w', Gr w w' → Calls Tryz.prog 33 #[.slice b B.length cb] w' fun e w2 => e = .returned (.agg (memA (inR B))) ∧ Gr w' w2) :=
    Lib.hid fun w' hg => ra_membersOf b B cb w' hcb hlb (fun r hr => (isRg_iff r).1 (checkL_each h1 r hr)) (hB.gr hg) (fun p o h => Nat.lt_of_lt_of_le (hpb p o h) hg.size)
  have HG := Lib.hid ((Gr.refl w).alloc (.cells #[.func (.func fid) #[] #[]] 50))
  have HB0 : Hid (Boxed (w.alloc (.cells #[.func (.func fid) #[] #[]] 50)) w.heap.size 50 (.func (.func fid) #[] #[])) := Lib.hid (Boxed.new w _ _)
  clear hA hB hca hcb hla hlb hpa hpb h0 h1
  generalize A.length = la at *
  generalize B.length = lb at *
  generalize inR A = gA at *
  generalize inR B = gB at *
  refine (callsIn_wide (n := 5)).1 ?_
  have hro : Fence.wide.round = none := rfl
  refine callsIn_of_wp_marks Tryz.func19 rfl trivial ?_ hro
  simp only [Tryz.ntmps19, List.size_toArray, List.length_cons, List.length_nil, Nat.reduceAdd, Nat.reduceSub, Array.replicate_succ, Array.replicate_zero, List.push_toArray, List.append_toArray, List.nil_append, List.cons_append]
  gi_wp2
  refine ⟨trivial, (callsIn_wide.2 (C.out _ HG.out)).mono ?_⟩; rintro e w2 ⟨rfl, hg2⟩
  have HG2 := Lib.hid (Gr.trans HG.out hg2)
  have HB2 : Hid (Boxed w2 w.heap.size 50 (.func (.func fid) #[] #[])) := Lib.hid ((hg2.block _ HB0.out.lt).trans HB0.out)
  clear hg2 HB0 HG C
  gi_wp2
  refine ⟨trivial, (callsIn_wide.2 (D.out _ HG2.out)).mono ?_⟩; rintro e w3 ⟨rfl, hg3⟩
  have HG3 := Lib.hid (Gr.trans HG2.out hg3)
  have HB3 : Hid (Boxed w3 w.heap.size 50 (.func (.func fid) #[] #[])) := Lib.hid ((hg3.block _ HB2.out.lt).trans HB2.out)
  clear hg3 HB2 HG2 D
  gi_wp2
  refine ⟨trivial, (callsIn_wide.2 (MA.out _ HG3.out)).mono ?_⟩; rintro e w4 ⟨rfl, hg4⟩
  have HG4 := Lib.hid (Gr.trans HG3.out hg4)
  have HB4 : Hid (Boxed w4 w.heap.size 50 (.func (.func fid) #[] #[])) := Lib.hid ((hg4.block _ HB3.out.lt).trans HB3.out)
  clear hg4 HB3 HG3 MA
  gi_wp2
  refine ⟨trivial, (callsIn_wide.2 (MB.out _ HG4.out)).mono ?_⟩; rintro e w5 ⟨rfl, hg5⟩
  have HG5 := Lib.hid (Gr.trans HG4.out hg5)
  have HB5 : Hid (Boxed w5 w.heap.size 50 (.func (.func fid) #[] #[])) := Lib.hid ((hg5.block _ HB4.out.lt).trans HB4.out)
  clear hg5 HB4 HG4 MB
  have HG7 := Lib.hid ((HG5.out.alloc (.cells Z 63)).alloc (.cells Z 63))
  have HB7 := Lib.hid ((HB5.out.alloc (.cells Z 63)).alloc (.cells Z 63))
  have HMA : Hid (MemAt ((w5.alloc (.cells Z 63)).alloc (.cells Z 63)) w5.heap.size fun _ => false) := Lib.hid (by rw [← HZ.out]; exact (Below.heap_alloc _ _ _ (by simp)).trans (MemAt.new w5))
  have HMB : Hid (MemAt ((w5.alloc (.cells Z 63)).alloc (.cells Z 63)) (w5.heap.size + 1) fun _ => false) := Lib.hid (by rw [← HZ.out]; have := MemAt.new (w5.alloc (.cells (memA fun _ => false) 63)); rwa [World.size_alloc] at this)
  have hsz : w.heap.size < w5.heap.size := HB5.out.lt
  gi_wp2
  obtain ⟨w6, hw6⟩ : ∃ w6, w6 = (w5.alloc (.cells Z 63)).alloc (.cells Z 63) := ⟨_, rfl⟩
  rw [← hw6] at HG7 HB7 HMA HMB ⊢
  have hs6 : w6.heap.size = w5.heap.size + 2 := by rw [hw6]; simp
  clear hw6 HG5 HB5
  rw [run_store82 HMA.out (memA_size _) (memA_size _) (memA_one _) hzs]
  simp only [Result.andThen]
  rw [Oper.uponIn_skip]
  have HG8 := Lib.hid ((Upd.row w6 w5.heap.size (memA gA)).1 w HG7.out (by omega))
  have HB8 : Hid (Boxed _ _ _ _) := Lib.hid (((Upd.row w6 w5.heap.size (memA gA)).2.1 _ HB7.out.lt (by omega)).trans HB7.out)
  have HMA8 := Lib.hid (HMA.out.row gA)
  have HMB8 := Lib.hid (HMB.out.upd (Upd.row w6 w5.heap.size (memA gA)) (by omega))
  have hs8 : (w6.setRow w5.heap.size (memA gA)).heap.size = w5.heap.size + 2 := by rw [← hs6]; simp [World.setRow]
  clear HG7 HB7 HMA HMB hs6
  generalize w6.setRow w5.heap.size (memA gA) = w8 at *
  gi_wp2
  rw [run_store82 HMB8.out (memA_size _) (memA_size _) (memA_one _) hzs]
  simp only [Result.andThen]
  rw [Oper.uponIn_skip]
  have HG9 := Lib.hid ((Upd.row w8 (w5.heap.size + 1) (memA gB)).1 w HG8.out (by omega))
  have HB9 : Hid (Boxed _ _ _ _) := Lib.hid (((Upd.row w8 (w5.heap.size + 1) (memA gB)).2.1 _ HB8.out.lt (by omega)).trans HB8.out)
  have HMB9 := Lib.hid (HMB8.out.row gB)
  have HMA9 := Lib.hid (HMA8.out.upd (Upd.row w8 (w5.heap.size + 1) (memA gB)) (by omega))
  have hs9 : (w8.setRow (w5.heap.size + 1) (memA gB)).heap.size = w5.heap.size + 2 := by rw [← hs8]; simp [World.setRow]
  clear HG8 HB8 HMA8 HMB8 hs8
  generalize w8.setRow (w5.heap.size + 1) (memA gB) = w9 at *
  generalize w5.heap.size = n at *
  gi_wp2
  refine ⟨trivial, (ra_channels_in Fence.wide _ trivial rfl _ _ _ _).mono ?_⟩; rintro e w' ⟨rfl, rfl⟩
  gi_wp2
  have hz9 : w9.heap.size = n + 2 := hs9
  obtain ⟨W0, hW0⟩ : ∃ W0, ((w9.alloc (.cells Z 63)).alloc (.cells #[.int .i64 1, .int .i64 999] 37)).alloc (.cells #[.slice (some ⟨n + 2 + 1, 0, none⟩) 1 1] 22) = W0 := ⟨_, rfl⟩
  have hszW : W0.heap.size = n + 5 := by rw [← hW0]; simp [hz9]
  have hgb : w9.grownBy W0 none := by rw [← hW0]; exact ((World.grownBy_alloc w9 _ none).trans (World.grownBy_alloc _ _ none)).trans (World.grownBy_alloc _ _ none)
  have hgr : Gr w9 W0 := by rw [← hW0]; exact (((Gr.refl w9).alloc _).alloc _).alloc _
  have HAw := Lib.hid (HMA9.out.gb hgb (fun r e => by cases e))
  have HBw := Lib.hid (HMB9.out.gb hgb (fun r e => by cases e))
  have HFw := Lib.hid (HB9.out.kept hgb (by simp))
  have HGw := Lib.hid (Gr.trans HG9.out hgr)
  have HMw : Hid (MemAt W0 (n + 2) fun _ => false) := Lib.hid (by
    rw [← hW0, ← hz9, ← HZ.out]
    refine (MemAt.new w9).gb ((World.grownBy_alloc _ _ none).trans (World.grownBy_alloc _ _ none)) (fun r e => by cases e))
  have b2 : W0.cell? ⟨n + 4, 0, none⟩ = some (.slice (some ⟨n + 3, 0, none⟩) 1 1) := by rw [← hW0, World.cell?_alloc_at _ _ _ _ (by simp [hz9])]; rfl
  have b3 : W0.cell? ⟨n + 3, 0, none⟩ = some (.int .i64 1) ∧ W0.cell? ⟨n + 3, 1, none⟩ = some (.int .i64 999) := by
    rw [← hW0]
    constructor
    all_goals rw [World.cell?_alloc_lt _ _ _ (by simp [hz9]), World.cell?_alloc_at _ _ _ _ (by simp [hz9])]; rfl
  rw [hW0]
  have HU0 : Hid (Upd (n + 2) w W0) := Lib.hid (Upd.of_gr HGw.out)
  have HRW : RngAt W0 (some ⟨n + 3, 0, none⟩) [((1 : Int), (999 : Int))] := .inr ⟨n + 3, 0, rfl, fun j hj => by
    have : j = 0 := by simpa using hj
    subst this
    exact b3⟩
  clear hW0 hgb hgr HMA9 HMB9 HB9 HG9 b3
  refine wpIn_rangeFunc_ownF hro (by omega) (gf := 35) (lb := #[.pointer (some ⟨n + 4, 0, none⟩)]) rfl trivial (enters_of Tryz.func35 (by kernel_rfl) rfl)
    (ra_chans_stops Fence.wide 4 trivial rfl (by omega) (n + 4) (n + 2) (some ⟨n + 3, 0, none⟩) 1 [((1 : Int), (999 : Int))] (fun h => by cases h) (by simp) (by simp) W0 b2 HRW (by omega) (fun p o h => by cases h; omega) (by omega))
    KC.trans (fun W l o o' _ h ho _ => KC.put W l o o' h ho) (Below.refl _ _) (fun _ => rfl)
    (fun pre W => (MemAt W n gA ∧ MemAt W (n + 1) gB ∧ MemAt W (n + 2) (combG rem gA gB (pre.map (fun x : Chn => x.1))) ∧ Boxed W w.heap.size 50 (.func (.func fid) #[] #[])) ∧ Upd (n + 2) w W)
    (fun _ _ _ => False)
    (fun s A B row hs hg hr => ⟨⟨hs.1.1.gb hg (fun r e => (hr r e).2), hs.1.2.1.gb hg (fun r e => (hr r e).2), hs.1.2.2.1.gb hg (fun r e => (hr r e).2), hs.1.2.2.2.kept hg (fun e => by have := (hr _ e.symm).1; omega)⟩, hs.2.of_gb hg (fun r e => by have := (hr r e).1; omega)⟩)
    (fun _ _ _ _ _ hs _ _ => hs)
    ⟨⟨HAw.out, HBw.out, by simpa [combG_nil] using HMw.out, HFw.out⟩, HU0.out⟩
    (fun x => { tmps := (#[.slice a la ca, .slice b lb cb, .func (.func fid) #[] #[], undef, undef, .pointer (some ⟨w.heap.size, 0, none⟩), .slice none 0 0, .int .i64 0, .int .i64 0, .int .i64 0, .pointer (some ⟨n, 0, none⟩), .pointer (some ⟨n + 1, 0, none⟩), .pointer (some ⟨n + 2, 0, none⟩), .int .i64 x.1, .slice a la ca, .int .i64 0, .int .i64 0, .bool false, undef, .slice b lb cb, .int .i64 0, .int .i64 0, .bool false, undef, .slice a la ca, .agg (memA gA), .slice b lb cb, .agg (memA gB), .agg #[.int .i64 1, .int .i64 999], .slice (some ⟨n + 3, 0, none⟩) 1 1, .func (.func 35) #[] #[.pointer (some ⟨n + 4, 0, none⟩)], .int .i64 x.1, undef, undef, undef, undef, undef, undef, undef, undef, undef, undef, undef]), defers := [] }) ?assign ?body ?done ?stop
  case assign =>
    intro l x W K hK
    gi_wp2
    exact hK
  case body =>
    rintro l pre x W ⟨⟨hA, hB, hM, hF⟩, hU⟩ _
    obtain ⟨x, hx0, hx1⟩ := x
    obtain ⟨i, rfl⟩ : ∃ i : Nat, x = (i : Int) := ⟨x.toNat, by omega⟩
    have hi : i < 1000 := by omega
    have hi0 : (0 : Int) ≤ (i : Int) := by omega
    have hS5 : (fun w' : World => w'.cell? ⟨w.heap.size, 0, none⟩ = some (.func (.func fid) #[] #[]) ∧ w'.cell? ⟨n, i, none⟩ = some (.bool (gA i)) ∧ w'.cell? ⟨n + 1, i, none⟩ = some (.bool (gB i))) W.drew := ⟨hF.cell, (hA.at i hi).1, (hB.at i hi).1⟩
    have m4 : W.drew.cell? ⟨n + 2, i, none⟩ = _ := (hM.at i hi).1
    have m5 : W.drew.frozen? ⟨n + 2, i, none⟩ = false := (hM.at i hi).2
    have HKO := Lib.hid ((KeepsOthers.drew W).trans (KeepsOthers.setCell W.drew ⟨n + 2, i, none⟩ (.bool (rem (gA i) (gB i)))))
    have HKC := Lib.hid (show KC (n + 2) W (W.drew.setCell ⟨n + 2, i, none⟩ (.bool (rem (gA i) (gB i)))) from KC.set W.drew _)
    have HM2 : Hid (MemAt (W.drew.setCell ⟨n + 2, i, none⟩ (.bool (rem (gA i) (gB i)))) (n + 2) (combG rem gA gB ((pre ++ [(⟨(i : Int), hx0, hx1⟩ : Chn)]).map (fun x : Chn => x.1)))) :=
      Lib.hid ((MemAt.set (W := W.drew) hM hi _).congr fun k => by rw [List.map_append, List.map_cons, List.map_nil, combG_snoc])
    have HA2 := Lib.hid (MemAt.upd (w := W.drew) hA (Upd.set (b := n + 2) (o := i) W.drew (.bool (rem (gA i) (gB i)))) (by omega))
    have HB2 := Lib.hid (MemAt.upd (w := W.drew) hB (Upd.set (b := n + 2) (o := i) W.drew (.bool (rem (gA i) (gB i)))) (by omega))
    have HF2 := Lib.hid (boxed_set (W := W.drew) (B' := n + 2) hF i (by omega) (.bool (rem (gA i) (gB i))))
    have HU2 := Lib.hid (hU.drew.trans (Upd.set (b := n + 2) (o := i) W.drew (.bool (rem (gA i) (gB i)))))
    clear hA hB hM hF hU
    gi_wp2
    refine wpIn_region_any (by kernel_rfl) (Rd.wpAnyIn_of_wpAny (Rd.noDefer_spec (by kernel_rfl)) (by rintro ⟨a, w, h⟩; exact h) _ _ _ _ (wpAny_of_held (S := fun w' : World => w'.cell? ⟨w.heap.size, 0, none⟩ = some (.func (.func fid) #[] #[]) ∧ w'.cell? ⟨n, i, none⟩ = some (.bool (gA i)) ∧ w'.cell? ⟨n + 1, i, none⟩ = some (.bool (gB i))) _ _ _ _ ?_))
    change wpAnyH _ _ _ _ _ _ _ _ W.drew
    have hS0 := hS5
    clear hS5
    generalize W.drew = W7 at *
    refine wpAnyH_take (i := 0) (v := .int .i64 (i : Int)) rfl (by kernel_rfl) (by kernel_rfl) (by kernel_rfl) (fun _ _ _ h => h) (Or.inl ⟨by rfl, ?_⟩) hS0 ?_
    · intro w hSw; obtain ⟨s1, s2, s3⟩ := hSw; go_simp; try (intro h; exfalso; omega)
    try simp only [Act.put, List.getElem_toArray, List.getElem_cons_succ, List.getElem_cons_zero, List.setIfInBounds_toArray, List.set_cons_zero, List.set_cons_succ]
    refine wpAnyH_take (i := 1) (v := .func (.func fid) #[] #[]) rfl (by kernel_rfl) (by kernel_rfl) (by kernel_rfl) (fun _ _ _ h => h) (Or.inl ⟨by rfl, ?_⟩) hS0 ?_
    · intro w hSw; obtain ⟨s1, s2, s3⟩ := hSw; go_simp; try (intro h; exfalso; omega)
    try simp only [Act.put, List.getElem_toArray, List.getElem_cons_succ, List.getElem_cons_zero, List.setIfInBounds_toArray, List.set_cons_zero, List.set_cons_succ]
    refine wpAnyH_take (i := 2) (v := .int .i64 (i : Int)) rfl (by kernel_rfl) (by kernel_rfl) (by kernel_rfl) (fun _ _ _ h => h) (Or.inl ⟨by rfl, ?_⟩) hS0 ?_
    · intro w hSw; obtain ⟨s1, s2, s3⟩ := hSw; go_simp; try (intro h; exfalso; omega)
    try simp only [Act.put, List.getElem_toArray, List.getElem_cons_succ, List.getElem_cons_zero, List.setIfInBounds_toArray, List.set_cons_zero, List.set_cons_succ]
    refine wpAnyH_take (i := 3) (v := .pointer (some ⟨n, i, none⟩)) rfl (by kernel_rfl) (by kernel_rfl) (by kernel_rfl) (fun _ _ _ h => h) (Or.inl ⟨by rfl, ?_⟩) hS0 ?_
    · intro w hSw; obtain ⟨s1, s2, s3⟩ := hSw; go_simp; try (intro h; exfalso; omega)
    try simp only [Act.put, List.getElem_toArray, List.getElem_cons_succ, List.getElem_cons_zero, List.setIfInBounds_toArray, List.set_cons_zero, List.set_cons_succ]
    refine wpAnyH_take (i := 4) (v := .bool (gA i)) rfl (by kernel_rfl) (by kernel_rfl) (by kernel_rfl) (fun _ _ _ h => h) (Or.inl ⟨by rfl, ?_⟩) hS0 ?_
    · intro w hSw; obtain ⟨s1, s2, s3⟩ := hSw; go_simp; try (intro h; exfalso; omega)
    try simp only [Act.put, List.getElem_toArray, List.getElem_cons_succ, List.getElem_cons_zero, List.setIfInBounds_toArray, List.set_cons_zero, List.set_cons_succ]
    refine wpAnyH_take (i := 5) (v := .int .i64 (i : Int)) rfl (by kernel_rfl) (by kernel_rfl) (by kernel_rfl) (fun _ _ _ h => h) (Or.inl ⟨by rfl, ?_⟩) hS0 ?_
    · intro w hSw; obtain ⟨s1, s2, s3⟩ := hSw; go_simp; try (intro h; exfalso; omega)
    try simp only [Act.put, List.getElem_toArray, List.getElem_cons_succ, List.getElem_cons_zero, List.setIfInBounds_toArray, List.set_cons_zero, List.set_cons_succ]
    refine wpAnyH_take (i := 6) (v := .pointer (some ⟨n + 1, i, none⟩)) rfl (by kernel_rfl) (by kernel_rfl) (by kernel_rfl) (fun _ _ _ h => h) (Or.inl ⟨by rfl, ?_⟩) hS0 ?_
    · intro w hSw; obtain ⟨s1, s2, s3⟩ := hSw; go_simp; try (intro h; exfalso; omega)
    try simp only [Act.put, List.getElem_toArray, List.getElem_cons_succ, List.getElem_cons_zero, List.setIfInBounds_toArray, List.set_cons_zero, List.set_cons_succ]
    refine wpAnyH_take (i := 7) (v := .bool (gB i)) rfl (by kernel_rfl) (by kernel_rfl) (by kernel_rfl) (fun _ _ _ h => h) (Or.inl ⟨by rfl, ?_⟩) hS0 ?_
    · intro w hSw; obtain ⟨s1, s2, s3⟩ := hSw; go_simp; try (intro h; exfalso; omega)
    try simp only [Act.put, List.getElem_toArray, List.getElem_cons_succ, List.getElem_cons_zero, List.setIfInBounds_toArray, List.set_cons_zero, List.set_cons_succ]
    refine wpAnyH_ready (rs := [8]) (by kernel_rfl) (by simp) (AllReadyH.cons rfl (fun K' hK' => ?_) AllReadyH.nil)
    go_simp
    refine (hrem _ _ _).mono ?_; rintro e w5 ⟨rfl, rfl⟩
    refine hK'.out _ _ hS0 (fun _ => ?_)
    clear hK' K'
    try simp only [Act.put, List.getElem_toArray, List.getElem_cons_succ, List.getElem_cons_zero, List.setIfInBounds_toArray, List.set_cons_zero, List.set_cons_succ]
    refine wpAnyH_take (i := 9) (v := .pointer (some ⟨n + 2, i, none⟩)) rfl (by kernel_rfl) (by kernel_rfl) (by kernel_rfl) (fun _ _ _ h => h) (Or.inl ⟨by rfl, ?_⟩) hS0 ?_
    · intro w hSw; obtain ⟨s1, s2, s3⟩ := hSw; go_simp; try (intro h; exfalso; omega)
    try simp only [Act.put, List.getElem_toArray, List.getElem_cons_succ, List.getElem_cons_zero, List.setIfInBounds_toArray, List.set_cons_zero, List.set_cons_succ]
    refine wpAnyH_ready (rs := [10]) (by kernel_rfl) (by simp) (AllReadyH.cons rfl (fun K' hK' => ?_) AllReadyH.nil)
    go_simp
    refine hK'.out _ _ ⟨HF2.out.cell, (HA2.out.at i hi).1, (HB2.out.at i hi).1⟩ (fun _ => ?_)
    clear hK' K'
    try simp only [Act.put, List.getElem_toArray, List.getElem_cons_succ, List.getElem_cons_zero, List.setIfInBounds_toArray, List.set_cons_zero, List.set_cons_succ]
    refine wpAnyH_done (by kernel_rfl) ?_ _
    gi_wp2
    exact ⟨HKO.out, HKC.out, ⟨HA2.out, HB2.out, HM2.out, HF2.out⟩, HU2.out⟩
  case done =>
    rintro D ys W hD hys ⟨⟨hA, hB, hM, hF⟩, hU⟩ hK
    rw [hys] at hM
    have HS := Lib.hid (ra_set (n + 2) _ W hM (combG_zero rem gA gB))
    have HGW := Lib.hid (hU.1 w (Gr.refl w) (by omega))
    have hDW : D < W.heap.size := (Array.getElem?_eq_some_iff.1 hK).1
    clear hA hB hM hF hU hys
    gi_wp2
    refine ⟨trivial, (callsIn_wide.2 HS.out).mono ?_⟩; rintro e w4 ⟨v, rfl, ho, hg⟩
    have HO := Lib.hid ho
    have HG4 := Lib.hid (Gr.trans HGW.out hg)
    have hK4 : w4.heap[D]? = some (.deferred (some [])) := (hg.block D hDW).trans hK
    have hws : w.heap.size ≤ W.heap.size := HGW.out.size
    clear ho hg HS
    gi_wp2
    refine ⟨by simp, .inl ⟨_, _, rfl, run_takeDeferred hK4, ?_⟩⟩
    have hgp := grownBy_putObj' w4 D (.deferred none)
    refine ⟨_, results_tmp2 rfl _ _ _, v, rfl, ?_, HG4.out.grown hgp HG4.out.size (fun k e => by cases e; omega)⟩
    refine OwnR.low (World.ownsRow.kept HO.out hgp ?_) hws
    cases hv : v.ownBlock with
    | none => exact .inl rfl
    | some k =>
      refine .inr (fun e => ?_)
      have := (World.ownsRow.lt HO.out k hv).1
      cases e; omega
  case stop =>
    rintro D c pre W _ _ h _
    exact h.elim
end Go.Proofs.YtjideokeokmbaaaGreatDoor
