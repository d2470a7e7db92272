/- Law 3: awake. -/
import Derived.Test.YtffifpinnhaloaaGreatDoorLaw03a
set_option linter.unusedVariables false
set_option linter.unusedSimpArgs false
namespace Go.Proofs.YtffifpinnhaloaaGreatDoor
open Go.RowKit Go.Shelf Go.Deep
open Z

def TB (w : World) (b : Nat) : Prop := ∀ k, k < 6 → w.cell? ⟨b, k * 2, none⟩ = some (.int .i64 (exT k).1) ∧ w.cell? ⟨b, k * 2 + 1, none⟩ = some (.string (exT k).2)
theorem TB.gr {w w' : World} {b : Nat} (h : TB w b) (hg : Gr w w') : TB w' b := fun k hk => ⟨gr_cell hg (h k hk).1, gr_cell hg (h k hk).2⟩
abbrev oTB : Obj := .cells #[.int .i64 0, .string ⟨#[48]⟩, .int .i64 200, .string ⟨#[48]⟩, .int .i64 300, .string ⟨#[50, 53, 48]⟩, .int .i64 400, .string ⟨#[53, 48, 48]⟩, .int .i64 600, .string ⟨#[49, 48, 48, 48]⟩, .int .i64 9000, .string ⟨#[49, 48, 48, 48]⟩] 95
theorem TB.new (w : World) : TB (w.alloc oTB) w.heap.size := fun k hk => by
  rw [World.cell?_alloc_at _ _ _ _ rfl, World.cell?_alloc_at _ _ _ _ rfl]
  match k, hk with
  | 0, _ => exact ⟨rfl, rfl⟩
  | 1, _ => exact ⟨rfl, rfl⟩
  | 2, _ => exact ⟨rfl, rfl⟩
  | 3, _ => exact ⟨rfl, rfl⟩
  | 4, _ => exact ⟨rfl, rfl⟩
  | 5, _ => exact ⟨rfl, rfl⟩
  | k + 6, h => exact absurd h (by omega)
theorem rdK_three (w : World) (a b c : Kn) (t : TypeId) : RdK (w.alloc (.cells #[.int .i64 a.1, .string a.2, .int .i64 b.1, .string b.2, .int .i64 c.1, .string c.2] t)) (some ⟨w.heap.size, 0, none⟩) [a, b, c] := fun k hk => by
  refine ⟨w.heap.size, 0, rfl, ?_⟩
  unfold KnAt
  rw [World.cell?_alloc_at _ _ _ _ rfl, World.cell?_alloc_at _ _ _ _ rfl]
  match k, hk with
  | 0, _ => exact ⟨rfl, rfl⟩
  | 1, _ => exact ⟨rfl, rfl⟩
  | 2, _ => exact ⟨rfl, rfl⟩
theorem rdK_two (w : World) (a b : Kn) (t : TypeId) : RdK (w.alloc (.cells #[.int .i64 a.1, .string a.2, .int .i64 b.1, .string b.2] t)) (some ⟨w.heap.size, 0, none⟩) [a, b] := fun k hk => by
  refine ⟨w.heap.size, 0, rfl, ?_⟩
  unfold KnAt
  rw [World.cell?_alloc_at _ _ _ _ rfl, World.cell?_alloc_at _ _ _ _ rfl]
  match k, hk with
  | 0, _ => exact ⟨rfl, rfl⟩
  | 1, _ => exact ⟨rfl, rfl⟩
abbrev exL3 : List Kn := [(200, ⟨#[48]⟩), (300, ⟨#[50, 53, 48]⟩), (400, ⟨#[48]⟩)]
abbrev exL2 : List Kn := [(5, ⟨#[55]⟩), (5, ⟨#[57]⟩)]
abbrev oGG : Obj := .cells #[.string ⟨#[48]⟩, .int .i64 1000, .int .i64 200, .int .i64 400, .string ⟨#[50, 53, 48]⟩, .int .i64 0, .int .i64 300, .int .i64 100] 24
abbrev oKK3 : Obj := .cells #[.int .i64 200, .string ⟨#[48]⟩, .int .i64 300, .string ⟨#[50, 53, 48]⟩, .int .i64 400, .string ⟨#[48]⟩] 62
abbrev oKK2 : Obj := .cells #[.int .i64 5, .string ⟨#[55]⟩, .int .i64 5, .string ⟨#[57]⟩] 62
section
variable {w0 : World} (htab : Tab w0) (hmx : Mx w0) (herr : ErrR w0)
include htab hmx herr
theorem ex_Value (w : World) (hw : Gr w0 w) : Calls Tryz.prog 27 #[.slice (some ⟨w.heap.size, 0, none⟩) 2 2, .int .i64 350] (w.alloc oGG) (fun e w' => e = .returned (.tuple #[.string ⟨#[49, 50, 53]⟩, .int .i64 0]) ∧ Gr w w') := by
  have hg := hw.alloc oGG
  have := (ret_GValue (w0 := w.alloc oGG) (htab_gr htab hg) (hmx.gr hg) (herr.gr hg) (l := [exG, exH]) (cap := 2) (t := 350) (rdG_two w exG exH 24) (by intro g hg; simp only [List.mem_cons, List.not_mem_nil, or_false] at hg; rcases hg with rfl | rfl <;> exact ⟨by unfold isJ; decide, by unfold isJ; decide, by unfold isJ; decide⟩) (.inr (by intro g hg; simp only [List.mem_cons, List.not_mem_nil, or_false] at hg; rcases hg with rfl | rfl <;> decide)) (by decide) (by decide) (by unfold isJ; decide) _ (Gr.refl _))
  rw [ex_val] at this
  refine this.mono ?_
  rintro e w' ⟨rfl, h⟩
  exact ⟨rfl, Gr.trans ((Gr.refl w).alloc _) h⟩
theorem ex_Knots (w : World) (hw : Gr w0 w) : Calls Tryz.prog 29 #[.slice (some ⟨w.heap.size, 0, none⟩) 2 2] (w.alloc oGG) (fun e w' => (∃ g cp, e = .returned (.tuple #[.slice (some ⟨g, 0, none⟩) 3 cp, .int .i64 0]) ∧ RdK w' (some ⟨g, 0, none⟩) exL3) ∧ Gr w w') := by
  have hg := hw.alloc oGG
  have := (ret_GKnots (w0 := w.alloc oGG) (htab_gr htab hg) (hmx.gr hg) (herr.gr hg) (l := [exG, exH]) (cap := 2) (rdG_two w exG exH 24) (by intro g hg; simp only [List.mem_cons, List.not_mem_nil, or_false] at hg; rcases hg with rfl | rfl <;> exact ⟨by unfold isJ; decide, by unfold isJ; decide, by unfold isJ; decide⟩) (.inr (by intro g hg; simp only [List.mem_cons, List.not_mem_nil, or_false] at hg; rcases hg with rfl | rfl <;> decide)) (by decide) (by decide) _ (Gr.refl _))
  refine this.mono ?_
  rintro e w' ⟨h1, ⟨h2, -⟩ | ⟨-, g, cp, rfl, hr, -⟩⟩
  · exact absurd ex_chain h2
  · rw [ex_knots] at hr ⊢
    exact ⟨⟨g, cp, rfl, hr⟩, Gr.trans ((Gr.refl w).alloc _) h1⟩
theorem ex_Knots1 (w : World) (hw : Gr w0 w) : Calls Tryz.prog 29 #[.slice (some ⟨w.heap.size, 0, none⟩) 1 1] (w.alloc (oGl ⟨#[55]⟩ 9 5 0)) (fun e w' => (∃ g cp, e = .returned (.tuple #[.slice (some ⟨g, 0, none⟩) 2 cp, .int .i64 0]) ∧ RdK w' (some ⟨g, 0, none⟩) exL2) ∧ Gr w w') := by
  have hg := hw.alloc (oGl ⟨#[55]⟩ 9 5 0)
  have := (ret_GKnots (w0 := w.alloc (oGl ⟨#[55]⟩ 9 5 0)) (htab_gr htab hg) (hmx.gr hg) (herr.gr hg) (l := [exM]) (cap := 1) (rdG_one w exM 24) (by intro g hg; simp only [List.mem_cons, List.not_mem_nil, or_false] at hg; subst hg; exact ⟨by unfold isJ; decide, by unfold isJ; decide, by unfold isJ; decide⟩) (.inr (by intro g hg; simp only [List.mem_cons, List.not_mem_nil, or_false] at hg; subst hg; decide)) (by decide) (by decide) _ (Gr.refl _))
  refine this.mono ?_
  rintro e w' ⟨h1, ⟨h2, -⟩ | ⟨-, g, cp, rfl, hr, -⟩⟩
  · exact absurd (chainE_one exM_err) h2
  · rw [ex_knots1] at hr ⊢
    exact ⟨⟨g, cp, rfl, hr⟩, Gr.trans ((Gr.refl w).alloc _) h1⟩
set_option maxHeartbeats 4000000 in
set_option maxRecDepth 100000 in
theorem l3_awake : Ret w0 13 #[] (.bool true) := by
  have AT := Lib.hid (fun k => RetG.of4 (w0 := w0) fun w1 h => (ret_GAt (htab_gr htab h) (hmx.gr h) (herr.gr h) (s := ⟨#[48]⟩) (by decide) (x := 1000) (st := 200) (ti := 400) (exT_int k)).si (exT_at k))
  have GO := Lib.hid (RetG.of4 (w0 := w0) fun w1 h => (ret_GGo (htab_gr htab h) (hmx.gr h) (herr.gr h) (s := ⟨#[48]⟩) (by decide) (x := 1000) (st := 200) (ti := 400) (t := 300) (y := 0) (d := 100) (by unfold isJ; decide)).cast (show vGI _ = .tuple #[vGl ⟨#[50, 53, 48]⟩ 0 300 100, .int .i64 0] by rw [ex_go]; rfl))
  have VA := Lib.hid (ex_Value htab hmx herr)
  have KN := Lib.hid (ex_Knots htab hmx herr)
  have K1 := Lib.hid (ex_Knots1 htab hmx herr)
  have S3 := Lib.hid (fun (w : World) (a : Option Addr) (c : Nat) (h : RdK w a exL3) => (l3_knots (l := exL3) (cap := c) w h (by decide) : Calls Tryz.prog 34 #[.slice a 3 c] w _))
  have S2 := Lib.hid (fun (w : World) (a : Option Addr) (c : Nat) (h : RdK w a exL2) => (l3_knots (l := exL2) (cap := c) w h (by decide) : Calls Tryz.prog 34 #[.slice a 2 c] w _))
  have E3 := Lib.hid (fun (w : World) (a : Option Addr) (c : Nat) (h : RdK w a exL3) => (r3_SameKnots (la := exL3) (lb := exL3) (ca := c) (cb := 3) _ (h.gr ((Gr.refl w).alloc oKK3)) (rdK_three w (200, ⟨#[48]⟩) (300, ⟨#[50, 53, 48]⟩) (400, ⟨#[48]⟩) 62) (by decide) : Calls Tryz.prog 33 #[.slice a 3 c, .slice (some ⟨w.heap.size, 0, none⟩) 3 3] (w.alloc oKK3) _))
  have E2 := Lib.hid (fun (w : World) (a : Option Addr) (c : Nat) (h : RdK w a exL2) => (r3_SameKnots (la := exL2) (lb := exL2) (ca := c) (cb := 2) _ (h.gr ((Gr.refl w).alloc oKK2)) (rdK_two w (5, ⟨#[55]⟩) (5, ⟨#[57]⟩) 62) (by decide) : Calls Tryz.prog 33 #[.slice a 2 c, .slice (some ⟨w.heap.size, 0, none⟩) 2 2] (w.alloc oKK2) _))
  clear htab hmx herr
  intro w hg
  have HB := Lib.hid ((Box4.new w ⟨#[48]⟩ 1000 200 400 24).gr ((Gr.refl _).alloc oTB))
  have HT : Hid (TB ((w.alloc (oGl ⟨#[48]⟩ 1000 200 400)).alloc oTB) (w.heap.size + 1)) := Lib.hid (by have := TB.new (w.alloc (oGl ⟨#[48]⟩ 1000 200 400)); rwa [World.size_alloc] at this)
  have HG := Lib.hid ((hg.alloc (oGl ⟨#[48]⟩ 1000 200 400)).alloc oTB)
  clear hg
  go_enter Tryz.func13, Tryz.ntmps13
  go_wp2
  go_loopw [3, 4, 5, 23] (fun _ _ _ i wr => ∃ k : Nat, i = .int .i64 k ∧ k ≤ 6 ∧ Hid (Gr w0 wr) ∧ Hid (Box4 wr w.heap.size ⟨#[48]⟩ 1000 200 400) ∧ Hid (TB wr (w.heap.size + 1))) (fun _ _ _ i _ => 6 - (intOf i).toNat)
  case atStart => exact ⟨0, rfl, Nat.zero_le _, HG.out, HB.out, HT.out⟩
  case round =>
    clear HG HB HT
    obtain ⟨k, rfl, hk, HG, HB, HT⟩ := hrel
    obtain ⟨k0, k1, k2, k3⟩ := id HB.out
    by_cases hlt : k < 6
    · obtain ⟨c0, c1⟩ := HT.out k hlt
      have A := AT.out k
      generalize exT k = x at *
      obtain ⟨t, v⟩ := x
      simp only at c0 c1 A
      have A := Lib.hid A
      have hbl : w.heap.size + 1 < wr.heap.size := cell_lt c0
      have hbl2 : w.heap.size < wr.heap.size := by omega
      have hbeq := ba_beq (s := v) rfl
      have hx1 : (wr.alloc (.cells #[.int .i64 t, .string v] 95)).cell? ⟨wr.heap.size, 1, none⟩ = some (.string v) := by rw [World.cell?_alloc_at _ _ _ _ rfl]; rfl
      have HX1 := Lib.hid hx1
      clear hx1
      have HGA := Lib.hid ((Gr.refl wr).alloc (.cells #[.int .i64 t, .string v] 95))
      go_wp2_with fail
      refine (A.out _ (Gr.trans HG.out HGA.out)).mono ?_
      rintro e w1 ⟨rfl, hg1⟩
      have hx2 := gr_cell hg1 HX1.out
      have HGn := Lib.hid (Gr.trans HG.out (Gr.trans HGA.out hg1))
      have HBn := Lib.hid (HB.out.gr (Gr.trans HGA.out hg1))
      have HTn := Lib.hid (HT.out.gr (Gr.trans HGA.out hg1))
      clear hg1 HG HB HT HGA HX1 k0 k1 k2 k3 c0 c1
      go_wp2
      go_roundw
      case rel => exact ⟨k + 1, by go_num, by omega, HGn.out, HBn.out, HTn.out⟩
      case measure => simp [intOf]; omega
    · have hk6 : k = 6 := by omega
      subst hk6
      go_wp2_with fail
      refine (GO.out _ HG.out).mono ?_
      rintro e w1 ⟨rfl, hg1⟩
      have hb1 := HB.out.gr (Gr.trans hg1 ((Gr.refl w1).alloc (oGl ⟨#[50, 53, 48]⟩ 0 300 100)))
      have hb6 := Box4.new w1 ⟨#[50, 53, 48]⟩ 0 300 100 24
      have HG1 := Lib.hid (Gr.trans HG.out (Gr.trans hg1 ((Gr.refl w1).alloc (oGl ⟨#[50, 53, 48]⟩ 0 300 100))))
      have HB1 := Lib.hid hb1
      have HB6 := Lib.hid hb6
      clear hg1 HG HB HT k0 k1 k2 k3 hb1 hb6
      obtain ⟨k0, k1, k2, k3⟩ := id (HB1.out)
      obtain ⟨m0, m1, m2, m3⟩ := id (HB6.out)
      have hlt1 : w.heap.size < w1.heap.size + 1 := by have := cell_lt k0; simpa using this
      have V2 := VA.out _ HG1.out
      rw [World.size_alloc] at V2
      have V2 := Lib.hid V2
      go_wp2_with fail
      refine V2.out.mono ?_
      clear V2
      rintro e w2 ⟨rfl, hg2⟩
      have hb1 := HB1.out.gr hg2
      have hb6 := HB6.out.gr hg2
      have HG2 := Lib.hid (Gr.trans HG1.out hg2)
      clear hg2 HG1 HB1 HB6 k0 k1 k2 k3 m0 m1 m2 m3
      obtain ⟨k0, k1, k2, k3⟩ := hb1
      obtain ⟨m0, m1, m2, m3⟩ := hb6
      go_wp2_with fail
      refine (KN.out _ HG2.out).mono ?_
      rintro e w3 ⟨⟨g1, cp1, rfl, hr1⟩, hg3⟩
      have HR1 := Lib.hid hr1
      have HG3 := Lib.hid (Gr.trans HG2.out hg3)
      clear hr1 hg3 HG2 k0 k1 k2 k3 m0 m1 m2 m3
      go_wp2_with fail
      refine (K1.out _ HG3.out).mono ?_
      rintro e w4 ⟨⟨g2, cp2, rfl, hr2⟩, hg4⟩
      have HR2 := Lib.hid hr2
      have HR1' := Lib.hid (HR1.out.gr hg4)
      have HG4 := Lib.hid (Gr.trans HG3.out hg4)
      clear hr2 hg4 HG3 HR1
      go_wp2_with fail
      refine (S3.out _ _ _ HR1'.out).mono ?_
      rintro e w5 ⟨⟨a5, c5, rfl, hr5⟩, hg5⟩
      have HR5 := Lib.hid hr5
      have HR2' := Lib.hid (HR2.out.gr hg5)
      have HG5 := Lib.hid (Gr.trans HG4.out hg5)
      clear hr5 hg5 HG4 HR2 HR1'
      go_wp2_with fail
      refine (E3.out _ _ _ HR5.out).mono ?_
      rintro e w6 ⟨rfl, hg6⟩
      have HR2 := Lib.hid (HR2'.out.gr (Gr.trans ((Gr.refl w5).alloc oKK3) hg6))
      have HG6 := Lib.hid (Gr.trans HG5.out (Gr.trans ((Gr.refl w5).alloc oKK3) hg6))
      clear hg6 HG5 HR5 HR2'
      simp only [decide_true]
      go_wp2_with fail
      refine (S2.out _ _ _ HR2.out).mono ?_
      rintro e w7 ⟨⟨a7, c7, rfl, hr7⟩, hg7⟩
      have HR7 := Lib.hid hr7
      have HG7 := Lib.hid (Gr.trans HG6.out hg7)
      clear hr7 hg7 HG6 HR2
      go_wp2_with fail
      refine (E2.out _ _ _ HR7.out).mono ?_
      rintro e w8 ⟨rfl, hg8⟩
      have HG8 := Lib.hid (Gr.trans HG7.out (Gr.trans ((Gr.refl w7).alloc oKK2) hg8))
      clear hg8 HG7 HR7
      simp only [decide_true]
      go_wp2
      go_ret
      exact ⟨rfl, HG8.out⟩
end
end Go.Proofs.YtffifpinnhaloaaGreatDoor
