/- RatE: Rat16, Rat18, Rat17, joined. -/
import Derived.Test.YtlbnibicehpobaaGreatDoorRatD
import Derived.Test.YtlbnibicehpobaaGreatDoorRatB
set_option linter.unusedVariables false
set_option linter.unusedSimpArgs false

/- The program's rational numbers: calculate, for + and -. -/
namespace Go.Proofs.YtlbnibicehpobaaGreatDoor
open Go.RowKit Go.Shelf
open Z
attribute [local go_sem ↓] Go.wp_at_zero Go.wp_at_succ

section
variable {w0 : World}
set_option maxHeartbeats 1000000 in
set_option maxRecDepth 100000 in
theorem q_calcErr {s t : ByteArray} {v v' : Value} {k : Int} {E : Int} (hv : ∃ p q, v = vFr p q) (hv' : ∃ p q, v' = vFr p q) (hE : E ≠ 0) (H1 : RetG w0 154 #[.string s, .string t] (.tuple #[v, v', .int .i64 E])) :
    RetG w0 132 #[.string s, .int .i32 k, .string t] (.tuple #[.string ⟨#[]⟩, .int .i64 E]) := by
  obtain ⟨p, q, rfl⟩ := hv
  obtain ⟨r, u, rfl⟩ := hv'
  intro w hg
  have hne : (E == 0) = false := beq_eq_false_iff_ne.2 hE
  have HG0 := Lib.hid hg
  have HC1 := Lib.hid H1
  clear hg H1 hE
  go_enter Tryz.func132, Tryz.ntmps132
  go_wp2_with fail
  refine (HC1.out _ HG0.out).mono ?_
  rintro e w1 ⟨rfl, hg⟩
  have HG1 := Lib.hid (Gr.trans hg (two_boxes w1 p q r u).1)
  clear hg
  go_wp2
  go_ret2
  exact ⟨rfl, HG1.out⟩
set_option maxHeartbeats 4000000 in
set_option maxRecDepth 100000 in
theorem q_calcAdd {s t p q r u A B R : ByteArray} {E : Int} (H1 : RetG w0 154 #[.string s, .string t] (.tuple #[vFr p q, vFr r u, .int .i64 0])) (H2 : RetG w0 173 #[vFr p q, vFr r u] (.tuple #[vFr A B, .int .i64 E])) (H3 : E = 0 → RetG w0 131 #[vFr A B] (.string R)) :
    RetG w0 132 #[.string s, .int .i32 43, .string t] (.tuple #[.string (if E = 0 then R else ⟨#[]⟩), .int .i64 E]) := by
  intro w hg
  have HG0 := Lib.hid hg
  have HC1 := Lib.hid H1
  have HC2 := Lib.hid H2
  have HC3 := Lib.hid H3
  have HOP := Lib.hid q_operations
  clear hg H1 H2 H3
  go_enter Tryz.func132, Tryz.ntmps132
  go_wp2_with fail
  refine (HC1.out _ HG0.out).mono ?_
  rintro e w1 ⟨rfl, hg⟩
  obtain ⟨g1, f1, f2⟩ := two_boxes w1 p q r u
  have HGW := Lib.hid (Gr.trans hg g1)
  have HX := Lib.hid f1
  have HY := Lib.hid f2
  clear hg g1 f1 f2
  have hneq : ¬ w1.heap.size = w1.heap.size + 1 := by omega
  have hneq' : ¬ w1.heap.size + 1 = w1.heap.size := by omega
  obtain ⟨W, HW⟩ : ∃ W, Hid (W = ((w1.alloc (oFr p q)).alloc (oFr r u))) := ⟨_, rfl⟩
  rw [← HW.out] at HGW HX HY
  go_wp2
  rw [← HW.out]
  clear HW hneq hneq'
  have fg : Hid (Gr w W.drew) := Gr.drew HGW.out
  have fx : Hid (FB W.drew w1.heap.size p q) := HX.out.gr (Gr.refl W).drew
  have fy : Hid (FB W.drew (w1.heap.size + 1) r u) := HY.out.gr (Gr.refl W).drew
  clear HGW HX HY
  have hS : (fun w' : World => FB w' w1.heap.size p q ∧ FB w' (w1.heap.size + 1) r u) W.drew := ⟨fx.out, fy.out⟩
  refine wp_region_held (S := fun w' : World => FB w' w1.heap.size p q ∧ FB w' (w1.heap.size + 1) r u) (by kernel_rfl) ?_
  refine wpAnyH_take (i := 1) (v := .int .i32 43) rfl (by kernel_rfl) (by kernel_rfl) (by kernel_rfl) (fun _ _ _ h => h) (Or.inl ⟨by rfl, ?_⟩) hS ?_
  · intro w hSw; obtain ⟨⟨p1, p2, p3, p4⟩, p5, p6, p7, p8⟩ := hSw; go_simp
  try dsimp only [Act.put]
  try simp only [List.setIfInBounds_toArray, List.set_cons_zero, List.set_cons_succ]
  refine wpAnyH_take (i := 3) (v := .agg #[.string p, .string q]) rfl (by kernel_rfl) (by kernel_rfl) (by kernel_rfl) (fun _ _ _ h => h) (Or.inl ⟨by rfl, ?_⟩) hS ?_
  · intro w hSw; obtain ⟨⟨p1, p2, p3, p4⟩, p5, p6, p7, p8⟩ := hSw; go_simp
  try dsimp only [Act.put]
  try simp only [List.setIfInBounds_toArray, List.set_cons_zero, List.set_cons_succ]
  refine wpAnyH_take (i := 4) (v := .agg #[.string r, .string u]) rfl (by kernel_rfl) (by kernel_rfl) (by kernel_rfl) (fun _ _ _ h => h) (Or.inl ⟨by rfl, ?_⟩) hS ?_
  · intro w hSw; obtain ⟨⟨p1, p2, p3, p4⟩, p5, p6, p7, p8⟩ := hSw; go_simp
  try dsimp only [Act.put]
  try simp only [List.setIfInBounds_toArray, List.set_cons_zero, List.set_cons_succ]
  refine wpAnyH_ready (rs := [0, 9]) (by kernel_rfl) (by simp) (AllReadyH.cons rfl (fun K' hK' => ?_) (AllReadyH.cons rfl (fun K' hK' => ?_) (AllReadyH.nil)))
  · go_simp
    refine (HOP.out _).mono ?_
    rintro e w2 ⟨b, rfl, fm, hg⟩
    have fm' := Lib.hid fm
    have ng := Lib.hid (Gr.trans fg.out hg)
    have nx := Lib.hid (fx.out.gr hg)
    have ny := Lib.hid (fy.out.gr hg)
    refine hK'.out _ _ ⟨nx.out, ny.out⟩ (fun hS' => ?_)
    clear hK' K' hS fg fx fy fm hg
    have fm := fm'
    clear fm'
    have fg := ng
    clear ng
    have fx := nx
    clear nx
    have fy := ny
    clear ny
    have hS := hS'
    clear hS'
    try dsimp only [Act.put]
    try simp only [List.setIfInBounds_toArray, List.set_cons_zero, List.set_cons_succ]
    refine wpAnyH_ready (rs := [2, 9]) (by kernel_rfl) (by simp) (AllReadyH.cons rfl (fun K' hK' => ?_) (AllReadyH.cons rfl (fun K' hK' => ?_) (AllReadyH.nil)))
    · have hl := run_add fm.out
      go_simp
      refine hK'.out _ _ ⟨fx.out, fy.out⟩ (fun hS' => ?_)
      clear hK' K' hS hl
      have hS := hS'
      clear hS'
      try dsimp only [Act.put]
      try simp only [List.setIfInBounds_toArray, List.set_cons_zero, List.set_cons_succ]
      refine wpAnyH_ready (rs := [5, 9]) (by kernel_rfl) (by simp) (AllReadyH.cons rfl (fun K' hK' => ?_) (AllReadyH.cons rfl (fun K' hK' => ?_) (AllReadyH.nil)))
      · go_simp
        refine (HC2.out _ (Gr.trans HG0.out fg.out)).mono ?_
        rintro e w3 ⟨rfl, hg⟩
        have ng := Lib.hid (Gr.trans fg.out hg)
        have nx := Lib.hid (fx.out.gr hg)
        have ny := Lib.hid (fy.out.gr hg)
        refine hK'.out _ _ ⟨nx.out, ny.out⟩ (fun hS' => ?_)
        clear hK' K' hS fg fx fy fm hg
        have fg := ng
        clear ng
        have fx := nx
        clear nx
        have fy := ny
        clear ny
        have hS := hS'
        clear hS'
        try dsimp only [Act.put]
        try simp only [List.setIfInBounds_toArray, List.set_cons_zero, List.set_cons_succ]
        refine wpAnyH_take (i := 6) (v := .tuple #[vFr A B, .int .i64 E]) rfl (by kernel_rfl) (by kernel_rfl) (by kernel_rfl) (fun _ _ _ h => h) (Or.inl ⟨by rfl, ?_⟩) hS ?_
        · intro w hSw; obtain ⟨⟨p1, p2, p3, p4⟩, p5, p6, p7, p8⟩ := hSw; go_simp
        try dsimp only [Act.put]
        try simp only [List.setIfInBounds_toArray, List.set_cons_zero, List.set_cons_succ]
        refine wpAnyH_take (i := 7) (v := vFr A B) rfl (by kernel_rfl) (by kernel_rfl) (by kernel_rfl) (fun _ _ _ h => h) (Or.inl ⟨by rfl, ?_⟩) hS ?_
        · intro w hSw; obtain ⟨⟨p1, p2, p3, p4⟩, p5, p6, p7, p8⟩ := hSw; go_simp
        try dsimp only [Act.put]
        try simp only [List.setIfInBounds_toArray, List.set_cons_zero, List.set_cons_succ]
        refine wpAnyH_take (i := 8) (v := .int .i64 E) rfl (by kernel_rfl) (by kernel_rfl) (by kernel_rfl) (fun _ _ _ h => h) (Or.inl ⟨by rfl, ?_⟩) hS ?_
        · intro w hSw; obtain ⟨⟨p1, p2, p3, p4⟩, p5, p6, p7, p8⟩ := hSw; go_simp
        try dsimp only [Act.put]
        try simp only [List.setIfInBounds_toArray, List.set_cons_zero, List.set_cons_succ]
        refine wpAnyH_ready (rs := [9]) (by kernel_rfl) (by simp) (AllReadyH.cons rfl (fun K' hK' => ?_) (AllReadyH.nil))
        go_simp
        refine hK'.out _ _ ⟨fx.out.alloc _, fy.out.alloc _⟩ (fun hS' => ?_)
        have nz : Hid (FB (w3.alloc (oFr ⟨#[]⟩ ⟨#[]⟩)) w3.heap.size ⟨#[]⟩ ⟨#[]⟩) := FB.new w3 ⟨#[]⟩ ⟨#[]⟩ 103
        have nb : w.heap.size ≤ w3.heap.size := fg.out.size
        have nb1 : w1.heap.size < w3.heap.size := cell_lt fx.out.c0
        have nb2 : w1.heap.size + 1 < w3.heap.size := cell_lt fy.out.c0
        have ng := Lib.hid (fg.out.alloc (oFr ⟨#[]⟩ ⟨#[]⟩))
        have nx := Lib.hid (fx.out.alloc (oFr ⟨#[]⟩ ⟨#[]⟩))
        have ny := Lib.hid (fy.out.alloc (oFr ⟨#[]⟩ ⟨#[]⟩))
        have xF := Lib.hid (FB.new w3 A B 103)
        have xG := Lib.hid (fg.out.alloc (oFr A B))
        have xx := Lib.hid (fx.out.alloc (oFr A B))
        have xy := Lib.hid (fy.out.alloc (oFr A B))
        clear hK' K' hS fg fx fy
        have fg := ng
        clear ng
        have fx := nx
        clear nx
        have fy := ny
        clear ny
        have fz := nz
        clear nz
        have hS := hS'
        clear hS'
        try dsimp only [Act.put]
        try simp only [List.setIfInBounds_toArray, List.set_cons_zero, List.set_cons_succ]
        obtain ⟨z1, z2, z3, z4⟩ := id fz.out
        refine wpAnyH_ready (rs := [10]) (by kernel_rfl) (by simp) (AllReadyH.cons rfl (fun K' hK' => ?_) (AllReadyH.nil))
        go_simp
        have F := xF.out
        have G := xG.out
        have nx := xx.out
        have ny := xy.out
        refine hK'.out _ _ ⟨nx, ny⟩ (fun hS' => ?_)
        clear hK' K' hS z1 z2 z3 z4
        have hS := hS'
        clear hS'
        try dsimp only [Act.put]
        try simp only [List.setIfInBounds_toArray, List.set_cons_zero, List.set_cons_succ]
        refine wpAnyH_ready (rs := [11]) (by kernel_rfl) (by simp) (AllReadyH.cons rfl (fun K' hK' => ?_) (AllReadyH.nil))
        go_simp
        refine hK'.out _ _ ⟨nx, ny⟩ (fun hS' => wpAnyH_done (by kernel_rfl) ?_ _)
        clear hK' K' hS nx ny
        obtain ⟨z1, z2, z3, z4⟩ := id F
        have HF := Lib.hid F
        have HG := Lib.hid G
        clear F G
        by_cases h0 : E = 0
        · subst h0
          have H3 := Lib.hid (HC3.out rfl)
          go_wp2_with fail
          refine (H3.out _ (Gr.trans HG0.out HG.out)).mono ?_
          rintro e w4 ⟨rfl, hg⟩
          have HG5 := Lib.hid (Gr.trans HG.out hg)
          clear hg
          go_wp2
          go_ret2
          exact ⟨by simp, HG5.out⟩
        · have hne : (E == 0) = false := beq_eq_false_iff_ne.2 h0
          have H0 := Lib.hid h0
          clear h0
          go_wp2
          go_ret2
          first | exact ⟨rfl, HG.out⟩ | exact ⟨by simp [H0.out], HG.out⟩
      · go_simp
        refine hK'.out _ _ ⟨fx.out.alloc _, fy.out.alloc _⟩ (fun hS' => ?_)
        have nz : Hid (FB (w2.alloc (oFr ⟨#[]⟩ ⟨#[]⟩)) w2.heap.size ⟨#[]⟩ ⟨#[]⟩) := FB.new w2 ⟨#[]⟩ ⟨#[]⟩ 103
        have nb : w.heap.size ≤ w2.heap.size := fg.out.size
        have nb1 : w1.heap.size < w2.heap.size := cell_lt fx.out.c0
        have nb2 : w1.heap.size + 1 < w2.heap.size := cell_lt fy.out.c0
        have ng := Lib.hid (fg.out.alloc (oFr ⟨#[]⟩ ⟨#[]⟩))
        have nx := Lib.hid (fx.out.alloc (oFr ⟨#[]⟩ ⟨#[]⟩))
        have ny := Lib.hid (fy.out.alloc (oFr ⟨#[]⟩ ⟨#[]⟩))
        have nm := Lib.hid (fm.out.gr ((Gr.refl _).alloc (oFr ⟨#[]⟩ ⟨#[]⟩)))
        clear hK' K' hS fg fx fy fm
        have fg := ng
        clear ng
        have fx := nx
        clear nx
        have fy := ny
        clear ny
        have fz := nz
        clear nz
        have hS := hS'
        clear hS'
        have fm := nm
        clear nm
        try dsimp only [Act.put]
        try simp only [List.setIfInBounds_toArray, List.set_cons_zero, List.set_cons_succ]
        refine wpAnyH_ready (rs := [5]) (by kernel_rfl) (by simp) (AllReadyH.cons rfl (fun K' hK' => ?_) (AllReadyH.nil))
        go_simp
        refine (HC2.out _ (Gr.trans HG0.out fg.out)).mono ?_
        rintro e w3 ⟨rfl, hg⟩
        have ng := Lib.hid (Gr.trans fg.out hg)
        have nx := Lib.hid (fx.out.gr hg)
        have ny := Lib.hid (fy.out.gr hg)
        have nz := Lib.hid (fz.out.gr hg)
        refine hK'.out _ _ ⟨nx.out, ny.out⟩ (fun hS' => ?_)
        clear hK' K' hS fg fx fy fm hg fz
        have fg := ng
        clear ng
        have fx := nx
        clear nx
        have fy := ny
        clear ny
        have hS := hS'
        clear hS'
        have fz := nz
        clear nz
        try dsimp only [Act.put]
        try simp only [List.setIfInBounds_toArray, List.set_cons_zero, List.set_cons_succ]
        refine wpAnyH_take (i := 6) (v := .tuple #[vFr A B, .int .i64 E]) rfl (by kernel_rfl) (by kernel_rfl) (by kernel_rfl) (fun _ _ _ h => h) (Or.inl ⟨by rfl, ?_⟩) hS ?_
        · intro w hSw; obtain ⟨⟨p1, p2, p3, p4⟩, p5, p6, p7, p8⟩ := hSw; go_simp
        try dsimp only [Act.put]
        try simp only [List.setIfInBounds_toArray, List.set_cons_zero, List.set_cons_succ]
        refine wpAnyH_take (i := 7) (v := vFr A B) rfl (by kernel_rfl) (by kernel_rfl) (by kernel_rfl) (fun _ _ _ h => h) (Or.inl ⟨by rfl, ?_⟩) hS ?_
        · intro w hSw; obtain ⟨⟨p1, p2, p3, p4⟩, p5, p6, p7, p8⟩ := hSw; go_simp
        try dsimp only [Act.put]
        try simp only [List.setIfInBounds_toArray, List.set_cons_zero, List.set_cons_succ]
        refine wpAnyH_take (i := 8) (v := .int .i64 E) rfl (by kernel_rfl) (by kernel_rfl) (by kernel_rfl) (fun _ _ _ h => h) (Or.inl ⟨by rfl, ?_⟩) hS ?_
        · intro w hSw; obtain ⟨⟨p1, p2, p3, p4⟩, p5, p6, p7, p8⟩ := hSw; go_simp
        try dsimp only [Act.put]
        try simp only [List.setIfInBounds_toArray, List.set_cons_zero, List.set_cons_succ]
        obtain ⟨z1, z2, z3, z4⟩ := id fz.out
        refine wpAnyH_ready (rs := [10]) (by kernel_rfl) (by simp) (AllReadyH.cons rfl (fun K' hK' => ?_) (AllReadyH.nil))
        go_simp
        obtain ⟨F, G⟩ := fz.out.store (p' := A) (q' := B) fg.out (by omega)
        have nx := (fx.out.set (b' := w2.heap.size) (o := 0) (u := .string A) (by omega)).set (b' := w2.heap.size) (o := 1) (u := .string B) (by omega)
        have ny := (fy.out.set (b' := w2.heap.size) (o := 0) (u := .string A) (by omega)).set (b' := w2.heap.size) (o := 1) (u := .string B) (by omega)
        refine hK'.out _ _ ⟨nx, ny⟩ (fun hS' => ?_)
        clear hK' K' hS z1 z2 z3 z4
        have hS := hS'
        clear hS'
        try dsimp only [Act.put]
        try simp only [List.setIfInBounds_toArray, List.set_cons_zero, List.set_cons_succ]
        refine wpAnyH_ready (rs := [11]) (by kernel_rfl) (by simp) (AllReadyH.cons rfl (fun K' hK' => ?_) (AllReadyH.nil))
        go_simp
        refine hK'.out _ _ ⟨nx, ny⟩ (fun hS' => wpAnyH_done (by kernel_rfl) ?_ _)
        clear hK' K' hS nx ny
        obtain ⟨z1, z2, z3, z4⟩ := id F
        have HF := Lib.hid F
        have HG := Lib.hid G
        clear F G
        by_cases h0 : E = 0
        · subst h0
          have H3 := Lib.hid (HC3.out rfl)
          go_wp2_with fail
          refine (H3.out _ (Gr.trans HG0.out HG.out)).mono ?_
          rintro e w4 ⟨rfl, hg⟩
          have HG5 := Lib.hid (Gr.trans HG.out hg)
          clear hg
          go_wp2
          go_ret2
          exact ⟨by simp, HG5.out⟩
        · have hne : (E == 0) = false := beq_eq_false_iff_ne.2 h0
          have H0 := Lib.hid h0
          clear h0
          go_wp2
          go_ret2
          first | exact ⟨rfl, HG.out⟩ | exact ⟨by simp [H0.out], HG.out⟩
    · go_simp
      refine hK'.out _ _ ⟨fx.out.alloc _, fy.out.alloc _⟩ (fun hS' => ?_)
      have nz : Hid (FB (w2.alloc (oFr ⟨#[]⟩ ⟨#[]⟩)) w2.heap.size ⟨#[]⟩ ⟨#[]⟩) := FB.new w2 ⟨#[]⟩ ⟨#[]⟩ 103
      have nb : w.heap.size ≤ w2.heap.size := fg.out.size
      have nb1 : w1.heap.size < w2.heap.size := cell_lt fx.out.c0
      have nb2 : w1.heap.size + 1 < w2.heap.size := cell_lt fy.out.c0
      have ng := Lib.hid (fg.out.alloc (oFr ⟨#[]⟩ ⟨#[]⟩))
      have nx := Lib.hid (fx.out.alloc (oFr ⟨#[]⟩ ⟨#[]⟩))
      have ny := Lib.hid (fy.out.alloc (oFr ⟨#[]⟩ ⟨#[]⟩))
      have nm := Lib.hid (fm.out.gr ((Gr.refl _).alloc (oFr ⟨#[]⟩ ⟨#[]⟩)))
      clear hK' K' hS fg fx fy fm
      have fg := ng
      clear ng
      have fx := nx
      clear nx
      have fy := ny
      clear ny
      have fz := nz
      clear nz
      have hS := hS'
      clear hS'
      have fm := nm
      clear nm
      try dsimp only [Act.put]
      try simp only [List.setIfInBounds_toArray, List.set_cons_zero, List.set_cons_succ]
      refine wpAnyH_ready (rs := [2]) (by kernel_rfl) (by simp) (AllReadyH.cons rfl (fun K' hK' => ?_) (AllReadyH.nil))
      have hl := run_add fm.out
      go_simp
      refine hK'.out _ _ ⟨fx.out, fy.out⟩ (fun hS' => ?_)
      clear hK' K' hS hl
      have hS := hS'
      clear hS'
      try dsimp only [Act.put]
      try simp only [List.setIfInBounds_toArray, List.set_cons_zero, List.set_cons_succ]
      refine wpAnyH_ready (rs := [5]) (by kernel_rfl) (by simp) (AllReadyH.cons rfl (fun K' hK' => ?_) (AllReadyH.nil))
      go_simp
      refine (HC2.out _ (Gr.trans HG0.out fg.out)).mono ?_
      rintro e w3 ⟨rfl, hg⟩
      have ng := Lib.hid (Gr.trans fg.out hg)
      have nx := Lib.hid (fx.out.gr hg)
      have ny := Lib.hid (fy.out.gr hg)
      have nz := Lib.hid (fz.out.gr hg)
      refine hK'.out _ _ ⟨nx.out, ny.out⟩ (fun hS' => ?_)
      clear hK' K' hS fg fx fy fm hg fz
      have fg := ng
      clear ng
      have fx := nx
      clear nx
      have fy := ny
      clear ny
      have hS := hS'
      clear hS'
      have fz := nz
      clear nz
      try dsimp only [Act.put]
      try simp only [List.setIfInBounds_toArray, List.set_cons_zero, List.set_cons_succ]
      refine wpAnyH_take (i := 6) (v := .tuple #[vFr A B, .int .i64 E]) rfl (by kernel_rfl) (by kernel_rfl) (by kernel_rfl) (fun _ _ _ h => h) (Or.inl ⟨by rfl, ?_⟩) hS ?_
      · intro w hSw; obtain ⟨⟨p1, p2, p3, p4⟩, p5, p6, p7, p8⟩ := hSw; go_simp
      try dsimp only [Act.put]
      try simp only [List.setIfInBounds_toArray, List.set_cons_zero, List.set_cons_succ]
      refine wpAnyH_take (i := 7) (v := vFr A B) rfl (by kernel_rfl) (by kernel_rfl) (by kernel_rfl) (fun _ _ _ h => h) (Or.inl ⟨by rfl, ?_⟩) hS ?_
      · intro w hSw; obtain ⟨⟨p1, p2, p3, p4⟩, p5, p6, p7, p8⟩ := hSw; go_simp
      try dsimp only [Act.put]
      try simp only [List.setIfInBounds_toArray, List.set_cons_zero, List.set_cons_succ]
      refine wpAnyH_take (i := 8) (v := .int .i64 E) rfl (by kernel_rfl) (by kernel_rfl) (by kernel_rfl) (fun _ _ _ h => h) (Or.inl ⟨by rfl, ?_⟩) hS ?_
      · intro w hSw; obtain ⟨⟨p1, p2, p3, p4⟩, p5, p6, p7, p8⟩ := hSw; go_simp
      try dsimp only [Act.put]
      try simp only [List.setIfInBounds_toArray, List.set_cons_zero, List.set_cons_succ]
      obtain ⟨z1, z2, z3, z4⟩ := id fz.out
      refine wpAnyH_ready (rs := [10]) (by kernel_rfl) (by simp) (AllReadyH.cons rfl (fun K' hK' => ?_) (AllReadyH.nil))
      go_simp
      obtain ⟨F, G⟩ := fz.out.store (p' := A) (q' := B) fg.out (by omega)
      have nx := (fx.out.set (b' := w2.heap.size) (o := 0) (u := .string A) (by omega)).set (b' := w2.heap.size) (o := 1) (u := .string B) (by omega)
      have ny := (fy.out.set (b' := w2.heap.size) (o := 0) (u := .string A) (by omega)).set (b' := w2.heap.size) (o := 1) (u := .string B) (by omega)
      refine hK'.out _ _ ⟨nx, ny⟩ (fun hS' => ?_)
      clear hK' K' hS z1 z2 z3 z4
      have hS := hS'
      clear hS'
      try dsimp only [Act.put]
      try simp only [List.setIfInBounds_toArray, List.set_cons_zero, List.set_cons_succ]
      refine wpAnyH_ready (rs := [11]) (by kernel_rfl) (by simp) (AllReadyH.cons rfl (fun K' hK' => ?_) (AllReadyH.nil))
      go_simp
      refine hK'.out _ _ ⟨nx, ny⟩ (fun hS' => wpAnyH_done (by kernel_rfl) ?_ _)
      clear hK' K' hS nx ny
      obtain ⟨z1, z2, z3, z4⟩ := id F
      have HF := Lib.hid F
      have HG := Lib.hid G
      clear F G
      by_cases h0 : E = 0
      · subst h0
        have H3 := Lib.hid (HC3.out rfl)
        go_wp2_with fail
        refine (H3.out _ (Gr.trans HG0.out HG.out)).mono ?_
        rintro e w4 ⟨rfl, hg⟩
        have HG5 := Lib.hid (Gr.trans HG.out hg)
        clear hg
        go_wp2
        go_ret2
        exact ⟨by simp, HG5.out⟩
      · have hne : (E == 0) = false := beq_eq_false_iff_ne.2 h0
        have H0 := Lib.hid h0
        clear h0
        go_wp2
        go_ret2
        first | exact ⟨rfl, HG.out⟩ | exact ⟨by simp [H0.out], HG.out⟩
  · go_simp
    refine hK'.out _ _ ⟨fx.out.alloc _, fy.out.alloc _⟩ (fun hS' => ?_)
    have nz : Hid (FB (W.drew.alloc (oFr ⟨#[]⟩ ⟨#[]⟩)) W.heap.size ⟨#[]⟩ ⟨#[]⟩) := FB.new W.drew ⟨#[]⟩ ⟨#[]⟩ 103
    have nb : w.heap.size ≤ W.heap.size := fg.out.size
    have nb1 : w1.heap.size < W.heap.size := cell_lt fx.out.c0
    have nb2 : w1.heap.size + 1 < W.heap.size := cell_lt fy.out.c0
    have ng := Lib.hid (fg.out.alloc (oFr ⟨#[]⟩ ⟨#[]⟩))
    have nx := Lib.hid (fx.out.alloc (oFr ⟨#[]⟩ ⟨#[]⟩))
    have ny := Lib.hid (fy.out.alloc (oFr ⟨#[]⟩ ⟨#[]⟩))
    clear hK' K' hS fg fx fy
    have fg := ng
    clear ng
    have fx := nx
    clear nx
    have fy := ny
    clear ny
    have fz := nz
    clear nz
    have hS := hS'
    clear hS'
    try dsimp only [Act.put]
    try simp only [List.setIfInBounds_toArray, List.set_cons_zero, List.set_cons_succ]
    refine wpAnyH_ready (rs := [0]) (by kernel_rfl) (by simp) (AllReadyH.cons rfl (fun K' hK' => ?_) (AllReadyH.nil))
    go_simp
    refine (HOP.out _).mono ?_
    rintro e w2 ⟨b, rfl, fm, hg⟩
    have fm' := Lib.hid fm
    have ng := Lib.hid (Gr.trans fg.out hg)
    have nx := Lib.hid (fx.out.gr hg)
    have ny := Lib.hid (fy.out.gr hg)
    have nz := Lib.hid (fz.out.gr hg)
    refine hK'.out _ _ ⟨nx.out, ny.out⟩ (fun hS' => ?_)
    clear hK' K' hS fg fx fy fm hg fz
    have fm := fm'
    clear fm'
    have fg := ng
    clear ng
    have fx := nx
    clear nx
    have fy := ny
    clear ny
    have hS := hS'
    clear hS'
    have fz := nz
    clear nz
    try dsimp only [Act.put]
    try simp only [List.setIfInBounds_toArray, List.set_cons_zero, List.set_cons_succ]
    refine wpAnyH_ready (rs := [2]) (by kernel_rfl) (by simp) (AllReadyH.cons rfl (fun K' hK' => ?_) (AllReadyH.nil))
    have hl := run_add fm.out
    go_simp
    refine hK'.out _ _ ⟨fx.out, fy.out⟩ (fun hS' => ?_)
    clear hK' K' hS hl
    have hS := hS'
    clear hS'
    try dsimp only [Act.put]
    try simp only [List.setIfInBounds_toArray, List.set_cons_zero, List.set_cons_succ]
    refine wpAnyH_ready (rs := [5]) (by kernel_rfl) (by simp) (AllReadyH.cons rfl (fun K' hK' => ?_) (AllReadyH.nil))
    go_simp
    refine (HC2.out _ (Gr.trans HG0.out fg.out)).mono ?_
    rintro e w3 ⟨rfl, hg⟩
    have ng := Lib.hid (Gr.trans fg.out hg)
    have nx := Lib.hid (fx.out.gr hg)
    have ny := Lib.hid (fy.out.gr hg)
    have nz := Lib.hid (fz.out.gr hg)
    refine hK'.out _ _ ⟨nx.out, ny.out⟩ (fun hS' => ?_)
    clear hK' K' hS fg fx fy fm hg fz
    have fg := ng
    clear ng
    have fx := nx
    clear nx
    have fy := ny
    clear ny
    have hS := hS'
    clear hS'
    have fz := nz
    clear nz
    try dsimp only [Act.put]
    try simp only [List.setIfInBounds_toArray, List.set_cons_zero, List.set_cons_succ]
    refine wpAnyH_take (i := 6) (v := .tuple #[vFr A B, .int .i64 E]) rfl (by kernel_rfl) (by kernel_rfl) (by kernel_rfl) (fun _ _ _ h => h) (Or.inl ⟨by rfl, ?_⟩) hS ?_
    · intro w hSw; obtain ⟨⟨p1, p2, p3, p4⟩, p5, p6, p7, p8⟩ := hSw; go_simp
    try dsimp only [Act.put]
    try simp only [List.setIfInBounds_toArray, List.set_cons_zero, List.set_cons_succ]
    refine wpAnyH_take (i := 7) (v := vFr A B) rfl (by kernel_rfl) (by kernel_rfl) (by kernel_rfl) (fun _ _ _ h => h) (Or.inl ⟨by rfl, ?_⟩) hS ?_
    · intro w hSw; obtain ⟨⟨p1, p2, p3, p4⟩, p5, p6, p7, p8⟩ := hSw; go_simp
    try dsimp only [Act.put]
    try simp only [List.setIfInBounds_toArray, List.set_cons_zero, List.set_cons_succ]
    refine wpAnyH_take (i := 8) (v := .int .i64 E) rfl (by kernel_rfl) (by kernel_rfl) (by kernel_rfl) (fun _ _ _ h => h) (Or.inl ⟨by rfl, ?_⟩) hS ?_
    · intro w hSw; obtain ⟨⟨p1, p2, p3, p4⟩, p5, p6, p7, p8⟩ := hSw; go_simp
    try dsimp only [Act.put]
    try simp only [List.setIfInBounds_toArray, List.set_cons_zero, List.set_cons_succ]
    obtain ⟨z1, z2, z3, z4⟩ := id fz.out
    refine wpAnyH_ready (rs := [10]) (by kernel_rfl) (by simp) (AllReadyH.cons rfl (fun K' hK' => ?_) (AllReadyH.nil))
    go_simp
    obtain ⟨F, G⟩ := fz.out.store (p' := A) (q' := B) fg.out (by omega)
    have nx := (fx.out.set (b' := W.heap.size) (o := 0) (u := .string A) (by omega)).set (b' := W.heap.size) (o := 1) (u := .string B) (by omega)
    have ny := (fy.out.set (b' := W.heap.size) (o := 0) (u := .string A) (by omega)).set (b' := W.heap.size) (o := 1) (u := .string B) (by omega)
    refine hK'.out _ _ ⟨nx, ny⟩ (fun hS' => ?_)
    clear hK' K' hS z1 z2 z3 z4
    have hS := hS'
    clear hS'
    try dsimp only [Act.put]
    try simp only [List.setIfInBounds_toArray, List.set_cons_zero, List.set_cons_succ]
    refine wpAnyH_ready (rs := [11]) (by kernel_rfl) (by simp) (AllReadyH.cons rfl (fun K' hK' => ?_) (AllReadyH.nil))
    go_simp
    refine hK'.out _ _ ⟨nx, ny⟩ (fun hS' => wpAnyH_done (by kernel_rfl) ?_ _)
    clear hK' K' hS nx ny
    obtain ⟨z1, z2, z3, z4⟩ := id F
    have HF := Lib.hid F
    have HG := Lib.hid G
    clear F G
    by_cases h0 : E = 0
    · subst h0
      have H3 := Lib.hid (HC3.out rfl)
      go_wp2_with fail
      refine (H3.out _ (Gr.trans HG0.out HG.out)).mono ?_
      rintro e w4 ⟨rfl, hg⟩
      have HG5 := Lib.hid (Gr.trans HG.out hg)
      clear hg
      go_wp2
      go_ret2
      exact ⟨by simp, HG5.out⟩
    · have hne : (E == 0) = false := beq_eq_false_iff_ne.2 h0
      have H0 := Lib.hid h0
      clear h0
      go_wp2
      go_ret2
      first | exact ⟨rfl, HG.out⟩ | exact ⟨by simp [H0.out], HG.out⟩
set_option maxHeartbeats 4000000 in
set_option maxRecDepth 100000 in
theorem q_calcSub {s t p q r u A B R : ByteArray} {E : Int} (H1 : RetG w0 154 #[.string s, .string t] (.tuple #[vFr p q, vFr r u, .int .i64 0])) (H2 : RetG w0 175 #[vFr p q, vFr r u] (.tuple #[vFr A B, .int .i64 E])) (H3 : E = 0 → RetG w0 131 #[vFr A B] (.string R)) :
    RetG w0 132 #[.string s, .int .i32 45, .string t] (.tuple #[.string (if E = 0 then R else ⟨#[]⟩), .int .i64 E]) := by
  intro w hg
  have HG0 := Lib.hid hg
  have HC1 := Lib.hid H1
  have HC2 := Lib.hid H2
  have HC3 := Lib.hid H3
  have HOP := Lib.hid q_operations
  clear hg H1 H2 H3
  go_enter Tryz.func132, Tryz.ntmps132
  go_wp2_with fail
  refine (HC1.out _ HG0.out).mono ?_
  rintro e w1 ⟨rfl, hg⟩
  obtain ⟨g1, f1, f2⟩ := two_boxes w1 p q r u
  have HGW := Lib.hid (Gr.trans hg g1)
  have HX := Lib.hid f1
  have HY := Lib.hid f2
  clear hg g1 f1 f2
  have hneq : ¬ w1.heap.size = w1.heap.size + 1 := by omega
  have hneq' : ¬ w1.heap.size + 1 = w1.heap.size := by omega
  obtain ⟨W, HW⟩ : ∃ W, Hid (W = ((w1.alloc (oFr p q)).alloc (oFr r u))) := ⟨_, rfl⟩
  rw [← HW.out] at HGW HX HY
  go_wp2
  rw [← HW.out]
  clear HW hneq hneq'
  have fg : Hid (Gr w W.drew) := Gr.drew HGW.out
  have fx : Hid (FB W.drew w1.heap.size p q) := HX.out.gr (Gr.refl W).drew
  have fy : Hid (FB W.drew (w1.heap.size + 1) r u) := HY.out.gr (Gr.refl W).drew
  clear HGW HX HY
  have hS : (fun w' : World => FB w' w1.heap.size p q ∧ FB w' (w1.heap.size + 1) r u) W.drew := ⟨fx.out, fy.out⟩
  refine wp_region_held (S := fun w' : World => FB w' w1.heap.size p q ∧ FB w' (w1.heap.size + 1) r u) (by kernel_rfl) ?_
  refine wpAnyH_take (i := 1) (v := .int .i32 45) rfl (by kernel_rfl) (by kernel_rfl) (by kernel_rfl) (fun _ _ _ h => h) (Or.inl ⟨by rfl, ?_⟩) hS ?_
  · intro w hSw; obtain ⟨⟨p1, p2, p3, p4⟩, p5, p6, p7, p8⟩ := hSw; go_simp
  try dsimp only [Act.put]
  try simp only [List.setIfInBounds_toArray, List.set_cons_zero, List.set_cons_succ]
  refine wpAnyH_take (i := 3) (v := .agg #[.string p, .string q]) rfl (by kernel_rfl) (by kernel_rfl) (by kernel_rfl) (fun _ _ _ h => h) (Or.inl ⟨by rfl, ?_⟩) hS ?_
  · intro w hSw; obtain ⟨⟨p1, p2, p3, p4⟩, p5, p6, p7, p8⟩ := hSw; go_simp
  try dsimp only [Act.put]
  try simp only [List.setIfInBounds_toArray, List.set_cons_zero, List.set_cons_succ]
  refine wpAnyH_take (i := 4) (v := .agg #[.string r, .string u]) rfl (by kernel_rfl) (by kernel_rfl) (by kernel_rfl) (fun _ _ _ h => h) (Or.inl ⟨by rfl, ?_⟩) hS ?_
  · intro w hSw; obtain ⟨⟨p1, p2, p3, p4⟩, p5, p6, p7, p8⟩ := hSw; go_simp
  try dsimp only [Act.put]
  try simp only [List.setIfInBounds_toArray, List.set_cons_zero, List.set_cons_succ]
  refine wpAnyH_ready (rs := [0, 9]) (by kernel_rfl) (by simp) (AllReadyH.cons rfl (fun K' hK' => ?_) (AllReadyH.cons rfl (fun K' hK' => ?_) (AllReadyH.nil)))
  · go_simp
    refine (HOP.out _).mono ?_
    rintro e w2 ⟨b, rfl, fm, hg⟩
    have fm' := Lib.hid fm
    have ng := Lib.hid (Gr.trans fg.out hg)
    have nx := Lib.hid (fx.out.gr hg)
    have ny := Lib.hid (fy.out.gr hg)
    refine hK'.out _ _ ⟨nx.out, ny.out⟩ (fun hS' => ?_)
    clear hK' K' hS fg fx fy fm hg
    have fm := fm'
    clear fm'
    have fg := ng
    clear ng
    have fx := nx
    clear nx
    have fy := ny
    clear ny
    have hS := hS'
    clear hS'
    try dsimp only [Act.put]
    try simp only [List.setIfInBounds_toArray, List.set_cons_zero, List.set_cons_succ]
    refine wpAnyH_ready (rs := [2, 9]) (by kernel_rfl) (by simp) (AllReadyH.cons rfl (fun K' hK' => ?_) (AllReadyH.cons rfl (fun K' hK' => ?_) (AllReadyH.nil)))
    · have hl := run_sub fm.out
      go_simp
      refine hK'.out _ _ ⟨fx.out, fy.out⟩ (fun hS' => ?_)
      clear hK' K' hS hl
      have hS := hS'
      clear hS'
      try dsimp only [Act.put]
      try simp only [List.setIfInBounds_toArray, List.set_cons_zero, List.set_cons_succ]
      refine wpAnyH_ready (rs := [5, 9]) (by kernel_rfl) (by simp) (AllReadyH.cons rfl (fun K' hK' => ?_) (AllReadyH.cons rfl (fun K' hK' => ?_) (AllReadyH.nil)))
      · go_simp
        refine (HC2.out _ (Gr.trans HG0.out fg.out)).mono ?_
        rintro e w3 ⟨rfl, hg⟩
        have ng := Lib.hid (Gr.trans fg.out hg)
        have nx := Lib.hid (fx.out.gr hg)
        have ny := Lib.hid (fy.out.gr hg)
        refine hK'.out _ _ ⟨nx.out, ny.out⟩ (fun hS' => ?_)
        clear hK' K' hS fg fx fy fm hg
        have fg := ng
        clear ng
        have fx := nx
        clear nx
        have fy := ny
        clear ny
        have hS := hS'
        clear hS'
        try dsimp only [Act.put]
        try simp only [List.setIfInBounds_toArray, List.set_cons_zero, List.set_cons_succ]
        refine wpAnyH_take (i := 6) (v := .tuple #[vFr A B, .int .i64 E]) rfl (by kernel_rfl) (by kernel_rfl) (by kernel_rfl) (fun _ _ _ h => h) (Or.inl ⟨by rfl, ?_⟩) hS ?_
        · intro w hSw; obtain ⟨⟨p1, p2, p3, p4⟩, p5, p6, p7, p8⟩ := hSw; go_simp
        try dsimp only [Act.put]
        try simp only [List.setIfInBounds_toArray, List.set_cons_zero, List.set_cons_succ]
        refine wpAnyH_take (i := 7) (v := vFr A B) rfl (by kernel_rfl) (by kernel_rfl) (by kernel_rfl) (fun _ _ _ h => h) (Or.inl ⟨by rfl, ?_⟩) hS ?_
        · intro w hSw; obtain ⟨⟨p1, p2, p3, p4⟩, p5, p6, p7, p8⟩ := hSw; go_simp
        try dsimp only [Act.put]
        try simp only [List.setIfInBounds_toArray, List.set_cons_zero, List.set_cons_succ]
        refine wpAnyH_take (i := 8) (v := .int .i64 E) rfl (by kernel_rfl) (by kernel_rfl) (by kernel_rfl) (fun _ _ _ h => h) (Or.inl ⟨by rfl, ?_⟩) hS ?_
        · intro w hSw; obtain ⟨⟨p1, p2, p3, p4⟩, p5, p6, p7, p8⟩ := hSw; go_simp
        try dsimp only [Act.put]
        try simp only [List.setIfInBounds_toArray, List.set_cons_zero, List.set_cons_succ]
        refine wpAnyH_ready (rs := [9]) (by kernel_rfl) (by simp) (AllReadyH.cons rfl (fun K' hK' => ?_) (AllReadyH.nil))
        go_simp
        refine hK'.out _ _ ⟨fx.out.alloc _, fy.out.alloc _⟩ (fun hS' => ?_)
        have nz : Hid (FB (w3.alloc (oFr ⟨#[]⟩ ⟨#[]⟩)) w3.heap.size ⟨#[]⟩ ⟨#[]⟩) := FB.new w3 ⟨#[]⟩ ⟨#[]⟩ 103
        have nb : w.heap.size ≤ w3.heap.size := fg.out.size
        have nb1 : w1.heap.size < w3.heap.size := cell_lt fx.out.c0
        have nb2 : w1.heap.size + 1 < w3.heap.size := cell_lt fy.out.c0
        have ng := Lib.hid (fg.out.alloc (oFr ⟨#[]⟩ ⟨#[]⟩))
        have nx := Lib.hid (fx.out.alloc (oFr ⟨#[]⟩ ⟨#[]⟩))
        have ny := Lib.hid (fy.out.alloc (oFr ⟨#[]⟩ ⟨#[]⟩))
        have xF := Lib.hid (FB.new w3 A B 103)
        have xG := Lib.hid (fg.out.alloc (oFr A B))
        have xx := Lib.hid (fx.out.alloc (oFr A B))
        have xy := Lib.hid (fy.out.alloc (oFr A B))
        clear hK' K' hS fg fx fy
        have fg := ng
        clear ng
        have fx := nx
        clear nx
        have fy := ny
        clear ny
        have fz := nz
        clear nz
        have hS := hS'
        clear hS'
        try dsimp only [Act.put]
        try simp only [List.setIfInBounds_toArray, List.set_cons_zero, List.set_cons_succ]
        obtain ⟨z1, z2, z3, z4⟩ := id fz.out
        refine wpAnyH_ready (rs := [10]) (by kernel_rfl) (by simp) (AllReadyH.cons rfl (fun K' hK' => ?_) (AllReadyH.nil))
        go_simp
        have F := xF.out
        have G := xG.out
        have nx := xx.out
        have ny := xy.out
        refine hK'.out _ _ ⟨nx, ny⟩ (fun hS' => ?_)
        clear hK' K' hS z1 z2 z3 z4
        have hS := hS'
        clear hS'
        try dsimp only [Act.put]
        try simp only [List.setIfInBounds_toArray, List.set_cons_zero, List.set_cons_succ]
        refine wpAnyH_ready (rs := [11]) (by kernel_rfl) (by simp) (AllReadyH.cons rfl (fun K' hK' => ?_) (AllReadyH.nil))
        go_simp
        refine hK'.out _ _ ⟨nx, ny⟩ (fun hS' => wpAnyH_done (by kernel_rfl) ?_ _)
        clear hK' K' hS nx ny
        obtain ⟨z1, z2, z3, z4⟩ := id F
        have HF := Lib.hid F
        have HG := Lib.hid G
        clear F G
        by_cases h0 : E = 0
        · subst h0
          have H3 := Lib.hid (HC3.out rfl)
          go_wp2_with fail
          refine (H3.out _ (Gr.trans HG0.out HG.out)).mono ?_
          rintro e w4 ⟨rfl, hg⟩
          have HG5 := Lib.hid (Gr.trans HG.out hg)
          clear hg
          go_wp2
          go_ret2
          exact ⟨by simp, HG5.out⟩
        · have hne : (E == 0) = false := beq_eq_false_iff_ne.2 h0
          have H0 := Lib.hid h0
          clear h0
          go_wp2
          go_ret2
          first | exact ⟨rfl, HG.out⟩ | exact ⟨by simp [H0.out], HG.out⟩
      · go_simp
        refine hK'.out _ _ ⟨fx.out.alloc _, fy.out.alloc _⟩ (fun hS' => ?_)
        have nz : Hid (FB (w2.alloc (oFr ⟨#[]⟩ ⟨#[]⟩)) w2.heap.size ⟨#[]⟩ ⟨#[]⟩) := FB.new w2 ⟨#[]⟩ ⟨#[]⟩ 103
        have nb : w.heap.size ≤ w2.heap.size := fg.out.size
        have nb1 : w1.heap.size < w2.heap.size := cell_lt fx.out.c0
        have nb2 : w1.heap.size + 1 < w2.heap.size := cell_lt fy.out.c0
        have ng := Lib.hid (fg.out.alloc (oFr ⟨#[]⟩ ⟨#[]⟩))
        have nx := Lib.hid (fx.out.alloc (oFr ⟨#[]⟩ ⟨#[]⟩))
        have ny := Lib.hid (fy.out.alloc (oFr ⟨#[]⟩ ⟨#[]⟩))
        have nm := Lib.hid (fm.out.gr ((Gr.refl _).alloc (oFr ⟨#[]⟩ ⟨#[]⟩)))
        clear hK' K' hS fg fx fy fm
        have fg := ng
        clear ng
        have fx := nx
        clear nx
        have fy := ny
        clear ny
        have fz := nz
        clear nz
        have hS := hS'
        clear hS'
        have fm := nm
        clear nm
        try dsimp only [Act.put]
        try simp only [List.setIfInBounds_toArray, List.set_cons_zero, List.set_cons_succ]
        refine wpAnyH_ready (rs := [5]) (by kernel_rfl) (by simp) (AllReadyH.cons rfl (fun K' hK' => ?_) (AllReadyH.nil))
        go_simp
        refine (HC2.out _ (Gr.trans HG0.out fg.out)).mono ?_
        rintro e w3 ⟨rfl, hg⟩
        have ng := Lib.hid (Gr.trans fg.out hg)
        have nx := Lib.hid (fx.out.gr hg)
        have ny := Lib.hid (fy.out.gr hg)
        have nz := Lib.hid (fz.out.gr hg)
        refine hK'.out _ _ ⟨nx.out, ny.out⟩ (fun hS' => ?_)
        clear hK' K' hS fg fx fy fm hg fz
        have fg := ng
        clear ng
        have fx := nx
        clear nx
        have fy := ny
        clear ny
        have hS := hS'
        clear hS'
        have fz := nz
        clear nz
        try dsimp only [Act.put]
        try simp only [List.setIfInBounds_toArray, List.set_cons_zero, List.set_cons_succ]
        refine wpAnyH_take (i := 6) (v := .tuple #[vFr A B, .int .i64 E]) rfl (by kernel_rfl) (by kernel_rfl) (by kernel_rfl) (fun _ _ _ h => h) (Or.inl ⟨by rfl, ?_⟩) hS ?_
        · intro w hSw; obtain ⟨⟨p1, p2, p3, p4⟩, p5, p6, p7, p8⟩ := hSw; go_simp
        try dsimp only [Act.put]
        try simp only [List.setIfInBounds_toArray, List.set_cons_zero, List.set_cons_succ]
        refine wpAnyH_take (i := 7) (v := vFr A B) rfl (by kernel_rfl) (by kernel_rfl) (by kernel_rfl) (fun _ _ _ h => h) (Or.inl ⟨by rfl, ?_⟩) hS ?_
        · intro w hSw; obtain ⟨⟨p1, p2, p3, p4⟩, p5, p6, p7, p8⟩ := hSw; go_simp
        try dsimp only [Act.put]
        try simp only [List.setIfInBounds_toArray, List.set_cons_zero, List.set_cons_succ]
        refine wpAnyH_take (i := 8) (v := .int .i64 E) rfl (by kernel_rfl) (by kernel_rfl) (by kernel_rfl) (fun _ _ _ h => h) (Or.inl ⟨by rfl, ?_⟩) hS ?_
        · intro w hSw; obtain ⟨⟨p1, p2, p3, p4⟩, p5, p6, p7, p8⟩ := hSw; go_simp
        try dsimp only [Act.put]
        try simp only [List.setIfInBounds_toArray, List.set_cons_zero, List.set_cons_succ]
        obtain ⟨z1, z2, z3, z4⟩ := id fz.out
        refine wpAnyH_ready (rs := [10]) (by kernel_rfl) (by simp) (AllReadyH.cons rfl (fun K' hK' => ?_) (AllReadyH.nil))
        go_simp
        obtain ⟨F, G⟩ := fz.out.store (p' := A) (q' := B) fg.out (by omega)
        have nx := (fx.out.set (b' := w2.heap.size) (o := 0) (u := .string A) (by omega)).set (b' := w2.heap.size) (o := 1) (u := .string B) (by omega)
        have ny := (fy.out.set (b' := w2.heap.size) (o := 0) (u := .string A) (by omega)).set (b' := w2.heap.size) (o := 1) (u := .string B) (by omega)
        refine hK'.out _ _ ⟨nx, ny⟩ (fun hS' => ?_)
        clear hK' K' hS z1 z2 z3 z4
        have hS := hS'
        clear hS'
        try dsimp only [Act.put]
        try simp only [List.setIfInBounds_toArray, List.set_cons_zero, List.set_cons_succ]
        refine wpAnyH_ready (rs := [11]) (by kernel_rfl) (by simp) (AllReadyH.cons rfl (fun K' hK' => ?_) (AllReadyH.nil))
        go_simp
        refine hK'.out _ _ ⟨nx, ny⟩ (fun hS' => wpAnyH_done (by kernel_rfl) ?_ _)
        clear hK' K' hS nx ny
        obtain ⟨z1, z2, z3, z4⟩ := id F
        have HF := Lib.hid F
        have HG := Lib.hid G
        clear F G
        by_cases h0 : E = 0
        · subst h0
          have H3 := Lib.hid (HC3.out rfl)
          go_wp2_with fail
          refine (H3.out _ (Gr.trans HG0.out HG.out)).mono ?_
          rintro e w4 ⟨rfl, hg⟩
          have HG5 := Lib.hid (Gr.trans HG.out hg)
          clear hg
          go_wp2
          go_ret2
          exact ⟨by simp, HG5.out⟩
        · have hne : (E == 0) = false := beq_eq_false_iff_ne.2 h0
          have H0 := Lib.hid h0
          clear h0
          go_wp2
          go_ret2
          first | exact ⟨rfl, HG.out⟩ | exact ⟨by simp [H0.out], HG.out⟩
    · go_simp
      refine hK'.out _ _ ⟨fx.out.alloc _, fy.out.alloc _⟩ (fun hS' => ?_)
      have nz : Hid (FB (w2.alloc (oFr ⟨#[]⟩ ⟨#[]⟩)) w2.heap.size ⟨#[]⟩ ⟨#[]⟩) := FB.new w2 ⟨#[]⟩ ⟨#[]⟩ 103
      have nb : w.heap.size ≤ w2.heap.size := fg.out.size
      have nb1 : w1.heap.size < w2.heap.size := cell_lt fx.out.c0
      have nb2 : w1.heap.size + 1 < w2.heap.size := cell_lt fy.out.c0
      have ng := Lib.hid (fg.out.alloc (oFr ⟨#[]⟩ ⟨#[]⟩))
      have nx := Lib.hid (fx.out.alloc (oFr ⟨#[]⟩ ⟨#[]⟩))
      have ny := Lib.hid (fy.out.alloc (oFr ⟨#[]⟩ ⟨#[]⟩))
      have nm := Lib.hid (fm.out.gr ((Gr.refl _).alloc (oFr ⟨#[]⟩ ⟨#[]⟩)))
      clear hK' K' hS fg fx fy fm
      have fg := ng
      clear ng
      have fx := nx
      clear nx
      have fy := ny
      clear ny
      have fz := nz
      clear nz
      have hS := hS'
      clear hS'
      have fm := nm
      clear nm
      try dsimp only [Act.put]
      try simp only [List.setIfInBounds_toArray, List.set_cons_zero, List.set_cons_succ]
      refine wpAnyH_ready (rs := [2]) (by kernel_rfl) (by simp) (AllReadyH.cons rfl (fun K' hK' => ?_) (AllReadyH.nil))
      have hl := run_sub fm.out
      go_simp
      refine hK'.out _ _ ⟨fx.out, fy.out⟩ (fun hS' => ?_)
      clear hK' K' hS hl
      have hS := hS'
      clear hS'
      try dsimp only [Act.put]
      try simp only [List.setIfInBounds_toArray, List.set_cons_zero, List.set_cons_succ]
      refine wpAnyH_ready (rs := [5]) (by kernel_rfl) (by simp) (AllReadyH.cons rfl (fun K' hK' => ?_) (AllReadyH.nil))
      go_simp
      refine (HC2.out _ (Gr.trans HG0.out fg.out)).mono ?_
      rintro e w3 ⟨rfl, hg⟩
      have ng := Lib.hid (Gr.trans fg.out hg)
      have nx := Lib.hid (fx.out.gr hg)
      have ny := Lib.hid (fy.out.gr hg)
      have nz := Lib.hid (fz.out.gr hg)
      refine hK'.out _ _ ⟨nx.out, ny.out⟩ (fun hS' => ?_)
      clear hK' K' hS fg fx fy fm hg fz
      have fg := ng
      clear ng
      have fx := nx
      clear nx
      have fy := ny
      clear ny
      have hS := hS'
      clear hS'
      have fz := nz
      clear nz
      try dsimp only [Act.put]
      try simp only [List.setIfInBounds_toArray, List.set_cons_zero, List.set_cons_succ]
      refine wpAnyH_take (i := 6) (v := .tuple #[vFr A B, .int .i64 E]) rfl (by kernel_rfl) (by kernel_rfl) (by kernel_rfl) (fun _ _ _ h => h) (Or.inl ⟨by rfl, ?_⟩) hS ?_
      · intro w hSw; obtain ⟨⟨p1, p2, p3, p4⟩, p5, p6, p7, p8⟩ := hSw; go_simp
      try dsimp only [Act.put]
      try simp only [List.setIfInBounds_toArray, List.set_cons_zero, List.set_cons_succ]
      refine wpAnyH_take (i := 7) (v := vFr A B) rfl (by kernel_rfl) (by kernel_rfl) (by kernel_rfl) (fun _ _ _ h => h) (Or.inl ⟨by rfl, ?_⟩) hS ?_
      · intro w hSw; obtain ⟨⟨p1, p2, p3, p4⟩, p5, p6, p7, p8⟩ := hSw; go_simp
      try dsimp only [Act.put]
      try simp only [List.setIfInBounds_toArray, List.set_cons_zero, List.set_cons_succ]
      refine wpAnyH_take (i := 8) (v := .int .i64 E) rfl (by kernel_rfl) (by kernel_rfl) (by kernel_rfl) (fun _ _ _ h => h) (Or.inl ⟨by rfl, ?_⟩) hS ?_
      · intro w hSw; obtain ⟨⟨p1, p2, p3, p4⟩, p5, p6, p7, p8⟩ := hSw; go_simp
      try dsimp only [Act.put]
      try simp only [List.setIfInBounds_toArray, List.set_cons_zero, List.set_cons_succ]
      obtain ⟨z1, z2, z3, z4⟩ := id fz.out
      refine wpAnyH_ready (rs := [10]) (by kernel_rfl) (by simp) (AllReadyH.cons rfl (fun K' hK' => ?_) (AllReadyH.nil))
      go_simp
      obtain ⟨F, G⟩ := fz.out.store (p' := A) (q' := B) fg.out (by omega)
      have nx := (fx.out.set (b' := w2.heap.size) (o := 0) (u := .string A) (by omega)).set (b' := w2.heap.size) (o := 1) (u := .string B) (by omega)
      have ny := (fy.out.set (b' := w2.heap.size) (o := 0) (u := .string A) (by omega)).set (b' := w2.heap.size) (o := 1) (u := .string B) (by omega)
      refine hK'.out _ _ ⟨nx, ny⟩ (fun hS' => ?_)
      clear hK' K' hS z1 z2 z3 z4
      have hS := hS'
      clear hS'
      try dsimp only [Act.put]
      try simp only [List.setIfInBounds_toArray, List.set_cons_zero, List.set_cons_succ]
      refine wpAnyH_ready (rs := [11]) (by kernel_rfl) (by simp) (AllReadyH.cons rfl (fun K' hK' => ?_) (AllReadyH.nil))
      go_simp
      refine hK'.out _ _ ⟨nx, ny⟩ (fun hS' => wpAnyH_done (by kernel_rfl) ?_ _)
      clear hK' K' hS nx ny
      obtain ⟨z1, z2, z3, z4⟩ := id F
      have HF := Lib.hid F
      have HG := Lib.hid G
      clear F G
      by_cases h0 : E = 0
      · subst h0
        have H3 := Lib.hid (HC3.out rfl)
        go_wp2_with fail
        refine (H3.out _ (Gr.trans HG0.out HG.out)).mono ?_
        rintro e w4 ⟨rfl, hg⟩
        have HG5 := Lib.hid (Gr.trans HG.out hg)
        clear hg
        go_wp2
        go_ret2
        exact ⟨by simp, HG5.out⟩
      · have hne : (E == 0) = false := beq_eq_false_iff_ne.2 h0
        have H0 := Lib.hid h0
        clear h0
        go_wp2
        go_ret2
        first | exact ⟨rfl, HG.out⟩ | exact ⟨by simp [H0.out], HG.out⟩
  · go_simp
    refine hK'.out _ _ ⟨fx.out.alloc _, fy.out.alloc _⟩ (fun hS' => ?_)
    have nz : Hid (FB (W.drew.alloc (oFr ⟨#[]⟩ ⟨#[]⟩)) W.heap.size ⟨#[]⟩ ⟨#[]⟩) := FB.new W.drew ⟨#[]⟩ ⟨#[]⟩ 103
    have nb : w.heap.size ≤ W.heap.size := fg.out.size
    have nb1 : w1.heap.size < W.heap.size := cell_lt fx.out.c0
    have nb2 : w1.heap.size + 1 < W.heap.size := cell_lt fy.out.c0
    have ng := Lib.hid (fg.out.alloc (oFr ⟨#[]⟩ ⟨#[]⟩))
    have nx := Lib.hid (fx.out.alloc (oFr ⟨#[]⟩ ⟨#[]⟩))
    have ny := Lib.hid (fy.out.alloc (oFr ⟨#[]⟩ ⟨#[]⟩))
    clear hK' K' hS fg fx fy
    have fg := ng
    clear ng
    have fx := nx
    clear nx
    have fy := ny
    clear ny
    have fz := nz
    clear nz
    have hS := hS'
    clear hS'
    try dsimp only [Act.put]
    try simp only [List.setIfInBounds_toArray, List.set_cons_zero, List.set_cons_succ]
    refine wpAnyH_ready (rs := [0]) (by kernel_rfl) (by simp) (AllReadyH.cons rfl (fun K' hK' => ?_) (AllReadyH.nil))
    go_simp
    refine (HOP.out _).mono ?_
    rintro e w2 ⟨b, rfl, fm, hg⟩
    have fm' := Lib.hid fm
    have ng := Lib.hid (Gr.trans fg.out hg)
    have nx := Lib.hid (fx.out.gr hg)
    have ny := Lib.hid (fy.out.gr hg)
    have nz := Lib.hid (fz.out.gr hg)
    refine hK'.out _ _ ⟨nx.out, ny.out⟩ (fun hS' => ?_)
    clear hK' K' hS fg fx fy fm hg fz
    have fm := fm'
    clear fm'
    have fg := ng
    clear ng
    have fx := nx
    clear nx
    have fy := ny
    clear ny
    have hS := hS'
    clear hS'
    have fz := nz
    clear nz
    try dsimp only [Act.put]
    try simp only [List.setIfInBounds_toArray, List.set_cons_zero, List.set_cons_succ]
    refine wpAnyH_ready (rs := [2]) (by kernel_rfl) (by simp) (AllReadyH.cons rfl (fun K' hK' => ?_) (AllReadyH.nil))
    have hl := run_sub fm.out
    go_simp
    refine hK'.out _ _ ⟨fx.out, fy.out⟩ (fun hS' => ?_)
    clear hK' K' hS hl
    have hS := hS'
    clear hS'
    try dsimp only [Act.put]
    try simp only [List.setIfInBounds_toArray, List.set_cons_zero, List.set_cons_succ]
    refine wpAnyH_ready (rs := [5]) (by kernel_rfl) (by simp) (AllReadyH.cons rfl (fun K' hK' => ?_) (AllReadyH.nil))
    go_simp
    refine (HC2.out _ (Gr.trans HG0.out fg.out)).mono ?_
    rintro e w3 ⟨rfl, hg⟩
    have ng := Lib.hid (Gr.trans fg.out hg)
    have nx := Lib.hid (fx.out.gr hg)
    have ny := Lib.hid (fy.out.gr hg)
    have nz := Lib.hid (fz.out.gr hg)
    refine hK'.out _ _ ⟨nx.out, ny.out⟩ (fun hS' => ?_)
    clear hK' K' hS fg fx fy fm hg fz
    have fg := ng
    clear ng
    have fx := nx
    clear nx
    have fy := ny
    clear ny
    have hS := hS'
    clear hS'
    have fz := nz
    clear nz
    try dsimp only [Act.put]
    try simp only [List.setIfInBounds_toArray, List.set_cons_zero, List.set_cons_succ]
    refine wpAnyH_take (i := 6) (v := .tuple #[vFr A B, .int .i64 E]) rfl (by kernel_rfl) (by kernel_rfl) (by kernel_rfl) (fun _ _ _ h => h) (Or.inl ⟨by rfl, ?_⟩) hS ?_
    · intro w hSw; obtain ⟨⟨p1, p2, p3, p4⟩, p5, p6, p7, p8⟩ := hSw; go_simp
    try dsimp only [Act.put]
    try simp only [List.setIfInBounds_toArray, List.set_cons_zero, List.set_cons_succ]
    refine wpAnyH_take (i := 7) (v := vFr A B) rfl (by kernel_rfl) (by kernel_rfl) (by kernel_rfl) (fun _ _ _ h => h) (Or.inl ⟨by rfl, ?_⟩) hS ?_
    · intro w hSw; obtain ⟨⟨p1, p2, p3, p4⟩, p5, p6, p7, p8⟩ := hSw; go_simp
    try dsimp only [Act.put]
    try simp only [List.setIfInBounds_toArray, List.set_cons_zero, List.set_cons_succ]
    refine wpAnyH_take (i := 8) (v := .int .i64 E) rfl (by kernel_rfl) (by kernel_rfl) (by kernel_rfl) (fun _ _ _ h => h) (Or.inl ⟨by rfl, ?_⟩) hS ?_
    · intro w hSw; obtain ⟨⟨p1, p2, p3, p4⟩, p5, p6, p7, p8⟩ := hSw; go_simp
    try dsimp only [Act.put]
    try simp only [List.setIfInBounds_toArray, List.set_cons_zero, List.set_cons_succ]
    obtain ⟨z1, z2, z3, z4⟩ := id fz.out
    refine wpAnyH_ready (rs := [10]) (by kernel_rfl) (by simp) (AllReadyH.cons rfl (fun K' hK' => ?_) (AllReadyH.nil))
    go_simp
    obtain ⟨F, G⟩ := fz.out.store (p' := A) (q' := B) fg.out (by omega)
    have nx := (fx.out.set (b' := W.heap.size) (o := 0) (u := .string A) (by omega)).set (b' := W.heap.size) (o := 1) (u := .string B) (by omega)
    have ny := (fy.out.set (b' := W.heap.size) (o := 0) (u := .string A) (by omega)).set (b' := W.heap.size) (o := 1) (u := .string B) (by omega)
    refine hK'.out _ _ ⟨nx, ny⟩ (fun hS' => ?_)
    clear hK' K' hS z1 z2 z3 z4
    have hS := hS'
    clear hS'
    try dsimp only [Act.put]
    try simp only [List.setIfInBounds_toArray, List.set_cons_zero, List.set_cons_succ]
    refine wpAnyH_ready (rs := [11]) (by kernel_rfl) (by simp) (AllReadyH.cons rfl (fun K' hK' => ?_) (AllReadyH.nil))
    go_simp
    refine hK'.out _ _ ⟨nx, ny⟩ (fun hS' => wpAnyH_done (by kernel_rfl) ?_ _)
    clear hK' K' hS nx ny
    obtain ⟨z1, z2, z3, z4⟩ := id F
    have HF := Lib.hid F
    have HG := Lib.hid G
    clear F G
    by_cases h0 : E = 0
    · subst h0
      have H3 := Lib.hid (HC3.out rfl)
      go_wp2_with fail
      refine (H3.out _ (Gr.trans HG0.out HG.out)).mono ?_
      rintro e w4 ⟨rfl, hg⟩
      have HG5 := Lib.hid (Gr.trans HG.out hg)
      clear hg
      go_wp2
      go_ret2
      exact ⟨by simp, HG5.out⟩
    · have hne : (E == 0) = false := beq_eq_false_iff_ne.2 h0
      have H0 := Lib.hid h0
      clear h0
      go_wp2
      go_ret2
      first | exact ⟨rfl, HG.out⟩ | exact ⟨by simp [H0.out], HG.out⟩
end
end Go.Proofs.YtlbnibicehpobaaGreatDoor

/- The program's rational numbers: calculate, for * and /. -/
namespace Go.Proofs.YtlbnibicehpobaaGreatDoor
open Go.RowKit Go.Shelf
open Z
attribute [local go_sem ↓] Go.wp_at_zero Go.wp_at_succ

section
variable {w0 : World}
set_option maxHeartbeats 4000000 in
set_option maxRecDepth 100000 in
theorem q_calcMul {s t p q r u A B R : ByteArray} {E : Int} (H1 : RetG w0 154 #[.string s, .string t] (.tuple #[vFr p q, vFr r u, .int .i64 0])) (H2 : RetG w0 176 #[vFr p q, vFr r u] (.tuple #[vFr A B, .int .i64 E])) (H3 : E = 0 → RetG w0 131 #[vFr A B] (.string R)) :
    RetG w0 132 #[.string s, .int .i32 42, .string t] (.tuple #[.string (if E = 0 then R else ⟨#[]⟩), .int .i64 E]) := by
  intro w hg
  have HG0 := Lib.hid hg
  have HC1 := Lib.hid H1
  have HC2 := Lib.hid H2
  have HC3 := Lib.hid H3
  have HOP := Lib.hid q_operations
  clear hg H1 H2 H3
  go_enter Tryz.func132, Tryz.ntmps132
  go_wp2_with fail
  refine (HC1.out _ HG0.out).mono ?_
  rintro e w1 ⟨rfl, hg⟩
  obtain ⟨g1, f1, f2⟩ := two_boxes w1 p q r u
  have HGW := Lib.hid (Gr.trans hg g1)
  have HX := Lib.hid f1
  have HY := Lib.hid f2
  clear hg g1 f1 f2
  have hneq : ¬ w1.heap.size = w1.heap.size + 1 := by omega
  have hneq' : ¬ w1.heap.size + 1 = w1.heap.size := by omega
  obtain ⟨W, HW⟩ : ∃ W, Hid (W = ((w1.alloc (oFr p q)).alloc (oFr r u))) := ⟨_, rfl⟩
  rw [← HW.out] at HGW HX HY
  go_wp2
  rw [← HW.out]
  clear HW hneq hneq'
  have fg : Hid (Gr w W.drew) := Gr.drew HGW.out
  have fx : Hid (FB W.drew w1.heap.size p q) := HX.out.gr (Gr.refl W).drew
  have fy : Hid (FB W.drew (w1.heap.size + 1) r u) := HY.out.gr (Gr.refl W).drew
  clear HGW HX HY
  have hS : (fun w' : World => FB w' w1.heap.size p q ∧ FB w' (w1.heap.size + 1) r u) W.drew := ⟨fx.out, fy.out⟩
  refine wp_region_held (S := fun w' : World => FB w' w1.heap.size p q ∧ FB w' (w1.heap.size + 1) r u) (by kernel_rfl) ?_
  refine wpAnyH_take (i := 1) (v := .int .i32 42) rfl (by kernel_rfl) (by kernel_rfl) (by kernel_rfl) (fun _ _ _ h => h) (Or.inl ⟨by rfl, ?_⟩) hS ?_
  · intro w hSw; obtain ⟨⟨p1, p2, p3, p4⟩, p5, p6, p7, p8⟩ := hSw; go_simp
  try dsimp only [Act.put]
  try simp only [List.setIfInBounds_toArray, List.set_cons_zero, List.set_cons_succ]
  refine wpAnyH_take (i := 3) (v := .agg #[.string p, .string q]) rfl (by kernel_rfl) (by kernel_rfl) (by kernel_rfl) (fun _ _ _ h => h) (Or.inl ⟨by rfl, ?_⟩) hS ?_
  · intro w hSw; obtain ⟨⟨p1, p2, p3, p4⟩, p5, p6, p7, p8⟩ := hSw; go_simp
  try dsimp only [Act.put]
  try simp only [List.setIfInBounds_toArray, List.set_cons_zero, List.set_cons_succ]
  refine wpAnyH_take (i := 4) (v := .agg #[.string r, .string u]) rfl (by kernel_rfl) (by kernel_rfl) (by kernel_rfl) (fun _ _ _ h => h) (Or.inl ⟨by rfl, ?_⟩) hS ?_
  · intro w hSw; obtain ⟨⟨p1, p2, p3, p4⟩, p5, p6, p7, p8⟩ := hSw; go_simp
  try dsimp only [Act.put]
  try simp only [List.setIfInBounds_toArray, List.set_cons_zero, List.set_cons_succ]
  refine wpAnyH_ready (rs := [0, 9]) (by kernel_rfl) (by simp) (AllReadyH.cons rfl (fun K' hK' => ?_) (AllReadyH.cons rfl (fun K' hK' => ?_) (AllReadyH.nil)))
  · go_simp
    refine (HOP.out _).mono ?_
    rintro e w2 ⟨b, rfl, fm, hg⟩
    have fm' := Lib.hid fm
    have ng := Lib.hid (Gr.trans fg.out hg)
    have nx := Lib.hid (fx.out.gr hg)
    have ny := Lib.hid (fy.out.gr hg)
    refine hK'.out _ _ ⟨nx.out, ny.out⟩ (fun hS' => ?_)
    clear hK' K' hS fg fx fy fm hg
    have fm := fm'
    clear fm'
    have fg := ng
    clear ng
    have fx := nx
    clear nx
    have fy := ny
    clear ny
    have hS := hS'
    clear hS'
    try dsimp only [Act.put]
    try simp only [List.setIfInBounds_toArray, List.set_cons_zero, List.set_cons_succ]
    refine wpAnyH_ready (rs := [2, 9]) (by kernel_rfl) (by simp) (AllReadyH.cons rfl (fun K' hK' => ?_) (AllReadyH.cons rfl (fun K' hK' => ?_) (AllReadyH.nil)))
    · have hl := run_mul fm.out
      go_simp
      refine hK'.out _ _ ⟨fx.out, fy.out⟩ (fun hS' => ?_)
      clear hK' K' hS hl
      have hS := hS'
      clear hS'
      try dsimp only [Act.put]
      try simp only [List.setIfInBounds_toArray, List.set_cons_zero, List.set_cons_succ]
      refine wpAnyH_ready (rs := [5, 9]) (by kernel_rfl) (by simp) (AllReadyH.cons rfl (fun K' hK' => ?_) (AllReadyH.cons rfl (fun K' hK' => ?_) (AllReadyH.nil)))
      · go_simp
        refine (HC2.out _ (Gr.trans HG0.out fg.out)).mono ?_
        rintro e w3 ⟨rfl, hg⟩
        have ng := Lib.hid (Gr.trans fg.out hg)
        have nx := Lib.hid (fx.out.gr hg)
        have ny := Lib.hid (fy.out.gr hg)
        refine hK'.out _ _ ⟨nx.out, ny.out⟩ (fun hS' => ?_)
        clear hK' K' hS fg fx fy fm hg
        have fg := ng
        clear ng
        have fx := nx
        clear nx
        have fy := ny
        clear ny
        have hS := hS'
        clear hS'
        try dsimp only [Act.put]
        try simp only [List.setIfInBounds_toArray, List.set_cons_zero, List.set_cons_succ]
        refine wpAnyH_take (i := 6) (v := .tuple #[vFr A B, .int .i64 E]) rfl (by kernel_rfl) (by kernel_rfl) (by kernel_rfl) (fun _ _ _ h => h) (Or.inl ⟨by rfl, ?_⟩) hS ?_
        · intro w hSw; obtain ⟨⟨p1, p2, p3, p4⟩, p5, p6, p7, p8⟩ := hSw; go_simp
        try dsimp only [Act.put]
        try simp only [List.setIfInBounds_toArray, List.set_cons_zero, List.set_cons_succ]
        refine wpAnyH_take (i := 7) (v := vFr A B) rfl (by kernel_rfl) (by kernel_rfl) (by kernel_rfl) (fun _ _ _ h => h) (Or.inl ⟨by rfl, ?_⟩) hS ?_
        · intro w hSw; obtain ⟨⟨p1, p2, p3, p4⟩, p5, p6, p7, p8⟩ := hSw; go_simp
        try dsimp only [Act.put]
        try simp only [List.setIfInBounds_toArray, List.set_cons_zero, List.set_cons_succ]
        refine wpAnyH_take (i := 8) (v := .int .i64 E) rfl (by kernel_rfl) (by kernel_rfl) (by kernel_rfl) (fun _ _ _ h => h) (Or.inl ⟨by rfl, ?_⟩) hS ?_
        · intro w hSw; obtain ⟨⟨p1, p2, p3, p4⟩, p5, p6, p7, p8⟩ := hSw; go_simp
        try dsimp only [Act.put]
        try simp only [List.setIfInBounds_toArray, List.set_cons_zero, List.set_cons_succ]
        refine wpAnyH_ready (rs := [9]) (by kernel_rfl) (by simp) (AllReadyH.cons rfl (fun K' hK' => ?_) (AllReadyH.nil))
        go_simp
        refine hK'.out _ _ ⟨fx.out.alloc _, fy.out.alloc _⟩ (fun hS' => ?_)
        have nz : Hid (FB (w3.alloc (oFr ⟨#[]⟩ ⟨#[]⟩)) w3.heap.size ⟨#[]⟩ ⟨#[]⟩) := FB.new w3 ⟨#[]⟩ ⟨#[]⟩ 103
        have nb : w.heap.size ≤ w3.heap.size := fg.out.size
        have nb1 : w1.heap.size < w3.heap.size := cell_lt fx.out.c0
        have nb2 : w1.heap.size + 1 < w3.heap.size := cell_lt fy.out.c0
        have ng := Lib.hid (fg.out.alloc (oFr ⟨#[]⟩ ⟨#[]⟩))
        have nx := Lib.hid (fx.out.alloc (oFr ⟨#[]⟩ ⟨#[]⟩))
        have ny := Lib.hid (fy.out.alloc (oFr ⟨#[]⟩ ⟨#[]⟩))
        have xF := Lib.hid (FB.new w3 A B 103)
        have xG := Lib.hid (fg.out.alloc (oFr A B))
        have xx := Lib.hid (fx.out.alloc (oFr A B))
        have xy := Lib.hid (fy.out.alloc (oFr A B))
        clear hK' K' hS fg fx fy
        have fg := ng
        clear ng
        have fx := nx
        clear nx
        have fy := ny
        clear ny
        have fz := nz
        clear nz
        have hS := hS'
        clear hS'
        try dsimp only [Act.put]
        try simp only [List.setIfInBounds_toArray, List.set_cons_zero, List.set_cons_succ]
        obtain ⟨z1, z2, z3, z4⟩ := id fz.out
        refine wpAnyH_ready (rs := [10]) (by kernel_rfl) (by simp) (AllReadyH.cons rfl (fun K' hK' => ?_) (AllReadyH.nil))
        go_simp
        have F := xF.out
        have G := xG.out
        have nx := xx.out
        have ny := xy.out
        refine hK'.out _ _ ⟨nx, ny⟩ (fun hS' => ?_)
        clear hK' K' hS z1 z2 z3 z4
        have hS := hS'
        clear hS'
        try dsimp only [Act.put]
        try simp only [List.setIfInBounds_toArray, List.set_cons_zero, List.set_cons_succ]
        refine wpAnyH_ready (rs := [11]) (by kernel_rfl) (by simp) (AllReadyH.cons rfl (fun K' hK' => ?_) (AllReadyH.nil))
        go_simp
        refine hK'.out _ _ ⟨nx, ny⟩ (fun hS' => wpAnyH_done (by kernel_rfl) ?_ _)
        clear hK' K' hS nx ny
        obtain ⟨z1, z2, z3, z4⟩ := id F
        have HF := Lib.hid F
        have HG := Lib.hid G
        clear F G
        by_cases h0 : E = 0
        · subst h0
          have H3 := Lib.hid (HC3.out rfl)
          go_wp2_with fail
          refine (H3.out _ (Gr.trans HG0.out HG.out)).mono ?_
          rintro e w4 ⟨rfl, hg⟩
          have HG5 := Lib.hid (Gr.trans HG.out hg)
          clear hg
          go_wp2
          go_ret2
          exact ⟨by simp, HG5.out⟩
        · have hne : (E == 0) = false := beq_eq_false_iff_ne.2 h0
          have H0 := Lib.hid h0
          clear h0
          go_wp2
          go_ret2
          first | exact ⟨rfl, HG.out⟩ | exact ⟨by simp [H0.out], HG.out⟩
      · go_simp
        refine hK'.out _ _ ⟨fx.out.alloc _, fy.out.alloc _⟩ (fun hS' => ?_)
        have nz : Hid (FB (w2.alloc (oFr ⟨#[]⟩ ⟨#[]⟩)) w2.heap.size ⟨#[]⟩ ⟨#[]⟩) := FB.new w2 ⟨#[]⟩ ⟨#[]⟩ 103
        have nb : w.heap.size ≤ w2.heap.size := fg.out.size
        have nb1 : w1.heap.size < w2.heap.size := cell_lt fx.out.c0
        have nb2 : w1.heap.size + 1 < w2.heap.size := cell_lt fy.out.c0
        have ng := Lib.hid (fg.out.alloc (oFr ⟨#[]⟩ ⟨#[]⟩))
        have nx := Lib.hid (fx.out.alloc (oFr ⟨#[]⟩ ⟨#[]⟩))
        have ny := Lib.hid (fy.out.alloc (oFr ⟨#[]⟩ ⟨#[]⟩))
        have nm := Lib.hid (fm.out.gr ((Gr.refl _).alloc (oFr ⟨#[]⟩ ⟨#[]⟩)))
        clear hK' K' hS fg fx fy fm
        have fg := ng
        clear ng
        have fx := nx
        clear nx
        have fy := ny
        clear ny
        have fz := nz
        clear nz
        have hS := hS'
        clear hS'
        have fm := nm
        clear nm
        try dsimp only [Act.put]
        try simp only [List.setIfInBounds_toArray, List.set_cons_zero, List.set_cons_succ]
        refine wpAnyH_ready (rs := [5]) (by kernel_rfl) (by simp) (AllReadyH.cons rfl (fun K' hK' => ?_) (AllReadyH.nil))
        go_simp
        refine (HC2.out _ (Gr.trans HG0.out fg.out)).mono ?_
        rintro e w3 ⟨rfl, hg⟩
        have ng := Lib.hid (Gr.trans fg.out hg)
        have nx := Lib.hid (fx.out.gr hg)
        have ny := Lib.hid (fy.out.gr hg)
        have nz := Lib.hid (fz.out.gr hg)
        refine hK'.out _ _ ⟨nx.out, ny.out⟩ (fun hS' => ?_)
        clear hK' K' hS fg fx fy fm hg fz
        have fg := ng
        clear ng
        have fx := nx
        clear nx
        have fy := ny
        clear ny
        have hS := hS'
        clear hS'
        have fz := nz
        clear nz
        try dsimp only [Act.put]
        try simp only [List.setIfInBounds_toArray, List.set_cons_zero, List.set_cons_succ]
        refine wpAnyH_take (i := 6) (v := .tuple #[vFr A B, .int .i64 E]) rfl (by kernel_rfl) (by kernel_rfl) (by kernel_rfl) (fun _ _ _ h => h) (Or.inl ⟨by rfl, ?_⟩) hS ?_
        · intro w hSw; obtain ⟨⟨p1, p2, p3, p4⟩, p5, p6, p7, p8⟩ := hSw; go_simp
        try dsimp only [Act.put]
        try simp only [List.setIfInBounds_toArray, List.set_cons_zero, List.set_cons_succ]
        refine wpAnyH_take (i := 7) (v := vFr A B) rfl (by kernel_rfl) (by kernel_rfl) (by kernel_rfl) (fun _ _ _ h => h) (Or.inl ⟨by rfl, ?_⟩) hS ?_
        · intro w hSw; obtain ⟨⟨p1, p2, p3, p4⟩, p5, p6, p7, p8⟩ := hSw; go_simp
        try dsimp only [Act.put]
        try simp only [List.setIfInBounds_toArray, List.set_cons_zero, List.set_cons_succ]
        refine wpAnyH_take (i := 8) (v := .int .i64 E) rfl (by kernel_rfl) (by kernel_rfl) (by kernel_rfl) (fun _ _ _ h => h) (Or.inl ⟨by rfl, ?_⟩) hS ?_
        · intro w hSw; obtain ⟨⟨p1, p2, p3, p4⟩, p5, p6, p7, p8⟩ := hSw; go_simp
        try dsimp only [Act.put]
        try simp only [List.setIfInBounds_toArray, List.set_cons_zero, List.set_cons_succ]
        obtain ⟨z1, z2, z3, z4⟩ := id fz.out
        refine wpAnyH_ready (rs := [10]) (by kernel_rfl) (by simp) (AllReadyH.cons rfl (fun K' hK' => ?_) (AllReadyH.nil))
        go_simp
        obtain ⟨F, G⟩ := fz.out.store (p' := A) (q' := B) fg.out (by omega)
        have nx := (fx.out.set (b' := w2.heap.size) (o := 0) (u := .string A) (by omega)).set (b' := w2.heap.size) (o := 1) (u := .string B) (by omega)
        have ny := (fy.out.set (b' := w2.heap.size) (o := 0) (u := .string A) (by omega)).set (b' := w2.heap.size) (o := 1) (u := .string B) (by omega)
        refine hK'.out _ _ ⟨nx, ny⟩ (fun hS' => ?_)
        clear hK' K' hS z1 z2 z3 z4
        have hS := hS'
        clear hS'
        try dsimp only [Act.put]
        try simp only [List.setIfInBounds_toArray, List.set_cons_zero, List.set_cons_succ]
        refine wpAnyH_ready (rs := [11]) (by kernel_rfl) (by simp) (AllReadyH.cons rfl (fun K' hK' => ?_) (AllReadyH.nil))
        go_simp
        refine hK'.out _ _ ⟨nx, ny⟩ (fun hS' => wpAnyH_done (by kernel_rfl) ?_ _)
        clear hK' K' hS nx ny
        obtain ⟨z1, z2, z3, z4⟩ := id F
        have HF := Lib.hid F
        have HG := Lib.hid G
        clear F G
        by_cases h0 : E = 0
        · subst h0
          have H3 := Lib.hid (HC3.out rfl)
          go_wp2_with fail
          refine (H3.out _ (Gr.trans HG0.out HG.out)).mono ?_
          rintro e w4 ⟨rfl, hg⟩
          have HG5 := Lib.hid (Gr.trans HG.out hg)
          clear hg
          go_wp2
          go_ret2
          exact ⟨by simp, HG5.out⟩
        · have hne : (E == 0) = false := beq_eq_false_iff_ne.2 h0
          have H0 := Lib.hid h0
          clear h0
          go_wp2
          go_ret2
          first | exact ⟨rfl, HG.out⟩ | exact ⟨by simp [H0.out], HG.out⟩
    · go_simp
      refine hK'.out _ _ ⟨fx.out.alloc _, fy.out.alloc _⟩ (fun hS' => ?_)
      have nz : Hid (FB (w2.alloc (oFr ⟨#[]⟩ ⟨#[]⟩)) w2.heap.size ⟨#[]⟩ ⟨#[]⟩) := FB.new w2 ⟨#[]⟩ ⟨#[]⟩ 103
      have nb : w.heap.size ≤ w2.heap.size := fg.out.size
      have nb1 : w1.heap.size < w2.heap.size := cell_lt fx.out.c0
      have nb2 : w1.heap.size + 1 < w2.heap.size := cell_lt fy.out.c0
      have ng := Lib.hid (fg.out.alloc (oFr ⟨#[]⟩ ⟨#[]⟩))
      have nx := Lib.hid (fx.out.alloc (oFr ⟨#[]⟩ ⟨#[]⟩))
      have ny := Lib.hid (fy.out.alloc (oFr ⟨#[]⟩ ⟨#[]⟩))
      have nm := Lib.hid (fm.out.gr ((Gr.refl _).alloc (oFr ⟨#[]⟩ ⟨#[]⟩)))
      clear hK' K' hS fg fx fy fm
      have fg := ng
      clear ng
      have fx := nx
      clear nx
      have fy := ny
      clear ny
      have fz := nz
      clear nz
      have hS := hS'
      clear hS'
      have fm := nm
      clear nm
      try dsimp only [Act.put]
      try simp only [List.setIfInBounds_toArray, List.set_cons_zero, List.set_cons_succ]
      refine wpAnyH_ready (rs := [2]) (by kernel_rfl) (by simp) (AllReadyH.cons rfl (fun K' hK' => ?_) (AllReadyH.nil))
      have hl := run_mul fm.out
      go_simp
      refine hK'.out _ _ ⟨fx.out, fy.out⟩ (fun hS' => ?_)
      clear hK' K' hS hl
      have hS := hS'
      clear hS'
      try dsimp only [Act.put]
      try simp only [List.setIfInBounds_toArray, List.set_cons_zero, List.set_cons_succ]
      refine wpAnyH_ready (rs := [5]) (by kernel_rfl) (by simp) (AllReadyH.cons rfl (fun K' hK' => ?_) (AllReadyH.nil))
      go_simp
      refine (HC2.out _ (Gr.trans HG0.out fg.out)).mono ?_
      rintro e w3 ⟨rfl, hg⟩
      have ng := Lib.hid (Gr.trans fg.out hg)
      have nx := Lib.hid (fx.out.gr hg)
      have ny := Lib.hid (fy.out.gr hg)
      have nz := Lib.hid (fz.out.gr hg)
      refine hK'.out _ _ ⟨nx.out, ny.out⟩ (fun hS' => ?_)
      clear hK' K' hS fg fx fy fm hg fz
      have fg := ng
      clear ng
      have fx := nx
      clear nx
      have fy := ny
      clear ny
      have hS := hS'
      clear hS'
      have fz := nz
      clear nz
      try dsimp only [Act.put]
      try simp only [List.setIfInBounds_toArray, List.set_cons_zero, List.set_cons_succ]
      refine wpAnyH_take (i := 6) (v := .tuple #[vFr A B, .int .i64 E]) rfl (by kernel_rfl) (by kernel_rfl) (by kernel_rfl) (fun _ _ _ h => h) (Or.inl ⟨by rfl, ?_⟩) hS ?_
      · intro w hSw; obtain ⟨⟨p1, p2, p3, p4⟩, p5, p6, p7, p8⟩ := hSw; go_simp
      try dsimp only [Act.put]
      try simp only [List.setIfInBounds_toArray, List.set_cons_zero, List.set_cons_succ]
      refine wpAnyH_take (i := 7) (v := vFr A B) rfl (by kernel_rfl) (by kernel_rfl) (by kernel_rfl) (fun _ _ _ h => h) (Or.inl ⟨by rfl, ?_⟩) hS ?_
      · intro w hSw; obtain ⟨⟨p1, p2, p3, p4⟩, p5, p6, p7, p8⟩ := hSw; go_simp
      try dsimp only [Act.put]
      try simp only [List.setIfInBounds_toArray, List.set_cons_zero, List.set_cons_succ]
      refine wpAnyH_take (i := 8) (v := .int .i64 E) rfl (by kernel_rfl) (by kernel_rfl) (by kernel_rfl) (fun _ _ _ h => h) (Or.inl ⟨by rfl, ?_⟩) hS ?_
      · intro w hSw; obtain ⟨⟨p1, p2, p3, p4⟩, p5, p6, p7, p8⟩ := hSw; go_simp
      try dsimp only [Act.put]
      try simp only [List.setIfInBounds_toArray, List.set_cons_zero, List.set_cons_succ]
      obtain ⟨z1, z2, z3, z4⟩ := id fz.out
      refine wpAnyH_ready (rs := [10]) (by kernel_rfl) (by simp) (AllReadyH.cons rfl (fun K' hK' => ?_) (AllReadyH.nil))
      go_simp
      obtain ⟨F, G⟩ := fz.out.store (p' := A) (q' := B) fg.out (by omega)
      have nx := (fx.out.set (b' := w2.heap.size) (o := 0) (u := .string A) (by omega)).set (b' := w2.heap.size) (o := 1) (u := .string B) (by omega)
      have ny := (fy.out.set (b' := w2.heap.size) (o := 0) (u := .string A) (by omega)).set (b' := w2.heap.size) (o := 1) (u := .string B) (by omega)
      refine hK'.out _ _ ⟨nx, ny⟩ (fun hS' => ?_)
      clear hK' K' hS z1 z2 z3 z4
      have hS := hS'
      clear hS'
      try dsimp only [Act.put]
      try simp only [List.setIfInBounds_toArray, List.set_cons_zero, List.set_cons_succ]
      refine wpAnyH_ready (rs := [11]) (by kernel_rfl) (by simp) (AllReadyH.cons rfl (fun K' hK' => ?_) (AllReadyH.nil))
      go_simp
      refine hK'.out _ _ ⟨nx, ny⟩ (fun hS' => wpAnyH_done (by kernel_rfl) ?_ _)
      clear hK' K' hS nx ny
      obtain ⟨z1, z2, z3, z4⟩ := id F
      have HF := Lib.hid F
      have HG := Lib.hid G
      clear F G
      by_cases h0 : E = 0
      · subst h0
        have H3 := Lib.hid (HC3.out rfl)
        go_wp2_with fail
        refine (H3.out _ (Gr.trans HG0.out HG.out)).mono ?_
        rintro e w4 ⟨rfl, hg⟩
        have HG5 := Lib.hid (Gr.trans HG.out hg)
        clear hg
        go_wp2
        go_ret2
        exact ⟨by simp, HG5.out⟩
      · have hne : (E == 0) = false := beq_eq_false_iff_ne.2 h0
        have H0 := Lib.hid h0
        clear h0
        go_wp2
        go_ret2
        first | exact ⟨rfl, HG.out⟩ | exact ⟨by simp [H0.out], HG.out⟩
  · go_simp
    refine hK'.out _ _ ⟨fx.out.alloc _, fy.out.alloc _⟩ (fun hS' => ?_)
    have nz : Hid (FB (W.drew.alloc (oFr ⟨#[]⟩ ⟨#[]⟩)) W.heap.size ⟨#[]⟩ ⟨#[]⟩) := FB.new W.drew ⟨#[]⟩ ⟨#[]⟩ 103
    have nb : w.heap.size ≤ W.heap.size := fg.out.size
    have nb1 : w1.heap.size < W.heap.size := cell_lt fx.out.c0
    have nb2 : w1.heap.size + 1 < W.heap.size := cell_lt fy.out.c0
    have ng := Lib.hid (fg.out.alloc (oFr ⟨#[]⟩ ⟨#[]⟩))
    have nx := Lib.hid (fx.out.alloc (oFr ⟨#[]⟩ ⟨#[]⟩))
    have ny := Lib.hid (fy.out.alloc (oFr ⟨#[]⟩ ⟨#[]⟩))
    clear hK' K' hS fg fx fy
    have fg := ng
    clear ng
    have fx := nx
    clear nx
    have fy := ny
    clear ny
    have fz := nz
    clear nz
    have hS := hS'
    clear hS'
    try dsimp only [Act.put]
    try simp only [List.setIfInBounds_toArray, List.set_cons_zero, List.set_cons_succ]
    refine wpAnyH_ready (rs := [0]) (by kernel_rfl) (by simp) (AllReadyH.cons rfl (fun K' hK' => ?_) (AllReadyH.nil))
    go_simp
    refine (HOP.out _).mono ?_
    rintro e w2 ⟨b, rfl, fm, hg⟩
    have fm' := Lib.hid fm
    have ng := Lib.hid (Gr.trans fg.out hg)
    have nx := Lib.hid (fx.out.gr hg)
    have ny := Lib.hid (fy.out.gr hg)
    have nz := Lib.hid (fz.out.gr hg)
    refine hK'.out _ _ ⟨nx.out, ny.out⟩ (fun hS' => ?_)
    clear hK' K' hS fg fx fy fm hg fz
    have fm := fm'
    clear fm'
    have fg := ng
    clear ng
    have fx := nx
    clear nx
    have fy := ny
    clear ny
    have hS := hS'
    clear hS'
    have fz := nz
    clear nz
    try dsimp only [Act.put]
    try simp only [List.setIfInBounds_toArray, List.set_cons_zero, List.set_cons_succ]
    refine wpAnyH_ready (rs := [2]) (by kernel_rfl) (by simp) (AllReadyH.cons rfl (fun K' hK' => ?_) (AllReadyH.nil))
    have hl := run_mul fm.out
    go_simp
    refine hK'.out _ _ ⟨fx.out, fy.out⟩ (fun hS' => ?_)
    clear hK' K' hS hl
    have hS := hS'
    clear hS'
    try dsimp only [Act.put]
    try simp only [List.setIfInBounds_toArray, List.set_cons_zero, List.set_cons_succ]
    refine wpAnyH_ready (rs := [5]) (by kernel_rfl) (by simp) (AllReadyH.cons rfl (fun K' hK' => ?_) (AllReadyH.nil))
    go_simp
    refine (HC2.out _ (Gr.trans HG0.out fg.out)).mono ?_
    rintro e w3 ⟨rfl, hg⟩
    have ng := Lib.hid (Gr.trans fg.out hg)
    have nx := Lib.hid (fx.out.gr hg)
    have ny := Lib.hid (fy.out.gr hg)
    have nz := Lib.hid (fz.out.gr hg)
    refine hK'.out _ _ ⟨nx.out, ny.out⟩ (fun hS' => ?_)
    clear hK' K' hS fg fx fy fm hg fz
    have fg := ng
    clear ng
    have fx := nx
    clear nx
    have fy := ny
    clear ny
    have hS := hS'
    clear hS'
    have fz := nz
    clear nz
    try dsimp only [Act.put]
    try simp only [List.setIfInBounds_toArray, List.set_cons_zero, List.set_cons_succ]
    refine wpAnyH_take (i := 6) (v := .tuple #[vFr A B, .int .i64 E]) rfl (by kernel_rfl) (by kernel_rfl) (by kernel_rfl) (fun _ _ _ h => h) (Or.inl ⟨by rfl, ?_⟩) hS ?_
    · intro w hSw; obtain ⟨⟨p1, p2, p3, p4⟩, p5, p6, p7, p8⟩ := hSw; go_simp
    try dsimp only [Act.put]
    try simp only [List.setIfInBounds_toArray, List.set_cons_zero, List.set_cons_succ]
    refine wpAnyH_take (i := 7) (v := vFr A B) rfl (by kernel_rfl) (by kernel_rfl) (by kernel_rfl) (fun _ _ _ h => h) (Or.inl ⟨by rfl, ?_⟩) hS ?_
    · intro w hSw; obtain ⟨⟨p1, p2, p3, p4⟩, p5, p6, p7, p8⟩ := hSw; go_simp
    try dsimp only [Act.put]
    try simp only [List.setIfInBounds_toArray, List.set_cons_zero, List.set_cons_succ]
    refine wpAnyH_take (i := 8) (v := .int .i64 E) rfl (by kernel_rfl) (by kernel_rfl) (by kernel_rfl) (fun _ _ _ h => h) (Or.inl ⟨by rfl, ?_⟩) hS ?_
    · intro w hSw; obtain ⟨⟨p1, p2, p3, p4⟩, p5, p6, p7, p8⟩ := hSw; go_simp
    try dsimp only [Act.put]
    try simp only [List.setIfInBounds_toArray, List.set_cons_zero, List.set_cons_succ]
    obtain ⟨z1, z2, z3, z4⟩ := id fz.out
    refine wpAnyH_ready (rs := [10]) (by kernel_rfl) (by simp) (AllReadyH.cons rfl (fun K' hK' => ?_) (AllReadyH.nil))
    go_simp
    obtain ⟨F, G⟩ := fz.out.store (p' := A) (q' := B) fg.out (by omega)
    have nx := (fx.out.set (b' := W.heap.size) (o := 0) (u := .string A) (by omega)).set (b' := W.heap.size) (o := 1) (u := .string B) (by omega)
    have ny := (fy.out.set (b' := W.heap.size) (o := 0) (u := .string A) (by omega)).set (b' := W.heap.size) (o := 1) (u := .string B) (by omega)
    refine hK'.out _ _ ⟨nx, ny⟩ (fun hS' => ?_)
    clear hK' K' hS z1 z2 z3 z4
    have hS := hS'
    clear hS'
    try dsimp only [Act.put]
    try simp only [List.setIfInBounds_toArray, List.set_cons_zero, List.set_cons_succ]
    refine wpAnyH_ready (rs := [11]) (by kernel_rfl) (by simp) (AllReadyH.cons rfl (fun K' hK' => ?_) (AllReadyH.nil))
    go_simp
    refine hK'.out _ _ ⟨nx, ny⟩ (fun hS' => wpAnyH_done (by kernel_rfl) ?_ _)
    clear hK' K' hS nx ny
    obtain ⟨z1, z2, z3, z4⟩ := id F
    have HF := Lib.hid F
    have HG := Lib.hid G
    clear F G
    by_cases h0 : E = 0
    · subst h0
      have H3 := Lib.hid (HC3.out rfl)
      go_wp2_with fail
      refine (H3.out _ (Gr.trans HG0.out HG.out)).mono ?_
      rintro e w4 ⟨rfl, hg⟩
      have HG5 := Lib.hid (Gr.trans HG.out hg)
      clear hg
      go_wp2
      go_ret2
      exact ⟨by simp, HG5.out⟩
    · have hne : (E == 0) = false := beq_eq_false_iff_ne.2 h0
      have H0 := Lib.hid h0
      clear h0
      go_wp2
      go_ret2
      first | exact ⟨rfl, HG.out⟩ | exact ⟨by simp [H0.out], HG.out⟩
set_option maxHeartbeats 4000000 in
set_option maxRecDepth 100000 in
theorem q_calcDiv {s t p q r u A B R : ByteArray} {E : Int} (H1 : RetG w0 154 #[.string s, .string t] (.tuple #[vFr p q, vFr r u, .int .i64 0])) (H2 : RetG w0 177 #[vFr p q, vFr r u] (.tuple #[vFr A B, .int .i64 E])) (H3 : E = 0 → RetG w0 131 #[vFr A B] (.string R)) :
    RetG w0 132 #[.string s, .int .i32 47, .string t] (.tuple #[.string (if E = 0 then R else ⟨#[]⟩), .int .i64 E]) := by
  intro w hg
  have HG0 := Lib.hid hg
  have HC1 := Lib.hid H1
  have HC2 := Lib.hid H2
  have HC3 := Lib.hid H3
  have HOP := Lib.hid q_operations
  clear hg H1 H2 H3
  go_enter Tryz.func132, Tryz.ntmps132
  go_wp2_with fail
  refine (HC1.out _ HG0.out).mono ?_
  rintro e w1 ⟨rfl, hg⟩
  obtain ⟨g1, f1, f2⟩ := two_boxes w1 p q r u
  have HGW := Lib.hid (Gr.trans hg g1)
  have HX := Lib.hid f1
  have HY := Lib.hid f2
  clear hg g1 f1 f2
  have hneq : ¬ w1.heap.size = w1.heap.size + 1 := by omega
  have hneq' : ¬ w1.heap.size + 1 = w1.heap.size := by omega
  obtain ⟨W, HW⟩ : ∃ W, Hid (W = ((w1.alloc (oFr p q)).alloc (oFr r u))) := ⟨_, rfl⟩
  rw [← HW.out] at HGW HX HY
  go_wp2
  rw [← HW.out]
  clear HW hneq hneq'
  have fg : Hid (Gr w W.drew) := Gr.drew HGW.out
  have fx : Hid (FB W.drew w1.heap.size p q) := HX.out.gr (Gr.refl W).drew
  have fy : Hid (FB W.drew (w1.heap.size + 1) r u) := HY.out.gr (Gr.refl W).drew
  clear HGW HX HY
  have hS : (fun w' : World => FB w' w1.heap.size p q ∧ FB w' (w1.heap.size + 1) r u) W.drew := ⟨fx.out, fy.out⟩
  refine wp_region_held (S := fun w' : World => FB w' w1.heap.size p q ∧ FB w' (w1.heap.size + 1) r u) (by kernel_rfl) ?_
  refine wpAnyH_take (i := 1) (v := .int .i32 47) rfl (by kernel_rfl) (by kernel_rfl) (by kernel_rfl) (fun _ _ _ h => h) (Or.inl ⟨by rfl, ?_⟩) hS ?_
  · intro w hSw; obtain ⟨⟨p1, p2, p3, p4⟩, p5, p6, p7, p8⟩ := hSw; go_simp
  try dsimp only [Act.put]
  try simp only [List.setIfInBounds_toArray, List.set_cons_zero, List.set_cons_succ]
  refine wpAnyH_take (i := 3) (v := .agg #[.string p, .string q]) rfl (by kernel_rfl) (by kernel_rfl) (by kernel_rfl) (fun _ _ _ h => h) (Or.inl ⟨by rfl, ?_⟩) hS ?_
  · intro w hSw; obtain ⟨⟨p1, p2, p3, p4⟩, p5, p6, p7, p8⟩ := hSw; go_simp
  try dsimp only [Act.put]
  try simp only [List.setIfInBounds_toArray, List.set_cons_zero, List.set_cons_succ]
  refine wpAnyH_take (i := 4) (v := .agg #[.string r, .string u]) rfl (by kernel_rfl) (by kernel_rfl) (by kernel_rfl) (fun _ _ _ h => h) (Or.inl ⟨by rfl, ?_⟩) hS ?_
  · intro w hSw; obtain ⟨⟨p1, p2, p3, p4⟩, p5, p6, p7, p8⟩ := hSw; go_simp
  try dsimp only [Act.put]
  try simp only [List.setIfInBounds_toArray, List.set_cons_zero, List.set_cons_succ]
  refine wpAnyH_ready (rs := [0, 9]) (by kernel_rfl) (by simp) (AllReadyH.cons rfl (fun K' hK' => ?_) (AllReadyH.cons rfl (fun K' hK' => ?_) (AllReadyH.nil)))
  · go_simp
    refine (HOP.out _).mono ?_
    rintro e w2 ⟨b, rfl, fm, hg⟩
    have fm' := Lib.hid fm
    have ng := Lib.hid (Gr.trans fg.out hg)
    have nx := Lib.hid (fx.out.gr hg)
    have ny := Lib.hid (fy.out.gr hg)
    refine hK'.out _ _ ⟨nx.out, ny.out⟩ (fun hS' => ?_)
    clear hK' K' hS fg fx fy fm hg
    have fm := fm'
    clear fm'
    have fg := ng
    clear ng
    have fx := nx
    clear nx
    have fy := ny
    clear ny
    have hS := hS'
    clear hS'
    try dsimp only [Act.put]
    try simp only [List.setIfInBounds_toArray, List.set_cons_zero, List.set_cons_succ]
    refine wpAnyH_ready (rs := [2, 9]) (by kernel_rfl) (by simp) (AllReadyH.cons rfl (fun K' hK' => ?_) (AllReadyH.cons rfl (fun K' hK' => ?_) (AllReadyH.nil)))
    · have hl := run_div fm.out
      go_simp
      refine hK'.out _ _ ⟨fx.out, fy.out⟩ (fun hS' => ?_)
      clear hK' K' hS hl
      have hS := hS'
      clear hS'
      try dsimp only [Act.put]
      try simp only [List.setIfInBounds_toArray, List.set_cons_zero, List.set_cons_succ]
      refine wpAnyH_ready (rs := [5, 9]) (by kernel_rfl) (by simp) (AllReadyH.cons rfl (fun K' hK' => ?_) (AllReadyH.cons rfl (fun K' hK' => ?_) (AllReadyH.nil)))
      · go_simp
        refine (HC2.out _ (Gr.trans HG0.out fg.out)).mono ?_
        rintro e w3 ⟨rfl, hg⟩
        have ng := Lib.hid (Gr.trans fg.out hg)
        have nx := Lib.hid (fx.out.gr hg)
        have ny := Lib.hid (fy.out.gr hg)
        refine hK'.out _ _ ⟨nx.out, ny.out⟩ (fun hS' => ?_)
        clear hK' K' hS fg fx fy fm hg
        have fg := ng
        clear ng
        have fx := nx
        clear nx
        have fy := ny
        clear ny
        have hS := hS'
        clear hS'
        try dsimp only [Act.put]
        try simp only [List.setIfInBounds_toArray, List.set_cons_zero, List.set_cons_succ]
        refine wpAnyH_take (i := 6) (v := .tuple #[vFr A B, .int .i64 E]) rfl (by kernel_rfl) (by kernel_rfl) (by kernel_rfl) (fun _ _ _ h => h) (Or.inl ⟨by rfl, ?_⟩) hS ?_
        · intro w hSw; obtain ⟨⟨p1, p2, p3, p4⟩, p5, p6, p7, p8⟩ := hSw; go_simp
        try dsimp only [Act.put]
        try simp only [List.setIfInBounds_toArray, List.set_cons_zero, List.set_cons_succ]
        refine wpAnyH_take (i := 7) (v := vFr A B) rfl (by kernel_rfl) (by kernel_rfl) (by kernel_rfl) (fun _ _ _ h => h) (Or.inl ⟨by rfl, ?_⟩) hS ?_
        · intro w hSw; obtain ⟨⟨p1, p2, p3, p4⟩, p5, p6, p7, p8⟩ := hSw; go_simp
        try dsimp only [Act.put]
        try simp only [List.setIfInBounds_toArray, List.set_cons_zero, List.set_cons_succ]
        refine wpAnyH_take (i := 8) (v := .int .i64 E) rfl (by kernel_rfl) (by kernel_rfl) (by kernel_rfl) (fun _ _ _ h => h) (Or.inl ⟨by rfl, ?_⟩) hS ?_
        · intro w hSw; obtain ⟨⟨p1, p2, p3, p4⟩, p5, p6, p7, p8⟩ := hSw; go_simp
        try dsimp only [Act.put]
        try simp only [List.setIfInBounds_toArray, List.set_cons_zero, List.set_cons_succ]
        refine wpAnyH_ready (rs := [9]) (by kernel_rfl) (by simp) (AllReadyH.cons rfl (fun K' hK' => ?_) (AllReadyH.nil))
        go_simp
        refine hK'.out _ _ ⟨fx.out.alloc _, fy.out.alloc _⟩ (fun hS' => ?_)
        have nz : Hid (FB (w3.alloc (oFr ⟨#[]⟩ ⟨#[]⟩)) w3.heap.size ⟨#[]⟩ ⟨#[]⟩) := FB.new w3 ⟨#[]⟩ ⟨#[]⟩ 103
        have nb : w.heap.size ≤ w3.heap.size := fg.out.size
        have nb1 : w1.heap.size < w3.heap.size := cell_lt fx.out.c0
        have nb2 : w1.heap.size + 1 < w3.heap.size := cell_lt fy.out.c0
        have ng := Lib.hid (fg.out.alloc (oFr ⟨#[]⟩ ⟨#[]⟩))
        have nx := Lib.hid (fx.out.alloc (oFr ⟨#[]⟩ ⟨#[]⟩))
        have ny := Lib.hid (fy.out.alloc (oFr ⟨#[]⟩ ⟨#[]⟩))
        have xF := Lib.hid (FB.new w3 A B 103)
        have xG := Lib.hid (fg.out.alloc (oFr A B))
        have xx := Lib.hid (fx.out.alloc (oFr A B))
        have xy := Lib.hid (fy.out.alloc (oFr A B))
        clear hK' K' hS fg fx fy
        have fg := ng
        clear ng
        have fx := nx
        clear nx
        have fy := ny
        clear ny
        have fz := nz
        clear nz
        have hS := hS'
        clear hS'
        try dsimp only [Act.put]
        try simp only [List.setIfInBounds_toArray, List.set_cons_zero, List.set_cons_succ]
        obtain ⟨z1, z2, z3, z4⟩ := id fz.out
        refine wpAnyH_ready (rs := [10]) (by kernel_rfl) (by simp) (AllReadyH.cons rfl (fun K' hK' => ?_) (AllReadyH.nil))
        go_simp
        have F := xF.out
        have G := xG.out
        have nx := xx.out
        have ny := xy.out
        refine hK'.out _ _ ⟨nx, ny⟩ (fun hS' => ?_)
        clear hK' K' hS z1 z2 z3 z4
        have hS := hS'
        clear hS'
        try dsimp only [Act.put]
        try simp only [List.setIfInBounds_toArray, List.set_cons_zero, List.set_cons_succ]
        refine wpAnyH_ready (rs := [11]) (by kernel_rfl) (by simp) (AllReadyH.cons rfl (fun K' hK' => ?_) (AllReadyH.nil))
        go_simp
        refine hK'.out _ _ ⟨nx, ny⟩ (fun hS' => wpAnyH_done (by kernel_rfl) ?_ _)
        clear hK' K' hS nx ny
        obtain ⟨z1, z2, z3, z4⟩ := id F
        have HF := Lib.hid F
        have HG := Lib.hid G
        clear F G
        by_cases h0 : E = 0
        · subst h0
          have H3 := Lib.hid (HC3.out rfl)
          go_wp2_with fail
          refine (H3.out _ (Gr.trans HG0.out HG.out)).mono ?_
          rintro e w4 ⟨rfl, hg⟩
          have HG5 := Lib.hid (Gr.trans HG.out hg)
          clear hg
          go_wp2
          go_ret2
          exact ⟨by simp, HG5.out⟩
        · have hne : (E == 0) = false := beq_eq_false_iff_ne.2 h0
          have H0 := Lib.hid h0
          clear h0
          go_wp2
          go_ret2
          first | exact ⟨rfl, HG.out⟩ | exact ⟨by simp [H0.out], HG.out⟩
      · go_simp
        refine hK'.out _ _ ⟨fx.out.alloc _, fy.out.alloc _⟩ (fun hS' => ?_)
        have nz : Hid (FB (w2.alloc (oFr ⟨#[]⟩ ⟨#[]⟩)) w2.heap.size ⟨#[]⟩ ⟨#[]⟩) := FB.new w2 ⟨#[]⟩ ⟨#[]⟩ 103
        have nb : w.heap.size ≤ w2.heap.size := fg.out.size
        have nb1 : w1.heap.size < w2.heap.size := cell_lt fx.out.c0
        have nb2 : w1.heap.size + 1 < w2.heap.size := cell_lt fy.out.c0
        have ng := Lib.hid (fg.out.alloc (oFr ⟨#[]⟩ ⟨#[]⟩))
        have nx := Lib.hid (fx.out.alloc (oFr ⟨#[]⟩ ⟨#[]⟩))
        have ny := Lib.hid (fy.out.alloc (oFr ⟨#[]⟩ ⟨#[]⟩))
        have nm := Lib.hid (fm.out.gr ((Gr.refl _).alloc (oFr ⟨#[]⟩ ⟨#[]⟩)))
        clear hK' K' hS fg fx fy fm
        have fg := ng
        clear ng
        have fx := nx
        clear nx
        have fy := ny
        clear ny
        have fz := nz
        clear nz
        have hS := hS'
        clear hS'
        have fm := nm
        clear nm
        try dsimp only [Act.put]
        try simp only [List.setIfInBounds_toArray, List.set_cons_zero, List.set_cons_succ]
        refine wpAnyH_ready (rs := [5]) (by kernel_rfl) (by simp) (AllReadyH.cons rfl (fun K' hK' => ?_) (AllReadyH.nil))
        go_simp
        refine (HC2.out _ (Gr.trans HG0.out fg.out)).mono ?_
        rintro e w3 ⟨rfl, hg⟩
        have ng := Lib.hid (Gr.trans fg.out hg)
        have nx := Lib.hid (fx.out.gr hg)
        have ny := Lib.hid (fy.out.gr hg)
        have nz := Lib.hid (fz.out.gr hg)
        refine hK'.out _ _ ⟨nx.out, ny.out⟩ (fun hS' => ?_)
        clear hK' K' hS fg fx fy fm hg fz
        have fg := ng
        clear ng
        have fx := nx
        clear nx
        have fy := ny
        clear ny
        have hS := hS'
        clear hS'
        have fz := nz
        clear nz
        try dsimp only [Act.put]
        try simp only [List.setIfInBounds_toArray, List.set_cons_zero, List.set_cons_succ]
        refine wpAnyH_take (i := 6) (v := .tuple #[vFr A B, .int .i64 E]) rfl (by kernel_rfl) (by kernel_rfl) (by kernel_rfl) (fun _ _ _ h => h) (Or.inl ⟨by rfl, ?_⟩) hS ?_
        · intro w hSw; obtain ⟨⟨p1, p2, p3, p4⟩, p5, p6, p7, p8⟩ := hSw; go_simp
        try dsimp only [Act.put]
        try simp only [List.setIfInBounds_toArray, List.set_cons_zero, List.set_cons_succ]
        refine wpAnyH_take (i := 7) (v := vFr A B) rfl (by kernel_rfl) (by kernel_rfl) (by kernel_rfl) (fun _ _ _ h => h) (Or.inl ⟨by rfl, ?_⟩) hS ?_
        · intro w hSw; obtain ⟨⟨p1, p2, p3, p4⟩, p5, p6, p7, p8⟩ := hSw; go_simp
        try dsimp only [Act.put]
        try simp only [List.setIfInBounds_toArray, List.set_cons_zero, List.set_cons_succ]
        refine wpAnyH_take (i := 8) (v := .int .i64 E) rfl (by kernel_rfl) (by kernel_rfl) (by kernel_rfl) (fun _ _ _ h => h) (Or.inl ⟨by rfl, ?_⟩) hS ?_
        · intro w hSw; obtain ⟨⟨p1, p2, p3, p4⟩, p5, p6, p7, p8⟩ := hSw; go_simp
        try dsimp only [Act.put]
        try simp only [List.setIfInBounds_toArray, List.set_cons_zero, List.set_cons_succ]
        obtain ⟨z1, z2, z3, z4⟩ := id fz.out
        refine wpAnyH_ready (rs := [10]) (by kernel_rfl) (by simp) (AllReadyH.cons rfl (fun K' hK' => ?_) (AllReadyH.nil))
        go_simp
        obtain ⟨F, G⟩ := fz.out.store (p' := A) (q' := B) fg.out (by omega)
        have nx := (fx.out.set (b' := w2.heap.size) (o := 0) (u := .string A) (by omega)).set (b' := w2.heap.size) (o := 1) (u := .string B) (by omega)
        have ny := (fy.out.set (b' := w2.heap.size) (o := 0) (u := .string A) (by omega)).set (b' := w2.heap.size) (o := 1) (u := .string B) (by omega)
        refine hK'.out _ _ ⟨nx, ny⟩ (fun hS' => ?_)
        clear hK' K' hS z1 z2 z3 z4
        have hS := hS'
        clear hS'
        try dsimp only [Act.put]
        try simp only [List.setIfInBounds_toArray, List.set_cons_zero, List.set_cons_succ]
        refine wpAnyH_ready (rs := [11]) (by kernel_rfl) (by simp) (AllReadyH.cons rfl (fun K' hK' => ?_) (AllReadyH.nil))
        go_simp
        refine hK'.out _ _ ⟨nx, ny⟩ (fun hS' => wpAnyH_done (by kernel_rfl) ?_ _)
        clear hK' K' hS nx ny
        obtain ⟨z1, z2, z3, z4⟩ := id F
        have HF := Lib.hid F
        have HG := Lib.hid G
        clear F G
        by_cases h0 : E = 0
        · subst h0
          have H3 := Lib.hid (HC3.out rfl)
          go_wp2_with fail
          refine (H3.out _ (Gr.trans HG0.out HG.out)).mono ?_
          rintro e w4 ⟨rfl, hg⟩
          have HG5 := Lib.hid (Gr.trans HG.out hg)
          clear hg
          go_wp2
          go_ret2
          exact ⟨by simp, HG5.out⟩
        · have hne : (E == 0) = false := beq_eq_false_iff_ne.2 h0
          have H0 := Lib.hid h0
          clear h0
          go_wp2
          go_ret2
          first | exact ⟨rfl, HG.out⟩ | exact ⟨by simp [H0.out], HG.out⟩
    · go_simp
      refine hK'.out _ _ ⟨fx.out.alloc _, fy.out.alloc _⟩ (fun hS' => ?_)
      have nz : Hid (FB (w2.alloc (oFr ⟨#[]⟩ ⟨#[]⟩)) w2.heap.size ⟨#[]⟩ ⟨#[]⟩) := FB.new w2 ⟨#[]⟩ ⟨#[]⟩ 103
      have nb : w.heap.size ≤ w2.heap.size := fg.out.size
      have nb1 : w1.heap.size < w2.heap.size := cell_lt fx.out.c0
      have nb2 : w1.heap.size + 1 < w2.heap.size := cell_lt fy.out.c0
      have ng := Lib.hid (fg.out.alloc (oFr ⟨#[]⟩ ⟨#[]⟩))
      have nx := Lib.hid (fx.out.alloc (oFr ⟨#[]⟩ ⟨#[]⟩))
      have ny := Lib.hid (fy.out.alloc (oFr ⟨#[]⟩ ⟨#[]⟩))
      have nm := Lib.hid (fm.out.gr ((Gr.refl _).alloc (oFr ⟨#[]⟩ ⟨#[]⟩)))
      clear hK' K' hS fg fx fy fm
      have fg := ng
      clear ng
      have fx := nx
      clear nx
      have fy := ny
      clear ny
      have fz := nz
      clear nz
      have hS := hS'
      clear hS'
      have fm := nm
      clear nm
      try dsimp only [Act.put]
      try simp only [List.setIfInBounds_toArray, List.set_cons_zero, List.set_cons_succ]
      refine wpAnyH_ready (rs := [2]) (by kernel_rfl) (by simp) (AllReadyH.cons rfl (fun K' hK' => ?_) (AllReadyH.nil))
      have hl := run_div fm.out
      go_simp
      refine hK'.out _ _ ⟨fx.out, fy.out⟩ (fun hS' => ?_)
      clear hK' K' hS hl
      have hS := hS'
      clear hS'
      try dsimp only [Act.put]
      try simp only [List.setIfInBounds_toArray, List.set_cons_zero, List.set_cons_succ]
      refine wpAnyH_ready (rs := [5]) (by kernel_rfl) (by simp) (AllReadyH.cons rfl (fun K' hK' => ?_) (AllReadyH.nil))
      go_simp
      refine (HC2.out _ (Gr.trans HG0.out fg.out)).mono ?_
      rintro e w3 ⟨rfl, hg⟩
      have ng := Lib.hid (Gr.trans fg.out hg)
      have nx := Lib.hid (fx.out.gr hg)
      have ny := Lib.hid (fy.out.gr hg)
      have nz := Lib.hid (fz.out.gr hg)
      refine hK'.out _ _ ⟨nx.out, ny.out⟩ (fun hS' => ?_)
      clear hK' K' hS fg fx fy fm hg fz
      have fg := ng
      clear ng
      have fx := nx
      clear nx
      have fy := ny
      clear ny
      have hS := hS'
      clear hS'
      have fz := nz
      clear nz
      try dsimp only [Act.put]
      try simp only [List.setIfInBounds_toArray, List.set_cons_zero, List.set_cons_succ]
      refine wpAnyH_take (i := 6) (v := .tuple #[vFr A B, .int .i64 E]) rfl (by kernel_rfl) (by kernel_rfl) (by kernel_rfl) (fun _ _ _ h => h) (Or.inl ⟨by rfl, ?_⟩) hS ?_
      · intro w hSw; obtain ⟨⟨p1, p2, p3, p4⟩, p5, p6, p7, p8⟩ := hSw; go_simp
      try dsimp only [Act.put]
      try simp only [List.setIfInBounds_toArray, List.set_cons_zero, List.set_cons_succ]
      refine wpAnyH_take (i := 7) (v := vFr A B) rfl (by kernel_rfl) (by kernel_rfl) (by kernel_rfl) (fun _ _ _ h => h) (Or.inl ⟨by rfl, ?_⟩) hS ?_
      · intro w hSw; obtain ⟨⟨p1, p2, p3, p4⟩, p5, p6, p7, p8⟩ := hSw; go_simp
      try dsimp only [Act.put]
      try simp only [List.setIfInBounds_toArray, List.set_cons_zero, List.set_cons_succ]
      refine wpAnyH_take (i := 8) (v := .int .i64 E) rfl (by kernel_rfl) (by kernel_rfl) (by kernel_rfl) (fun _ _ _ h => h) (Or.inl ⟨by rfl, ?_⟩) hS ?_
      · intro w hSw; obtain ⟨⟨p1, p2, p3, p4⟩, p5, p6, p7, p8⟩ := hSw; go_simp
      try dsimp only [Act.put]
      try simp only [List.setIfInBounds_toArray, List.set_cons_zero, List.set_cons_succ]
      obtain ⟨z1, z2, z3, z4⟩ := id fz.out
      refine wpAnyH_ready (rs := [10]) (by kernel_rfl) (by simp) (AllReadyH.cons rfl (fun K' hK' => ?_) (AllReadyH.nil))
      go_simp
      obtain ⟨F, G⟩ := fz.out.store (p' := A) (q' := B) fg.out (by omega)
      have nx := (fx.out.set (b' := w2.heap.size) (o := 0) (u := .string A) (by omega)).set (b' := w2.heap.size) (o := 1) (u := .string B) (by omega)
      have ny := (fy.out.set (b' := w2.heap.size) (o := 0) (u := .string A) (by omega)).set (b' := w2.heap.size) (o := 1) (u := .string B) (by omega)
      refine hK'.out _ _ ⟨nx, ny⟩ (fun hS' => ?_)
      clear hK' K' hS z1 z2 z3 z4
      have hS := hS'
      clear hS'
      try dsimp only [Act.put]
      try simp only [List.setIfInBounds_toArray, List.set_cons_zero, List.set_cons_succ]
      refine wpAnyH_ready (rs := [11]) (by kernel_rfl) (by simp) (AllReadyH.cons rfl (fun K' hK' => ?_) (AllReadyH.nil))
      go_simp
      refine hK'.out _ _ ⟨nx, ny⟩ (fun hS' => wpAnyH_done (by kernel_rfl) ?_ _)
      clear hK' K' hS nx ny
      obtain ⟨z1, z2, z3, z4⟩ := id F
      have HF := Lib.hid F
      have HG := Lib.hid G
      clear F G
      by_cases h0 : E = 0
      · subst h0
        have H3 := Lib.hid (HC3.out rfl)
        go_wp2_with fail
        refine (H3.out _ (Gr.trans HG0.out HG.out)).mono ?_
        rintro e w4 ⟨rfl, hg⟩
        have HG5 := Lib.hid (Gr.trans HG.out hg)
        clear hg
        go_wp2
        go_ret2
        exact ⟨by simp, HG5.out⟩
      · have hne : (E == 0) = false := beq_eq_false_iff_ne.2 h0
        have H0 := Lib.hid h0
        clear h0
        go_wp2
        go_ret2
        first | exact ⟨rfl, HG.out⟩ | exact ⟨by simp [H0.out], HG.out⟩
  · go_simp
    refine hK'.out _ _ ⟨fx.out.alloc _, fy.out.alloc _⟩ (fun hS' => ?_)
    have nz : Hid (FB (W.drew.alloc (oFr ⟨#[]⟩ ⟨#[]⟩)) W.heap.size ⟨#[]⟩ ⟨#[]⟩) := FB.new W.drew ⟨#[]⟩ ⟨#[]⟩ 103
    have nb : w.heap.size ≤ W.heap.size := fg.out.size
    have nb1 : w1.heap.size < W.heap.size := cell_lt fx.out.c0
    have nb2 : w1.heap.size + 1 < W.heap.size := cell_lt fy.out.c0
    have ng := Lib.hid (fg.out.alloc (oFr ⟨#[]⟩ ⟨#[]⟩))
    have nx := Lib.hid (fx.out.alloc (oFr ⟨#[]⟩ ⟨#[]⟩))
    have ny := Lib.hid (fy.out.alloc (oFr ⟨#[]⟩ ⟨#[]⟩))
    clear hK' K' hS fg fx fy
    have fg := ng
    clear ng
    have fx := nx
    clear nx
    have fy := ny
    clear ny
    have fz := nz
    clear nz
    have hS := hS'
    clear hS'
    try dsimp only [Act.put]
    try simp only [List.setIfInBounds_toArray, List.set_cons_zero, List.set_cons_succ]
    refine wpAnyH_ready (rs := [0]) (by kernel_rfl) (by simp) (AllReadyH.cons rfl (fun K' hK' => ?_) (AllReadyH.nil))
    go_simp
    refine (HOP.out _).mono ?_
    rintro e w2 ⟨b, rfl, fm, hg⟩
    have fm' := Lib.hid fm
    have ng := Lib.hid (Gr.trans fg.out hg)
    have nx := Lib.hid (fx.out.gr hg)
    have ny := Lib.hid (fy.out.gr hg)
    have nz := Lib.hid (fz.out.gr hg)
    refine hK'.out _ _ ⟨nx.out, ny.out⟩ (fun hS' => ?_)
    clear hK' K' hS fg fx fy fm hg fz
    have fm := fm'
    clear fm'
    have fg := ng
    clear ng
    have fx := nx
    clear nx
    have fy := ny
    clear ny
    have hS := hS'
    clear hS'
    have fz := nz
    clear nz
    try dsimp only [Act.put]
    try simp only [List.setIfInBounds_toArray, List.set_cons_zero, List.set_cons_succ]
    refine wpAnyH_ready (rs := [2]) (by kernel_rfl) (by simp) (AllReadyH.cons rfl (fun K' hK' => ?_) (AllReadyH.nil))
    have hl := run_div fm.out
    go_simp
    refine hK'.out _ _ ⟨fx.out, fy.out⟩ (fun hS' => ?_)
    clear hK' K' hS hl
    have hS := hS'
    clear hS'
    try dsimp only [Act.put]
    try simp only [List.setIfInBounds_toArray, List.set_cons_zero, List.set_cons_succ]
    refine wpAnyH_ready (rs := [5]) (by kernel_rfl) (by simp) (AllReadyH.cons rfl (fun K' hK' => ?_) (AllReadyH.nil))
    go_simp
    refine (HC2.out _ (Gr.trans HG0.out fg.out)).mono ?_
    rintro e w3 ⟨rfl, hg⟩
    have ng := Lib.hid (Gr.trans fg.out hg)
    have nx := Lib.hid (fx.out.gr hg)
    have ny := Lib.hid (fy.out.gr hg)
    have nz := Lib.hid (fz.out.gr hg)
    refine hK'.out _ _ ⟨nx.out, ny.out⟩ (fun hS' => ?_)
    clear hK' K' hS fg fx fy fm hg fz
    have fg := ng
    clear ng
    have fx := nx
    clear nx
    have fy := ny
    clear ny
    have hS := hS'
    clear hS'
    have fz := nz
    clear nz
    try dsimp only [Act.put]
    try simp only [List.setIfInBounds_toArray, List.set_cons_zero, List.set_cons_succ]
    refine wpAnyH_take (i := 6) (v := .tuple #[vFr A B, .int .i64 E]) rfl (by kernel_rfl) (by kernel_rfl) (by kernel_rfl) (fun _ _ _ h => h) (Or.inl ⟨by rfl, ?_⟩) hS ?_
    · intro w hSw; obtain ⟨⟨p1, p2, p3, p4⟩, p5, p6, p7, p8⟩ := hSw; go_simp
    try dsimp only [Act.put]
    try simp only [List.setIfInBounds_toArray, List.set_cons_zero, List.set_cons_succ]
    refine wpAnyH_take (i := 7) (v := vFr A B) rfl (by kernel_rfl) (by kernel_rfl) (by kernel_rfl) (fun _ _ _ h => h) (Or.inl ⟨by rfl, ?_⟩) hS ?_
    · intro w hSw; obtain ⟨⟨p1, p2, p3, p4⟩, p5, p6, p7, p8⟩ := hSw; go_simp
    try dsimp only [Act.put]
    try simp only [List.setIfInBounds_toArray, List.set_cons_zero, List.set_cons_succ]
    refine wpAnyH_take (i := 8) (v := .int .i64 E) rfl (by kernel_rfl) (by kernel_rfl) (by kernel_rfl) (fun _ _ _ h => h) (Or.inl ⟨by rfl, ?_⟩) hS ?_
    · intro w hSw; obtain ⟨⟨p1, p2, p3, p4⟩, p5, p6, p7, p8⟩ := hSw; go_simp
    try dsimp only [Act.put]
    try simp only [List.setIfInBounds_toArray, List.set_cons_zero, List.set_cons_succ]
    obtain ⟨z1, z2, z3, z4⟩ := id fz.out
    refine wpAnyH_ready (rs := [10]) (by kernel_rfl) (by simp) (AllReadyH.cons rfl (fun K' hK' => ?_) (AllReadyH.nil))
    go_simp
    obtain ⟨F, G⟩ := fz.out.store (p' := A) (q' := B) fg.out (by omega)
    have nx := (fx.out.set (b' := W.heap.size) (o := 0) (u := .string A) (by omega)).set (b' := W.heap.size) (o := 1) (u := .string B) (by omega)
    have ny := (fy.out.set (b' := W.heap.size) (o := 0) (u := .string A) (by omega)).set (b' := W.heap.size) (o := 1) (u := .string B) (by omega)
    refine hK'.out _ _ ⟨nx, ny⟩ (fun hS' => ?_)
    clear hK' K' hS z1 z2 z3 z4
    have hS := hS'
    clear hS'
    try dsimp only [Act.put]
    try simp only [List.setIfInBounds_toArray, List.set_cons_zero, List.set_cons_succ]
    refine wpAnyH_ready (rs := [11]) (by kernel_rfl) (by simp) (AllReadyH.cons rfl (fun K' hK' => ?_) (AllReadyH.nil))
    go_simp
    refine hK'.out _ _ ⟨nx, ny⟩ (fun hS' => wpAnyH_done (by kernel_rfl) ?_ _)
    clear hK' K' hS nx ny
    obtain ⟨z1, z2, z3, z4⟩ := id F
    have HF := Lib.hid F
    have HG := Lib.hid G
    clear F G
    by_cases h0 : E = 0
    · subst h0
      have H3 := Lib.hid (HC3.out rfl)
      go_wp2_with fail
      refine (H3.out _ (Gr.trans HG0.out HG.out)).mono ?_
      rintro e w4 ⟨rfl, hg⟩
      have HG5 := Lib.hid (Gr.trans HG.out hg)
      clear hg
      go_wp2
      go_ret2
      exact ⟨by simp, HG5.out⟩
    · have hne : (E == 0) = false := beq_eq_false_iff_ne.2 h0
      have H0 := Lib.hid h0
      clear h0
      go_wp2
      go_ret2
      first | exact ⟨rfl, HG.out⟩ | exact ⟨by simp [H0.out], HG.out⟩
end
end Go.Proofs.YtlbnibicehpobaaGreatDoor

/- The program's rational numbers: what is exported. -/
namespace Go.Proofs.YtlbnibicehpobaaGreatDoor
open Go.RowKit Go.Shelf
open Z

theorem RT_small {r : Rat} (h : InR r) : (RT r).size ≤ 400000 := by have := RT_size h.sh; omega
section
variable {w0 : World} (htab : Tab w0) (hmx : Mx w0)
include htab hmx
theorem retG_read {s : ByteArray} (hs : s.size ≤ 400000) : RetG w0 94 #[.string s] (.tuple #[vFr (rT s) (rB s), .int .i64 (chkS s)]) := fun w hg => q_read s hs w (hmx.gr hg) (htab_gr htab hg)
theorem retG_readBoth {s t : ByteArray} (hs : s.size ≤ 400000) (ht : t.size ≤ 400000) : RetG w0 154 #[.string s, .string t] (.tuple #[vFr (rT s) (rB s), vFr (rT t) (rB t), .int .i64 (both2 s t)]) := fun w hg => q_readBoth s t hs ht w (hmx.gr hg) (htab_gr htab hg)
omit hmx in
theorem retG_write {p q : Int} (hp : lg p = false) (hq : lg q = false) (h0 : q ≠ 0) : RetG w0 131 #[vFr (Tx p) (Tx q)] (.string (RT (Rat.divInt p q))) := fun w hg => q_write (lg_false.1 hp) (lg_false.1 hq) h0 w (htab_gr htab hg)
theorem retG_bothRT {a b : Rat} (ha : InR a) (hb : InR b) : RetG w0 154 #[.string (RT a), .string (RT b)] (.tuple #[vFr (Tx a.num) (Tx (a.den : Int)), vFr (Tx b.num) (Tx (b.den : Int)), .int .i64 0]) := by
  have h := retG_readBoth htab hmx (RT_small ha) (RT_small hb)
  rwa [rT_RT ha, rB_RT ha, rT_RT hb, rB_RT hb, both2_RT ha hb] at h
theorem calc_Err {s t : ByteArray} {k : Int} (hs : s.size ≤ 400000) (ht : t.size ≤ 400000) (h : both2 s t ≠ 0) : Ret w0 132 #[.string s, .int .i32 k, .string t] (.tuple #[.string ⟨#[]⟩, .int .i64 (both2 s t)]) :=
  (q_calcErr ⟨_, _, rfl⟩ ⟨_, _, rfl⟩ h (retG_readBoth htab hmx hs ht)).ret
theorem calc_Add {s t : ByteArray} (hs : s.size ≤ 400000) (ht : t.size ≤ 400000) : Ret w0 132 #[.string s, .int .i32 43, .string t] (vSI (op2 s t addR)) := by
  rcases both2_cases s t with h | ⟨a, b, rfl, rfl, ha, hb⟩
  · exact Ret.toSI (op2_err h) (calc_Err htab hmx hs ht h)
  · have H1 := retG_bothRT htab hmx ha hb
    have X := q_cross (retG_Mul htab (lg_false.1 ha.num) (lg_false.1 hb.den)) (retG_Mul htab (lg_false.1 hb.num) (lg_false.1 ha.den))
    have H2 : RetG w0 173 #[vFr (Tx a.num) (Tx (a.den : Int)), vFr (Tx b.num) (Tx (b.den : Int))] (.tuple #[vFr (joinN (· + ·) (a.num * b.den) (b.num * a.den)).1 (longR ((a.den : Int) * b.den)).1, .int .i64 (joinE (· + ·) (a.num * b.den) (b.num * a.den) ((a.den : Int) * b.den))]) := q_clos1 (q_joinAdd X (retG_Add htab (longR_size _) (longR_size _)) (retG_Mul htab (lg_false.1 ha.den) (lg_false.1 hb.den)))
    rw [op2_ok ha hb]
    rcases add_join a b with ⟨hE, hR⟩ | ⟨hE, hR, hN, hM, l1, l2⟩
    · have H := (q_calcAdd (R := ⟨#[]⟩) H1 H2 (fun h => by rw [hE] at h; cases h)).ret
      rw [hE] at H
      exact Ret.toSI hR H
    · have H3 := retG_write htab l1 l2 (dens_ne a b)
      rw [← add_parts, ← hN, ← hM] at H3
      have H := (q_calcAdd (R := RT (a + b)) H1 H2 (fun _ => H3)).ret
      rw [hE] at H
      exact Ret.toSI hR H
theorem calc_Sub {s t : ByteArray} (hs : s.size ≤ 400000) (ht : t.size ≤ 400000) : Ret w0 132 #[.string s, .int .i32 45, .string t] (vSI (op2 s t subR)) := by
  rcases both2_cases s t with h | ⟨a, b, rfl, rfl, ha, hb⟩
  · exact Ret.toSI (op2_err h) (calc_Err htab hmx hs ht h)
  · have H1 := retG_bothRT htab hmx ha hb
    have X := q_cross (retG_Mul htab (lg_false.1 ha.num) (lg_false.1 hb.den)) (retG_Mul htab (lg_false.1 hb.num) (lg_false.1 ha.den))
    have H2 : RetG w0 175 #[vFr (Tx a.num) (Tx (a.den : Int)), vFr (Tx b.num) (Tx (b.den : Int))] (.tuple #[vFr (joinN (· - ·) (a.num * b.den) (b.num * a.den)).1 (longR ((a.den : Int) * b.den)).1, .int .i64 (joinE (· - ·) (a.num * b.den) (b.num * a.den) ((a.den : Int) * b.den))]) := q_clos2 (q_joinSub X (retG_Sub htab (longR_size _) (longR_size _)) (retG_Mul htab (lg_false.1 ha.den) (lg_false.1 hb.den)))
    rw [op2_ok ha hb]
    rcases sub_join a b with ⟨hE, hR⟩ | ⟨hE, hR, hN, hM, l1, l2⟩
    · have H := (q_calcSub (R := ⟨#[]⟩) H1 H2 (fun h => by rw [hE] at h; cases h)).ret
      rw [hE] at H
      exact Ret.toSI hR H
    · have H3 := retG_write htab l1 l2 (dens_ne a b)
      rw [← sub_parts, ← hN, ← hM] at H3
      have H := (q_calcSub (R := RT (a - b)) H1 H2 (fun _ => H3)).ret
      rw [hE] at H
      exact Ret.toSI hR H
theorem calc_Mul {s t : ByteArray} (hs : s.size ≤ 400000) (ht : t.size ≤ 400000) : Ret w0 132 #[.string s, .int .i32 42, .string t] (vSI (op2 s t mulR)) := by
  rcases both2_cases s t with h | ⟨a, b, rfl, rfl, ha, hb⟩
  · exact Ret.toSI (op2_err h) (calc_Err htab hmx hs ht h)
  · have H1 := retG_bothRT htab hmx ha hb
    have H2 : RetG w0 176 #[vFr (Tx a.num) (Tx (a.den : Int)), vFr (Tx b.num) (Tx (b.den : Int))] (.tuple #[vFr (longR (a.num * b.num)).1 (longR ((a.den : Int) * b.den)).1, .int .i64 (timesE (a.num * b.num) ((a.den : Int) * b.den))]) := q_ftimes (retG_Mul htab (lg_false.1 ha.num) (lg_false.1 hb.num)) (retG_Mul htab (lg_false.1 ha.den) (lg_false.1 hb.den))
    rw [op2_ok ha hb]
    unfold mulR
    rcases times_cases (a.num * b.num) ((a.den : Int) * b.den) with ⟨hE, hR⟩ | ⟨hE, hR, hN, hM, l1, l2⟩
    · have H := (q_calcMul (R := ⟨#[]⟩) H1 H2 (fun h => by rw [hE] at h; cases h)).ret
      rw [hE] at H
      exact Ret.toSI (by rw [if_pos hR]; rfl) H
    · have H3 := retG_write htab l1 l2 (dens_ne a b)
      rw [← mul_parts, ← hN, ← hM] at H3
      have H := (q_calcMul (R := RT (a * b)) H1 H2 (fun _ => H3)).ret
      rw [hE] at H
      exact Ret.toSI (by rw [if_neg (by rw [hR]; simp)]; rfl) H
theorem calc_Div {s t : ByteArray} (hs : s.size ≤ 400000) (ht : t.size ≤ 400000) : Ret w0 132 #[.string s, .int .i32 47, .string t] (vSI (op2 s t divR)) := by
  rcases both2_cases s t with h | ⟨a, b, rfl, rfl, ha, hb⟩
  · exact Ret.toSI (op2_err h) (calc_Err htab hmx hs ht h)
  · have H1 := retG_bothRT htab hmx ha hb
    have is0 := Tx_is0 b.num
    rw [op2_ok ha hb]
    unfold divR
    by_cases h0 : b = 0
    · rw [if_pos h0]
      rw [decide_eq_true (by rw [h0]; rfl)] at is0
      have H := (q_calcDiv (R := ⟨#[]⟩) H1 (q_clos3z is0) (fun h => by cases h)).ret
      exact Ret.toSI rfl H
    · rw [if_neg h0]
      rw [decide_eq_false (num_ne h0)] at is0
      have H2 : RetG w0 177 #[vFr (Tx a.num) (Tx (a.den : Int)), vFr (Tx b.num) (Tx (b.den : Int))] (.tuple #[vFr (longR (a.num * b.den)).1 (longR ((a.den : Int) * b.num)).1, .int .i64 (timesE (a.num * b.den) ((a.den : Int) * b.num))]) := q_clos3 is0 (q_ftimes (retG_Mul htab (lg_false.1 ha.num) (lg_false.1 hb.den)) (retG_Mul htab (lg_false.1 ha.den) (lg_false.1 hb.num)))
      rcases times_cases (a.num * b.den) ((a.den : Int) * b.num) with ⟨hE, hR⟩ | ⟨hE, hR, hN, hM, l1, l2⟩
      · have H := (q_calcDiv (R := ⟨#[]⟩) H1 H2 (fun h => by rw [hE] at h; cases h)).ret
        rw [hE] at H
        exact Ret.toSI (by rw [if_pos hR]; rfl) H
      · have H3 := retG_write htab l1 l2 (Int.mul_ne_zero (den_ne a) (num_ne h0))
        rw [← div_parts, ← hN, ← hM] at H3
        have H := (q_calcDiv (R := RT (a / b)) H1 H2 (fun _ => H3)).ret
        rw [hE] at H
        exact Ret.toSI (by rw [if_neg (by rw [hR]; simp)]; rfl) H
set_option maxHeartbeats 1000000 in
set_option maxRecDepth 100000 in
theorem ret_QSub {s t : ByteArray} (hs : s.size ≤ 400000) (ht : t.size ≤ 400000) : Ret w0 109 #[.string s, .string t] (vSI (op2 s t subR)) := by
  have C := calc_Sub htab hmx hs ht
  obtain ⟨p, hp⟩ : ∃ p, p = op2 s t subR := ⟨_, rfl⟩
  rw [← hp] at C ⊢
  obtain ⟨p1, p2⟩ := p
  have C1 := Lib.hid (Ret.si C rfl)
  refine Ret.toSI rfl ?_
  clear C hp hs ht htab hmx
  intro w hg
  have HG := Lib.hid hg; clear hg
  go_enter Tryz.func109, Tryz.ntmps109
  go_wp2_with fail
  refine (C1.out _ HG.out).mono ?_
  rintro e w1 ⟨rfl, hg⟩
  replace HG := Lib.hid hg; clear hg
  go_wp2
  go_ret2
  exact ⟨rfl, HG.out⟩
end
end Go.Proofs.YtlbnibicehpobaaGreatDoor
