/- Law 11: ContainsFunc of ColourSelf. -/
import Derived.Test.YtipfofdjngnkpaaCpD
set_option linter.unusedVariables false
set_option linter.unusedSimpArgs false
namespace Go.Proofs.Ytipfofdjngnkpaa
open Go.RowKit
open Z
/-- what the function of the last test has captured: the distance from x, the list, and the place of its nearest colour -/
structure CapS (w : World) (q f7 q14 p : Nat) (x : C3) (a : Option Addr) (L : List C3) (cap k : Nat) : Prop where
  f : w.cell? ⟨q, 0, none⟩ = some (.func (.func 27) #[] #[.pointer (some ⟨p, 0, none⟩)])
  x : C3At w p x
  l : w.cell? ⟨f7, 0, none⟩ = some (.slice a L.length cap)
  r : Rd3 w a L
  k : w.cell? ⟨q14, 0, none⟩ = some (.int .i64 k)
theorem CapS.gr {w w' : World} {q f7 q14 p : Nat} {x : C3} {a : Option Addr} {L : List C3} {cap k : Nat} (h : CapS w q f7 q14 p x a L cap k) (hg : Gr w w') : CapS w' q f7 q14 p x a L cap k :=
  ⟨gr_cell hg h.f, h.x.gr hg, gr_cell hg h.l, h.r.gr hg, gr_cell hg h.k⟩
set_option maxRecDepth 100000 in
set_option maxHeartbeats 2000000 in
theorem lw_less {q f7 q14 p : Nat} {x : C3} {a : Option Addr} {L : List C3} {cap k : Nat} (d : C3) (w : World) (h : CapS w q f7 q14 p x a L cap k) (hix : isC x = true) (hid : isC d = true) (hkL : k < L.length) (hie : isC L[k] = true) (hlen : L.length ≤ 1000) (hmin : farR x L[k] ≤ farR x d) :
    Calls Try.prog 29 #[vC d, .pointer (some ⟨q, 0, none⟩), .pointer (some ⟨f7, 0, none⟩), .pointer (some ⟨q14, 0, none⟩)] w fun e w' => e = .returned (.bool false) ∧ Gr w w' := by
  obtain ⟨d0, d1, d2⟩ := d
  have G : Gr w (w.alloc (.cells #[.int .i64 d0, .int .i64 d1, .int .i64 d2] 23)) := (Gr.refl w).alloc _
  have hD : C3At (w.alloc (.cells #[.int .i64 d0, .int .i64 d1, .int .i64 d2] 23)) w.heap.size (d0, d1, d2) := C3At.new w (d0, d1, d2)
  obtain ⟨hf, hX, hl, hr, hk⟩ := h.gr G
  obtain ⟨b, o, rfl, h0, h1, h2⟩ := hr k hkL
  have hfalse : decide (farR x (d0, d1, d2) < farR x L[k]) = false := decide_eq_false (by omega)
  generalize hLk : L[k] = e at *
  obtain ⟨e0, e1, e2⟩ := e
  simp only at h0 h1 h2
  clear h hr hmin hLk
  have z1 : (0 : Int) ≤ (k : Int) := by omega
  have z2 : (k : Int) < (L.length : Int) := by omega
  generalize L.length = n at *
  unfold vC
  go_enter Try.func29, Try.ntmps29
  go_wp2_with fail
  have hS0 : (fun w' : World => Gr (w.alloc (.cells #[.int .i64 d0, .int .i64 d1, .int .i64 d2] 23)) w') (w.alloc (.cells #[.int .i64 d0, .int .i64 d1, .int .i64 d2] 23)).drew := (Gr.refl _).drew
  refine wp_region_held (S := fun w' : World => Gr (w.alloc (.cells #[.int .i64 d0, .int .i64 d1, .int .i64 d2] 23)) w') (by kernel_rfl) ?_
  change wpAnyH _ _ _ _ _ _ _ _ (w.alloc (.cells #[.int .i64 d0, .int .i64 d1, .int .i64 d2] 23)).drew
  refine wpAnyH_take (i := 0) (v := .func (.func 27) #[] #[.pointer (some ⟨p, 0, none⟩)]) rfl (by kernel_rfl) (by kernel_rfl) (by kernel_rfl) (fun _ _ _ h => h) (Or.inl ⟨by rfl, ?_⟩) hS0 ?_
  · intro w hSw; have s1 := gr_cell hSw hf; go_simp
  try simp only [Act.put, List.getElem_toArray, List.getElem_cons_succ, List.getElem_cons_zero, List.setIfInBounds_toArray, List.set_cons_zero, List.set_cons_succ]
  refine wpAnyH_take (i := 1) (v := vC (d0, d1, d2)) rfl (by kernel_rfl) (by kernel_rfl) (by kernel_rfl) (fun _ _ _ h => h) (Or.inl ⟨by rfl, ?_⟩) hS0 ?_
  · intro w hSw; exact exec_load3 _ rfl rfl (hD.gr hSw)
  try simp only [Act.put, List.getElem_toArray, List.getElem_cons_succ, List.getElem_cons_zero, List.setIfInBounds_toArray, List.set_cons_zero, List.set_cons_succ]
  refine wpAnyH_take (i := 3) (v := .func (.func 27) #[] #[.pointer (some ⟨p, 0, none⟩)]) rfl (by kernel_rfl) (by kernel_rfl) (by kernel_rfl) (fun _ _ _ h => h) (Or.inl ⟨by rfl, ?_⟩) hS0 ?_
  · intro w hSw; have s1 := gr_cell hSw hf; go_simp
  try simp only [Act.put, List.getElem_toArray, List.getElem_cons_succ, List.getElem_cons_zero, List.setIfInBounds_toArray, List.set_cons_zero, List.set_cons_succ]
  refine wpAnyH_take (i := 4) (v := .slice (some ⟨b, o, none⟩) n cap) rfl (by kernel_rfl) (by kernel_rfl) (by kernel_rfl) (fun _ _ _ h => h) (Or.inl ⟨by rfl, ?_⟩) hS0 ?_
  · intro w hSw; have s1 := gr_cell hSw hl; go_simp
  try simp only [Act.put, List.getElem_toArray, List.getElem_cons_succ, List.getElem_cons_zero, List.setIfInBounds_toArray, List.set_cons_zero, List.set_cons_succ]
  refine wpAnyH_take (i := 5) (v := .int .i64 k) rfl (by kernel_rfl) (by kernel_rfl) (by kernel_rfl) (fun _ _ _ h => h) (Or.inl ⟨by rfl, ?_⟩) hS0 ?_
  · intro w hSw; have s1 := gr_cell hSw hk; go_simp
  try simp only [Act.put, List.getElem_toArray, List.getElem_cons_succ, List.getElem_cons_zero, List.setIfInBounds_toArray, List.set_cons_zero, List.set_cons_succ]
  refine wpAnyH_take (i := 6) (v := .pointer (some ⟨b, o + k * 3, none⟩)) rfl (by kernel_rfl) (by kernel_rfl) (by kernel_rfl) (fun _ _ _ h => h) (Or.inl ⟨by rfl, ?_⟩) hS0 ?_
  · intro w hSw; go_simp
  try simp only [Act.put, List.getElem_toArray, List.getElem_cons_succ, List.getElem_cons_zero, List.setIfInBounds_toArray, List.set_cons_zero, List.set_cons_succ]
  refine wpAnyH_take (i := 7) (v := vC (e0, e1, e2)) rfl (by kernel_rfl) (by kernel_rfl) (by kernel_rfl) (fun _ _ _ h => h) (Or.inl ⟨by rfl, ?_⟩) hS0 ?_
  · intro w hSw; have s1 := gr_cell hSw h0; have s2 := gr_cell hSw h1; have s3 := gr_cell hSw h2; unfold vC; go_simp
  try simp only [Act.put, List.getElem_toArray, List.getElem_cons_succ, List.getElem_cons_zero, List.setIfInBounds_toArray, List.set_cons_zero, List.set_cons_succ]
  refine wpAnyH_ready (rs := [2]) (by kernel_rfl) (by simp) (AllReadyH.cons rfl (fun K' hK' => ?_) AllReadyH.nil)
  go_simp
  refine (lw_far x (d0, d1, d2) hix hid p _ (hX.gr hS0)).mono ?_; rintro e w6 ⟨rfl, hg6⟩
  refine hK'.out _ _ (hS0.trans hg6) (fun hS1 => ?_)
  clear hK' K'
  try simp only [Act.put, List.getElem_toArray, List.getElem_cons_succ, List.getElem_cons_zero, List.setIfInBounds_toArray, List.set_cons_zero, List.set_cons_succ]
  refine wpAnyH_ready (rs := [8]) (by kernel_rfl) (by simp) (AllReadyH.cons rfl (fun K' hK' => ?_) AllReadyH.nil)
  go_simp
  refine (lw_far x (e0, e1, e2) hix hie p _ (hX.gr hS1)).mono ?_; rintro e w7 ⟨rfl, hg7⟩
  refine hK'.out _ _ (hS1.trans hg7) (fun hS2 => ?_)
  clear hK' K'
  try simp only [Act.put, List.getElem_toArray, List.getElem_cons_succ, List.getElem_cons_zero, List.setIfInBounds_toArray, List.set_cons_zero, List.set_cons_succ]
  refine wpAnyH_take (i := 9) (v := .bool false) rfl (by kernel_rfl) (by kernel_rfl) (by kernel_rfl) (fun _ _ _ h => h) (Or.inl ⟨by rfl, ?_⟩) hS2 ?_
  · intro w hSw; go_simp; try exact hfalse
  try simp only [Act.put, List.getElem_toArray, List.getElem_cons_succ, List.getElem_cons_zero, List.setIfInBounds_toArray, List.set_cons_zero, List.set_cons_succ]
  refine wpAnyH_take (i := 10) (v := .bool false) rfl (by kernel_rfl) (by kernel_rfl) (by kernel_rfl) (fun _ _ _ h => h) (Or.inl ⟨by rfl, ?_⟩) hS2 ?_
  · intro w hSw; go_simp
  try simp only [Act.put, List.getElem_toArray, List.getElem_cons_succ, List.getElem_cons_zero, List.setIfInBounds_toArray, List.set_cons_zero, List.set_cons_succ]
  refine wpAnyH_done (by kernel_rfl) ?_ _
  go_wp2
  go_ret
  exact ⟨rfl, G.trans hS2⟩
set_option maxRecDepth 100000 in
set_option maxHeartbeats 2000000 in
theorem sl_IndexFunc {q f7 q14 p : Nat} {x : C3} {a : Option Addr} {L : List C3} {cap k : Nat} (w : World) (h : CapS w q f7 q14 p x a L cap k) (hix : isC x = true) (hall : ∀ j (hj : j < L.length), isC L[j] = true) (hkL : k < L.length) (hlen : L.length ≤ 1000) (hmin : ∀ j (hj : j < L.length), farR x L[k] ≤ farR x L[j]) :
    Calls Try.prog 49 #[.slice a L.length cap, .func (.func 29) #[] #[.pointer (some ⟨q, 0, none⟩), .pointer (some ⟨f7, 0, none⟩), .pointer (some ⟨q14, 0, none⟩)]] w fun e w' => e = .returned (.int .i64 (-1)) ∧ Gr w w' := by
  have HF : Hid (∀ (w1 : World) j (hj : j < L.length), Gr w w1 → Calls Try.prog 29 #[vC L[j], .pointer (some ⟨q, 0, none⟩), .pointer (some ⟨f7, 0, none⟩), .pointer (some ⟨q14, 0, none⟩)] w1 fun e w' => e = .returned (.bool false) ∧ Gr w1 w') := Lib.hid fun w1 j hj hg => lw_less L[j] w1 (h.gr hg) hix (hall j hj) hkL (hall k hkL) hlen (hmin j hj)
  have HR := Lib.hid h.r
  obtain ⟨n, hn⟩ : ∃ n, n = L.length := ⟨_, rfl⟩
  have HN := Lib.hid hn
  rw [← hn] at hlen ⊢
  clear h hix hall hmin hn hkL
  go_enter Try.func49, Try.ntmps49
  go_wp2
  go_loopw [5, 8] (fun _ i wr => ∃ j : Nat, i = .int .i64 j ∧ j ≤ n ∧ Hid (Gr w wr)) (fun _ i _ => n - (intOf i).toNat)
  case atStart => exact ⟨0, rfl, Nat.zero_le _, Gr.refl _⟩
  case round =>
    obtain ⟨j, rfl, hj, HG⟩ := hrel
    by_cases hlt : j < n
    · have hjl : j < L.length := by rw [← HN.out]; exact hlt
      obtain ⟨b, o, rfl, d0, d1, d2⟩ := (HR.out.gr HG.out) j hjl
      have HF1 := Lib.hid (HF.out wr j hjl HG.out)
      generalize L[j] = u at *
      obtain ⟨u0, u1, u2⟩ := u
      unfold vC at HF1
      simp only at d0 d1 d2 HF1
      go_wp2_with fail
      refine HF1.out.mono ?_; rintro e w1 ⟨rfl, hg1⟩
      have HG1 := Lib.hid (HG.out.trans hg1)
      clear hg1 HG HF1 d0 d1 d2
      go_wp2
      go_roundw
      case rel => exact ⟨j + 1, by go_num, by omega, HG1.out⟩
      case measure => simp [intOf]; omega
    · go_wp2
      go_ret
      exact ⟨rfl, HG.out⟩
set_option maxRecDepth 100000 in
set_option maxHeartbeats 1000000 in
theorem sl_ContainsFunc {q f7 q14 p : Nat} {x : C3} {a : Option Addr} {L : List C3} {cap k : Nat} (w : World) (h : CapS w q f7 q14 p x a L cap k) (hix : isC x = true) (hall : ∀ j (hj : j < L.length), isC L[j] = true) (hkL : k < L.length) (hlen : L.length ≤ 1000) (hmin : ∀ j (hj : j < L.length), farR x L[k] ≤ farR x L[j]) :
    Calls Try.prog 28 #[.slice a L.length cap, .func (.func 29) #[] #[.pointer (some ⟨q, 0, none⟩), .pointer (some ⟨f7, 0, none⟩), .pointer (some ⟨q14, 0, none⟩)]] w fun e w' => e = .returned (.bool false) ∧ Gr w w' := by
  have HI := Lib.hid (sl_IndexFunc w h hix hall hkL hlen hmin)
  clear h hix hall hkL hmin
  generalize L.length = n at *
  go_enter Try.func28, Try.ntmps28
  go_wp2_with fail
  refine HI.out.mono ?_; rintro e w1 ⟨rfl, hg1⟩
  have HG1 := Lib.hid hg1
  clear hg1
  go_wp2
  go_ret
  exact ⟨rfl, HG1.out⟩
end Go.Proofs.Ytipfofdjngnkpaa
