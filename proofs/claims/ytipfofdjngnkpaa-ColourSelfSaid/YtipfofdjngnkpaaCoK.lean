/- Law 11: which of two colours is nearer to a third one. -/
import Derived.Test.YtipfofdjngnkpaaCoJ
import Derived.Laws.EntriesVeiled
set_option linter.unusedVariables false
set_option linter.unusedSimpArgs false
namespace Go.Proofs.Ytipfofdjngnkpaa.Z
open Go
theorem sq_bound {a b : Int} (a0 : 0 ≤ a) (a1 : a ≤ 65535) (b0 : 0 ≤ b) (b1 : b ≤ 65535) : 0 ≤ (a - b) * (a - b) ∧ (a - b) * (a - b) ≤ 4294836225 := by
  have h : (a - b) * (a - b) = ((a - b).natAbs * (a - b).natAbs : Nat) := by rw [Int.natCast_mul]; exact (Int.natAbs_mul_self' _).symm
  rw [h]
  have h2 : (a - b).natAbs ≤ 65535 := by omega
  have h3 : (a - b).natAbs * (a - b).natAbs ≤ 65535 * 65535 := Nat.mul_le_mul h2 h2
  omega
theorem sq_comm (a b : Int) : (b - a) * (b - a) = (a - b) * (a - b) := by
  have : b - a = -(a - b) := by omega
  rw [this, Int.neg_mul_neg]
theorem farR_comm (c d : C3) : farR c d = farR d c := by
  unfold farR
  rw [sq_comm d.1 c.1, sq_comm d.2.1 c.2.1, sq_comm d.2.2 c.2.2]
end Go.Proofs.Ytipfofdjngnkpaa.Z
namespace Go.Proofs.Ytipfofdjngnkpaa
open Go.RowKit
open Z
set_option maxRecDepth 100000 in
set_option maxHeartbeats 2000000 in
theorem co_sq (c d : C3) (hc : isC c = true) (hd : isC d = true) (p : Nat) (w : World) (hp : C3At w p c) : Calls Try.prog 59 #[vC d, .pointer (some ⟨p, 0, none⟩)] w fun e w' => e = .returned (.int .i64 (farR c d)) ∧ Gr w w' := by
  rw [farR_comm]
  have hb := isC_iff.1 hc
  have hb2 := isC_iff.1 hd
  have HG := Lib.hid ((Gr.refl w).alloc (.cells #[.int .i64 d.1, .int .i64 d.2.1, .int .i64 d.2.2] 23))
  have HC := Lib.hid (hp.gr ((Gr.refl w).alloc (.cells #[.int .i64 d.1, .int .i64 d.2.1, .int .i64 d.2.2] 23)))
  have hlt := cellLt hp.c0
  obtain ⟨x, y, z⟩ := d
  obtain ⟨x', y', z'⟩ := c
  unfold farR
  simp only at hb hb2 HG HC ⊢
  obtain ⟨p0, p1⟩ := sq_bound hb2.1.1 hb2.1.2 hb.1.1 hb.1.2
  obtain ⟨q0, q1⟩ := sq_bound hb2.2.1.1 hb2.2.1.2 hb.2.1.1 hb.2.1.2
  obtain ⟨r0, r1⟩ := sq_bound hb2.2.2.1 hb2.2.2.2 hb.2.2.1 hb.2.2.2
  obtain ⟨⟨a0, a1⟩, ⟨a2, a3⟩, ⟨a4, a5⟩⟩ := hb
  obtain ⟨⟨b0, b1⟩, ⟨b2, b3⟩, ⟨b4, b5⟩⟩ := hb2
  obtain ⟨P, hP⟩ : ∃ P, (x - x') * (x - x') = P := ⟨_, rfl⟩
  obtain ⟨Q, hQ⟩ : ∃ Q, (y - y') * (y - y') = Q := ⟨_, rfl⟩
  obtain ⟨R, hR⟩ : ∃ R, (z - z') * (z - z') = R := ⟨_, rfl⟩
  rw [hP] at p0 p1 ⊢
  rw [hQ] at q0 q1 ⊢
  rw [hR] at r0 r1 ⊢
  obtain ⟨i0, i1, i2⟩ := idx3 (.int .i64 x) (.int .i64 y) (.int .i64 z)
  unfold vC
  clear hp hc hd
  go_enter Try.func59, Try.ntmps59
  go_wp2_with fail
  obtain ⟨w1, hw1⟩ : ∃ v, v = w.alloc (.cells #[.int .i64 x, .int .i64 y, .int .i64 z] 23) := ⟨_, rfl⟩
  rw [← hw1] at HG HC ⊢
  clear hw1
  refine wp_loop_rounds 4 ?_
  rw [rounds_succ]
  have c0 := HC.out.c0
  go_wp2_with fail
  go_region
  have HC2 := Lib.hid HC.out.drew
  have HG2 := Lib.hid HG.out.drew
  clear HC HG c0
  generalize w1.drew = w2 at *
  have HC := HC2
  have HG := HG2
  clear HC2 HG2
  go_wp2
  rw [rounds_succ]
  have c0 := HC.out.c1
  go_wp2_with fail
  go_region
  have HC2 := Lib.hid HC.out.drew
  have HG2 := Lib.hid HG.out.drew
  clear HC HG c0
  generalize w2.drew = w3 at *
  have HC := HC2
  have HG := HG2
  clear HC2 HG2
  go_wp2
  rw [rounds_succ]
  have c0 := HC.out.c2
  go_wp2_with fail
  go_region
  have HC2 := Lib.hid HC.out.drew
  have HG2 := Lib.hid HG.out.drew
  clear HC HG c0
  generalize w3.drew = w4 at *
  have HC := HC2
  have HG := HG2
  clear HC2 HG2
  go_wp2
  rw [rounds_succ]
  go_wp2
  go_ret
  exact ⟨ret_int (by omega), HG.out⟩
/-- the function that knows which of two colours is nearer to c -/
def NearAt (w : World) (q : Nat) (c : C3) : Prop := ∃ p, w.cell? ⟨q, 0, none⟩ = some (.func (.func 59) #[] #[.pointer (some ⟨p, 0, none⟩)]) ∧ C3At w p c
theorem NearAt.gr {w w' : World} {q : Nat} {c : C3} (h : NearAt w q c) (hg : Gr w w') : NearAt w' q c := h.elim fun p hp => ⟨p, gr_cell hg hp.1, hp.2.gr hg⟩
theorem NearAt.drew {w : World} {q : Nat} {c : C3} (h : NearAt w q c) : NearAt w.drew q c := h
set_option maxRecDepth 100000 in
set_option maxHeartbeats 2000000 in
theorem co_near (c d e : C3) (hc : isC c = true) (hd : isC d = true) (he : isC e = true) (q : Nat) (w : World) (hq : NearAt w q c) : Calls Try.prog 60 #[vC d, vC e, .pointer (some ⟨q, 0, none⟩)] w fun e' w' => e' = .returned (.bool (decide (farR c d < farR c e))) ∧ Gr w w' := by
  obtain ⟨p, hq1, hq2⟩ := hq
  obtain ⟨x, y, z⟩ := d
  obtain ⟨x', y', z'⟩ := e
  have G2 : Gr w ((w.alloc (.cells #[.int .i64 x, .int .i64 y, .int .i64 z] 23)).alloc (.cells #[.int .i64 x', .int .i64 y', .int .i64 z'] 23)) := ((Gr.refl w).alloc _).alloc _
  have E1 := (C3At.new w (x, y, z)).gr ((Gr.refl _).alloc (.cells #[.int .i64 x', .int .i64 y', .int .i64 z'] 23))
  have E2 := C3At.new (w.alloc (.cells #[.int .i64 x, .int .i64 y, .int .i64 z] 23)) (x', y', z')
  rw [World.size_alloc] at E2
  have HS : Hid ((fun w' : World => w'.cell? ⟨q, 0, none⟩ = some (.func (.func 59) #[] #[.pointer (some ⟨p, 0, none⟩)]) ∧ C3At w' p c ∧ C3At w' w.heap.size (x, y, z) ∧ C3At w' (w.heap.size + 1) (x', y', z') ∧ Gr w w') ((w.alloc (.cells #[.int .i64 x, .int .i64 y, .int .i64 z] 23)).alloc (.cells #[.int .i64 x', .int .i64 y', .int .i64 z'] 23)).drew) := Lib.hid ⟨gr_cell G2.drew hq1, hq2.gr G2.drew, E1.drew, E2.drew, G2.drew⟩
  clear hq1 hq2 G2 E1 E2
  unfold vC
  go_enter Try.func60, Try.ntmps60
  go_wp2_with fail
  have hS0 : (fun w' : World => w'.cell? ⟨q, 0, none⟩ = some (.func (.func 59) #[] #[.pointer (some ⟨p, 0, none⟩)]) ∧ C3At w' p c ∧ C3At w' w.heap.size (x, y, z) ∧ C3At w' (w.heap.size + 1) (x', y', z') ∧ Gr w w') _ := HS.out
  refine wp_region_held (S := fun w' : World => w'.cell? ⟨q, 0, none⟩ = some (.func (.func 59) #[] #[.pointer (some ⟨p, 0, none⟩)]) ∧ C3At w' p c ∧ C3At w' w.heap.size (x, y, z) ∧ C3At w' (w.heap.size + 1) (x', y', z') ∧ Gr w w') (by kernel_rfl) ?_
  refine wpAnyH_take (i := 0) (v := .func (.func 59) #[] #[.pointer (some ⟨p, 0, none⟩)]) rfl (by kernel_rfl) (by kernel_rfl) (by kernel_rfl) (fun _ _ _ h => h) (Or.inl ⟨by rfl, ?_⟩) hS0 ?_
  · intro w hSw; obtain ⟨s1, s2⟩ := hSw; go_simp
  try simp only [Act.put, List.getElem_toArray, List.getElem_cons_succ, List.getElem_cons_zero, List.setIfInBounds_toArray, List.set_cons_zero, List.set_cons_succ]
  refine wpAnyH_take (i := 1) (v := vC (x, y, z)) rfl (by kernel_rfl) (by kernel_rfl) (by kernel_rfl) (fun _ _ _ h => h) (Or.inl ⟨by rfl, ?_⟩) hS0 ?_
  · intro w hSw; exact exec_load3 _ rfl rfl hSw.2.2.1
  try simp only [Act.put, List.getElem_toArray, List.getElem_cons_succ, List.getElem_cons_zero, List.setIfInBounds_toArray, List.set_cons_zero, List.set_cons_succ]
  refine wpAnyH_take (i := 3) (v := .func (.func 59) #[] #[.pointer (some ⟨p, 0, none⟩)]) rfl (by kernel_rfl) (by kernel_rfl) (by kernel_rfl) (fun _ _ _ h => h) (Or.inl ⟨by rfl, ?_⟩) hS0 ?_
  · intro w hSw; obtain ⟨s1, s2⟩ := hSw; go_simp
  try simp only [Act.put, List.getElem_toArray, List.getElem_cons_succ, List.getElem_cons_zero, List.setIfInBounds_toArray, List.set_cons_zero, List.set_cons_succ]
  refine wpAnyH_take (i := 4) (v := vC (x', y', z')) rfl (by kernel_rfl) (by kernel_rfl) (by kernel_rfl) (fun _ _ _ h => h) (Or.inl ⟨by rfl, ?_⟩) hS0 ?_
  · intro w hSw; exact exec_load3 _ rfl rfl hSw.2.2.2.1
  try simp only [Act.put, List.getElem_toArray, List.getElem_cons_succ, List.getElem_cons_zero, List.setIfInBounds_toArray, List.set_cons_zero, List.set_cons_succ]
  refine wpAnyH_ready (rs := [2]) (by kernel_rfl) (by simp) (AllReadyH.cons rfl (fun K' hK' => ?_) AllReadyH.nil)
  go_simp
  refine (co_sq c (x, y, z) hc hd p _ hS0.2.1).mono ?_; rintro e w6 ⟨rfl, hg6⟩
  refine hK'.out _ _ ⟨gr_cell hg6 hS0.1, hS0.2.1.gr hg6, hS0.2.2.1.gr hg6, hS0.2.2.2.1.gr hg6, hS0.2.2.2.2.trans hg6⟩ (fun hS1 => ?_)
  clear hK' K'
  try simp only [Act.put, List.getElem_toArray, List.getElem_cons_succ, List.getElem_cons_zero, List.setIfInBounds_toArray, List.set_cons_zero, List.set_cons_succ]
  refine wpAnyH_ready (rs := [5]) (by kernel_rfl) (by simp) (AllReadyH.cons rfl (fun K' hK' => ?_) AllReadyH.nil)
  go_simp
  refine (co_sq c (x', y', z') hc he p _ hS1.2.1).mono ?_; rintro e w7 ⟨rfl, hg7⟩
  refine hK'.out _ _ ⟨gr_cell hg7 hS1.1, hS1.2.1.gr hg7, hS1.2.2.1.gr hg7, hS1.2.2.2.1.gr hg7, hS1.2.2.2.2.trans hg7⟩ (fun hS2 => ?_)
  clear hK' K'
  try simp only [Act.put, List.getElem_toArray, List.getElem_cons_succ, List.getElem_cons_zero, List.setIfInBounds_toArray, List.set_cons_zero, List.set_cons_succ]
  refine wpAnyH_take (i := 6) (v := .bool (decide (farR c (x, y, z) < farR c (x', y', z')))) rfl (by kernel_rfl) (by kernel_rfl) (by kernel_rfl) (fun _ _ _ h => h) (Or.inl ⟨by rfl, ?_⟩) hS2 ?_
  · intro w hSw; go_simp
  try simp only [Act.put, List.getElem_toArray, List.getElem_cons_succ, List.getElem_cons_zero, List.setIfInBounds_toArray, List.set_cons_zero, List.set_cons_succ]
  refine wpAnyH_take (i := 7) (v := .bool (decide (farR c (x, y, z) < farR c (x', y', z')))) rfl (by kernel_rfl) (by kernel_rfl) (by kernel_rfl) (fun _ _ _ h => h) (Or.inl ⟨by rfl, ?_⟩) hS2 ?_
  · intro w hSw; go_simp
  try simp only [Act.put, List.getElem_toArray, List.getElem_cons_succ, List.getElem_cons_zero, List.setIfInBounds_toArray, List.set_cons_zero, List.set_cons_succ]
  refine wpAnyH_done (by kernel_rfl) ?_ _
  go_wp2
  go_ret
  exact ⟨rfl, hS2.2.2.2.2⟩
set_option maxRecDepth 100000 in
set_option maxHeartbeats 2000000 in
theorem co_nearerTo (c : C3) (w : World) : Calls Try.prog 45 #[vC c] w fun e w' => (∃ q, e = .returned (.func (.func 60) #[] #[.pointer (some ⟨q, 0, none⟩)]) ∧ NearAt w' q c) ∧ Gr w w' := by
  have hmf : ∀ (fn : Fn) (first cap : Array Value) (w : World), (Instr.makeFunc fn first cap).run Try.prog w = .ok (.func fn first cap) w := fun _ _ _ _ => rfl
  obtain ⟨x, y, z⟩ := c
  unfold vC
  go_enter Try.func45, Try.ntmps45
  go_wp2
  go_ret
  refine ⟨⟨w.heap.size + 1, rfl, w.heap.size, ?_, (C3At.new w (x, y, z)).gr ((Gr.refl _).alloc _)⟩, ((Gr.refl w).alloc _).alloc _⟩
  have h := heap_alloc_last (w.alloc (.cells #[.int .i64 x, .int .i64 y, .int .i64 z] 23)) (.cells #[.func (.func 59) #[] #[.pointer (some ⟨w.heap.size, 0, none⟩)]] 56)
  rw [World.size_alloc] at h
  rw [cell_of_row _ _ _ _ _ _ h]; rfl
end Go.Proofs.Ytipfofdjngnkpaa
