/- Sets of channels: the program's Parse. -/
import Derived.Test.YtjideokeokmbaaaGreatDoorRaF
set_option linter.unusedVariables false
set_option linter.unusedSimpArgs false
namespace Go.Proofs.YtjideokeokmbaaaGreatDoor.Z
open Go
theorem updM_zero {g : Nat → Bool} {f t : Int} {v : Bool} (hg : g 0 = false) (h1 : 1 ≤ f) (h2 : f ≤ t) (h3 : t ≤ 999) : updM g (chans [(f, t)]) v 0 = false := by
  unfold updM
  rw [if_neg ?_]
  · exact hg
  · intro h
    have := (chn_bound (R := [(f, t)]) (fun r hr => by simp at hr; subst hr; exact ⟨h1, h2, h3⟩) h).1
    omega
theorem memF_zero (l : List UInt8) (n : Nat) : ∀ (g : Nat → Bool) (v : Bool) (k : Nat), k ≤ l.length → g 0 = false → (memF l n g v k).1 0 = false ∧ (memF l n g v k).2.2 ≤ l.length := by
  induction n with
  | zero => intro g v k hk hg; exact ⟨hg, hk⟩
  | succ n ih =>
    intro g v k hk hg
    have hT := termR_ok hk
    unfold memF
    generalize termR l k = T at *
    obtain ⟨⟨f, t⟩, e, k1⟩ := T
    simp only at hT ⊢
    obtain ⟨hk1, hok⟩ := hT
    have hK := (skipB_le hk1).2
    have hP : ∀ c, Lib.hasPrefix (l.drop (skipB l k1)) [c] = true → skipB l k1 + 1 ≤ l.length := fun c h => by
      have := prefix_len h
      rw [List.length_drop] at this
      simp at this; omega
    by_cases he : e = 0
    · obtain ⟨h1, h2, h3, -⟩ := hok he
      have hz := updM_zero (v := v) hg h1 h2 h3
      rw [if_neg (by simp [he])]
      split
      · exact ⟨hz, hK⟩
      · split
        · rename_i h; exact ih _ _ _ (hP _ h) hz
        · split
          · rename_i h; exact ih _ _ _ (hP _ h) hz
          · exact ⟨hz, hK⟩
    · rw [if_pos he]
      exact ⟨hg, hk1⟩
theorem membersR_zero (l : List UInt8) : (membersR l).1 0 = false ∧ (membersR l).2.2 ≤ l.length := by
  have hK := (skipB_le (l := l) (k := 0) (by omega)).2
  unfold membersR
  split
  · exact ⟨rfl, hK⟩
  · exact memF_zero l _ _ _ _ hK rfl
/-- what Parse answers -/
def parseR (l : List UInt8) : List (Int × Int) × Int × Int :=
  if 4096 < l.length then ([], 0, 13) else if (membersR l).2.1 ≠ 0 then ([], ((membersR l).2.2 : Nat), (membersR l).2.1) else (setS (membersR l).1 1000, 0, 0)
end Go.Proofs.YtjideokeokmbaaaGreatDoor.Z
namespace Go.Proofs.YtjideokeokmbaaaGreatDoor
open Go.RowKit Go.Shelf
open Z
theorem OwnR.low {B B' : Nat} {w : World} {v : Value} {l : List (Int × Int)} (h : OwnR B w v l) (hB : B' ≤ B) : OwnR B' w v l := by
  refine ⟨h.1, ?_⟩
  rcases h.2 with h2 | ⟨g, cap, cur, h1, hb, h3⟩
  · exact .inl h2
  · exact .inr ⟨g, cap, cur, h1, Nat.le_trans hB hb, h3⟩
theorem RdrAt.new (w : World) (s : ByteArray) : RdrAt (w.alloc (.cells #[.string s, .int .i64 0] 61)) w.heap.size s 0 :=
  ⟨by rw [World.cell?_alloc_at _ _ _ _ rfl]; rfl, by rw [World.cell?_alloc_at _ _ _ _ rfl]; rfl, World.frozen?_alloc_at _ _ _ _ rfl⟩
set_option maxRecDepth 100000 in
set_option maxHeartbeats 4000000 in
theorem ra_Parse (s : ByteArray) (w : World) : Calls Tryz.prog 17 #[.string s] w fun e w' => ∃ v, e = .returned (.tuple #[v, .int .i64 (parseR s.data.toList).2.1, .int .i64 (parseR s.data.toList).2.2]) ∧ OwnR w.heap.size w' v (parseR s.data.toList).1 ∧ Gr w w' := by
  obtain ⟨hzv, hzs⟩ := zero_of_info Tryz.infoMembers
  have hsz : s.data.toList.length = s.size := by simp
  obtain ⟨V, hV⟩ : ∃ V, parseR s.data.toList = V := ⟨_, rfl⟩
  have HV := Lib.hid hV
  rw [hV]
  clear hV
  unfold parseR at HV
  rw [hsz] at HV
  by_cases hl : 4096 < s.size
  · have hv := HV.out
    rw [if_pos hl] at hv
    subst hv
    clear HV hzv hsz
    go_enter Tryz.func17, Tryz.ntmps17
    go_wp2
    go_ret3
    exact ⟨_, rfl, OwnR.nil _ _, Gr.refl w⟩
  · have hM := Lib.hid (ra_members w.heap.size s _ (RdrAt.new w s) (by omega))
    have hg0 := (membersR_zero s.data.toList).1
    have hv := HV.out
    rw [if_neg hl] at hv
    clear HV
    have HV := Lib.hid hv
    clear hv
    generalize membersR s.data.toList = M at *
    obtain ⟨g, e, k⟩ := M
    simp only at hM hg0 HV
    have HG0 := Lib.hid hg0
    clear hg0
    obtain ⟨Z, hZ⟩ : ∃ Z, memA (fun _ => false) = Z := ⟨_, rfl⟩
    rw [hZ] at hzv
    have hZs : Z.size = 1000 := by rw [← hZ]; exact memA_size _
    clear hZ
    by_cases he : e = 0
    · subst he
      rw [if_neg (by simp)] at HV
      have hv := HV.out
      subst hv
      clear HV
      go_enter Tryz.func17, Tryz.ntmps17
      go_wp2_with fail
      refine hM.out.mono ?_; rintro e' w2 ⟨rfl, hr2, hu2⟩
      have HR2 := Lib.hid (hr2.gr ((Gr.refl w2).alloc (.cells (memA g) 63)))
      have HG2 := Lib.hid (hu2.1 w ((Gr.refl w).alloc _) (Nat.le_refl _))
      clear hr2 hu2 hM
      go_wp2
      rw [run_store82 (World.alloc_heap_new w2 _) hZs (memA_size g) (memA_one g) hzs, World.setRow_alloc_new]
      simp only [Result.andThen]
      rw [Oper.upon_skip]
      have HM3 := Lib.hid (show MemAt (w2.alloc (.cells (memA g) 63)) w2.heap.size g from World.alloc_heap_new w2 _)
      have HG3 := Lib.hid (HG2.out.alloc (.cells (memA g) 63))
      generalize hN : w2.heap.size = N at *
      generalize w2.alloc (.cells (memA g) 63) = w3 at *
      have HS := Lib.hid (ra_set N g w3 HM3.out HG0.out)
      clear HM3
      go_wp2_with fail
      refine HS.out.mono ?_; rintro e w4 ⟨v, rfl, ho, hg⟩
      have HO := Lib.hid ho
      have HG4 := Lib.hid (Gr.trans HG3.out hg)
      clear ho hg HS
      go_wp2
      go_ret3
      exact ⟨v, rfl, HO.out.low HG3.out.size, HG4.out⟩
    · rw [if_pos he] at HV
      have hv := HV.out
      subst hv
      have he2 : (e == 0) = false := by rw [beq_eq_false_iff_ne]; exact he
      clear HV
      go_enter Tryz.func17, Tryz.ntmps17
      go_wp2_with fail
      refine hM.out.mono ?_; rintro e' w2 ⟨rfl, hr2, hu2⟩
      have HR2 := Lib.hid (hr2.gr ((Gr.refl w2).alloc (.cells (memA g) 63)))
      have HG2 := Lib.hid (hu2.1 w ((Gr.refl w).alloc _) (Nat.le_refl _))
      clear hr2 hu2 hM
      go_wp2
      rw [run_store82 (World.alloc_heap_new w2 _) hZs (memA_size g) (memA_one g) hzs, World.setRow_alloc_new]
      simp only [Result.andThen]
      rw [Oper.upon_skip]
      have HM3 := Lib.hid (show MemAt (w2.alloc (.cells (memA g) 63)) w2.heap.size g from World.alloc_heap_new w2 _)
      have HG3 := Lib.hid (HG2.out.alloc (.cells (memA g) 63))
      generalize hN : w2.heap.size = N at *
      generalize w2.alloc (.cells (memA g) 63) = w3 at *
      obtain ⟨c0, c1, f1⟩ := HR2.out
      go_wp2_with fail
      go_quiet (fail)
      rename_i nq
      go_wp2
      go_ret3
      exact ⟨_, rfl, OwnR.nil _ _, below_drewN HG3.out nq⟩
end Go.Proofs.YtjideokeokmbaaaGreatDoor
