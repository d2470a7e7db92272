/- Law 7: LexerScans. -/
import Derived.Test.YtfneikldnccepaaDoorLxR
set_option linter.unusedVariables false
set_option linter.unusedSimpArgs false
namespace Go.Proofs.YtfneikldnccepaaDoor.Z
open Go
theorem scanF_len (l : List UInt8) : ∀ n out k, (scanF l n out k).1.length ≤ out.length + n := by
  intro n
  induction n with
  | zero => intro out k; simp [scanF]
  | succ n ih =>
    intro out k
    unfold scanF
    split
    · simp
    · split
      · simp
      · split
        · simp
        · have := ih (out ++ [(tokR l k).1]) (tokR l k).2.2
          simp only [List.length_append, List.length_singleton] at this
          omega
theorem scanR_len (l : List UInt8) : (scanR l).1.length ≤ 257 := by
  unfold scanR
  split
  · simp
  · have := scanF_len l 257 [] 0
    simpa using this
end Go.Proofs.YtfneikldnccepaaDoor.Z
namespace Go.Proofs.YtfneikldnccepaaDoor
open Go.RowKit Go.Shelf
open Z
set_option maxRecDepth 100000 in
set_option maxHeartbeats 2000000 in
theorem l7_LexerScans {s : ByteArray} (hs : s.size ≤ maxLen) (w : World) : Calls Tryd.prog 3 #[.string s] w fun e w' => e = .returned (.bool true) ∧ Gr w w' := by
  have AW := Lib.hid (fun w => l7_awake w)
  unfold maxLen at hs
  have A := Lib.hid (fun w => lx_Scan s w)
  have B := Lib.hid (fun w => r7_Scan s w)
  have hlen := scanR_len s.data.toList
  generalize scanR s.data.toList = V at *
  obtain ⟨L, at_, er⟩ := V
  simp only at A B hlen
  have q1 : (at_ == at_) = true := by simp
  have q2 : (er == er) = true := by simp
  by_cases h : 700 < s.size ∧ s.size ≤ 4096
  · obtain ⟨h1, h2⟩ := h
    go_enter Tryd.func3, Tryd.ntmps3
    go_wp2_with fail
    refine (AW.out _).mono ?_; rintro e w1 ⟨rfl, hg⟩
    have HG := Lib.hid hg
    clear hg
    go_wp2
    go_ret
    exact ⟨rfl, HG.out⟩
  · have hor : s.size ≤ 700 ∨ 4096 < s.size := by omega
    clear h
    have h2 : s.size ≤ 700 → s.size ≤ 700 := id
    clear h2
    rcases hor with h1 | h1
    · go_enter Tryd.func3, Tryd.ntmps3
      go_wp2_with fail
      refine (A.out _).mono ?_; rintro e w1 ⟨v, rfl, hv, hg⟩
      obtain ⟨a, ca, rfl, ht, -⟩ := hv.shape
      have HT := Lib.hid ht
      have HG := Lib.hid hg
      clear hg ht hv A
      go_wp2_with fail
      refine (B.out _).mono ?_; rintro e w2 ⟨v, rfl, hv, hg⟩
      obtain ⟨b, cb, rfl, hu, -⟩ := hv.shape
      have HU := Lib.hid hu
      have HT2 := Lib.hid (HT.out.gr hg)
      have HG2 := Lib.hid (Gr.trans HG.out hg)
      clear hg hu hv B HT HG
      go_wp2_with fail
      refine (AW.out _).mono ?_; rintro e w3 ⟨rfl, hg⟩
      have HE := Lib.hid (sl_SameTk (ca := ca) (cb := cb) (HT2.out.gr hg) (HU.out.gr hg) (by omega))
      have HG3 := Lib.hid (Gr.trans HG2.out hg)
      clear hg HT2 HU HG2
      go_wp2_with fail
      refine HE.out.mono ?_; rintro e w4 ⟨rfl, hg⟩
      have HG4 := Lib.hid (Gr.trans HG3.out hg)
      clear hg HE
      go_wp2
      go_ret
      exact ⟨rfl, HG4.out⟩
    · have h0 : 700 < s.size := by omega
      go_enter Tryd.func3, Tryd.ntmps3
      go_wp2_with fail
      refine (A.out _).mono ?_; rintro e w1 ⟨v, rfl, hv, hg⟩
      obtain ⟨a, ca, rfl, ht, -⟩ := hv.shape
      have HT := Lib.hid ht
      have HG := Lib.hid hg
      clear hg ht hv A
      go_wp2_with fail
      refine (B.out _).mono ?_; rintro e w2 ⟨v, rfl, hv, hg⟩
      obtain ⟨b, cb, rfl, hu, -⟩ := hv.shape
      have HU := Lib.hid hu
      have HT2 := Lib.hid (HT.out.gr hg)
      have HG2 := Lib.hid (Gr.trans HG.out hg)
      clear hg hu hv B HT HG
      go_wp2_with fail
      refine (AW.out _).mono ?_; rintro e w3 ⟨rfl, hg⟩
      have HE := Lib.hid (sl_SameTk (ca := ca) (cb := cb) (HT2.out.gr hg) (HU.out.gr hg) (by omega))
      have HG3 := Lib.hid (Gr.trans HG2.out hg)
      clear hg HT2 HU HG2
      go_wp2_with fail
      refine HE.out.mono ?_; rintro e w4 ⟨rfl, hg⟩
      have HG4 := Lib.hid (Gr.trans HG3.out hg)
      clear hg HE
      go_wp2
      go_ret
      exact ⟨rfl, HG4.out⟩
end Go.Proofs.YtfneikldnccepaaDoor
