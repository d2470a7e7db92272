/- The law's helpers of layer 2: awake and short. -/
import Derived.Test.YtffifpinnhaloaaGreatDoorRatF
set_option linter.unusedVariables false
set_option linter.unusedSimpArgs false
namespace Go.Proofs.YtffifpinnhaloaaGreatDoor
open Go.RowKit Go.Shelf
open Z

theorem mix_sh {k k' j : Nat} {a b w : Rat} (ha : Sh k a) (hb : Sh k' b) (hw : Sh j w) (hk : k + k' + j + 2 + k ≤ 4096) : mixR (RT a) (RT b) (RT w) = (RT (a + (b - a) * w), 0) := by
  have := ha.pos; have := hb.pos; have := hw.pos
  have ia := ha.inR (by omega)
  have ib := hb.inR (by omega)
  have iw := hw.inR (by omega)
  have hd : Sh (k' + k + 1) (b - a) := hb.sub ha
  have hm : Sh (k' + k + 1 + j) ((b - a) * w) := hd.mul hw
  have d : op2 (RT b) (RT a) subR = (RT (b - a), 0) := by rw [op2_ok ib ia, subR_sh hb ha (by omega)]
  have m : op2 (RT (b - a)) (RT w) mulR = (RT ((b - a) * w), 0) := by rw [op2_ok (hd.inR (by omega)) iw, mulR_sh hd hw (by omega)]
  have r : op2 (RT a) (RT ((b - a) * w)) addR = (RT (a + (b - a) * w), 0) := by rw [op2_ok ia (hm.inR (by omega)), addR_sh ha hm (by omega)]
  have h := mixR_then (s := RT a) (t := RT b) (u := RT w) (three_zero.2 ⟨chkS_RT ia, chkS_RT ib, chkS_RT iw⟩) (RT (b - a), 0) (RT ((b - a) * w), 0) (RT (a + (b - a) * w), 0) d m r
  rw [h]; rfl
theorem sh_mix {k k' j : Nat} {a b w : Rat} (ha : Sh k a) (hb : Sh k' b) (hw : Sh j w) : Sh (k + (k' + k + 1 + j) + 1) (a + (b - a) * w) := ha.add ((hb.sub ha).mul hw)
theorem lit_mixR {s t u v : ByteArray} (hs : chkS s = 0) (ht : chkS t = 0) (hu : chkS u = 0) (hv : chkS v = 0) (ls : s.size ≤ 100) (lt : t.size ≤ 100) (lu : u.size ≤ 100) (he : rv s + (rv t - rv s) * rv u = rv v) : mixR s t u = (v, 0) := by
  obtain ⟨a, rfl, ha, ea⟩ := text_sh hs ls
  obtain ⟨b, rfl, hb, eb⟩ := text_sh ht lt
  obtain ⟨w, rfl, hw, ew⟩ := text_sh hu lu
  rw [mix_sh ha hb hw (by omega), ← ea, ← eb, ← ew, he, RT_rv hv]
theorem sh_intQ {n : Int} (h : isI n) : Sh 19 ((n : Int) : Rat) := by
  have h1 := h.1
  have h2 := h.2
  exact ⟨by rw [Rat.num_intCast]; exact (nDigits_le_iff _ 19 (by omega)).2 (by omega), by rw [Rat.den_intCast, Lib.nDigits_small (by decide)]; omega⟩
theorem clamp_sh {k : Nat} {a : Rat} {low high : Int} (ha : Sh k a) (hl : isI low) (hh : isI high) (hk : k ≤ 4000) (hle : low ≤ high) :
    clampR (RT a) low high = (if cmpQ a (low : Rat) < 0 then Tx low else if 0 < cmpQ a (high : Rat) then Tx high else RT a, 0) := by
  have ia := ha.inR (by omega)
  have e1 := cmp2_sh ha (sh_intQ hl) (by omega)
  have e2 := cmp2_sh ha (sh_intQ hh) (by omega)
  rw [RT_int] at e1 e2
  unfold clampR
  rw [if_neg (fun e => e (chkS_RT ia)), if_neg (by omega), e1, e2]
  simp only [ne_eq, not_true_eq_false, if_false]
  split
  · rfl
  · split <;> rfl
theorem lit_clampR {s u : ByteArray} {low high : Int} (hs : chkS s = 0) (ls : s.size ≤ 100) (hl : isI low) (hh : isI high) (hle : low ≤ high) (h1 : ¬ cmpQ (rv s) (low : Rat) < 0) (h2 : 0 < cmpQ (rv s) (high : Rat)) (hu : Tx high = u) : clampR s low high = (u, 0) := by
  obtain ⟨a, rfl, ha, ea⟩ := text_sh hs ls
  rw [ea] at h1 h2
  rw [clamp_sh ha hl hh (by omega) hle, if_neg h1, if_pos h2, hu]
theorem RetG.of {w0 : World} {f : FuncId} {args : Array Value} {v : Value} (h : ∀ w1, Gr w0 w1 → Ret w1 f args v) : RetG w0 f args v := fun w hg => h w hg w (Gr.refl w)
section
variable {w0 : World} (htab : Tab w0) (hmx : Mx w0)
include htab hmx
end
end Go.Proofs.YtffifpinnhaloaaGreatDoor
