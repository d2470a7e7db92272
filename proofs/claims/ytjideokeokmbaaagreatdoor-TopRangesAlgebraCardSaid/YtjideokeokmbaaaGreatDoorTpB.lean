/- T3: numbers that come one after the other. -/
import Derived.Test.YtjideokeokmbaaaGreatDoorTpA
set_option linter.unusedVariables false
set_option linter.unusedSimpArgs false
namespace Go.Proofs.YtjideokeokmbaaaGreatDoor
open Go.RowKit Go.Shelf
open Z

theorem nuE_len {l : List UInt8} (h : nuE l = 0) : l.length ≤ 8 := by
  unfold nuE at h
  by_cases hf : formN l = true
  · rw [if_pos hf] at h
    by_cases hc : l = [48] ∨ 4 < (before l).length ∨ 3 < (cutB l).length
    · rw [if_pos hc] at h; cases h
    · have h1 : ¬ 4 < (before l).length := fun e => hc (.inr (.inl e))
      have h2 : ¬ 3 < (cutB l).length := fun e => hc (.inr (.inr e))
      cases hd : dotted l
      · have := before_none hd
        rw [this] at h1; omega
      · have h3 : l.length ≤ (before l).length + 1 + (cutB l).length := by
          unfold cutB
          rw [if_pos hd]
          unfold before behind
          have := congrArg List.length (List.takeWhile_append_dropWhile (p := (· != 46)) (l := l))
          rw [List.length_append] at this
          rw [List.length_tail]; omega
        omega
  · rw [if_neg hf] at h; cases h
theorem str_back (s : ByteArray) : str s.data.toList = s := ba_ext (data_str _)
end Go.Proofs.YtjideokeokmbaaaGreatDoor
