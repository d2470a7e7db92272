/- Law 7: the reader's token. -/
import Derived.Test.YtlcpfhgobfjioaaDoorLxF
import Derived.Laws.ResultCell
set_option linter.unusedVariables false
set_option linter.unusedSimpArgs false
namespace Go.Proofs.YtlcpfhgobfjioaaDoor.Z
open Go
/-- the bytes from one place to another one -/
def cutL (l : List UInt8) (a b : Nat) : List UInt8 := (l.drop a).take (b - a)
/-- the text of a token -/
def txtK (kd : Int) (t : List UInt8) : List UInt8 := if kd = 0 ∧ Lib.hasPrefix t [34] = false then Lib.toLowerA t else t
abbrev Tk := Int × List UInt8 × Int
/-- a token behind the blanks at a place, the error, and how far the reader has come -/
def tokR (l : List UInt8) (k : Nat) : Tk × Int × Nat :=
  if (kindR l (skipB l k)).2.1 ≠ 0 then ((0, [], 0), (kindR l (skipB l k)).2.1, skipB l k)
  else (((kindR l (skipB l k)).1, txtK (kindR l (skipB l k)).1 (cutL l (skipB l k) (kindR l (skipB l k)).2.2), (skipB l k : Nat)), 0, (kindR l (skipB l k)).2.2)
theorem skipB_run (l : List UInt8) (k : Nat) : skipB l k = runK (fun c => c == 32) l k := rfl
theorem word_ascii {c : UInt8} (h : wordP c = true) : c.toNat < 128 := by
  unfold wordP letP isD at h
  simp at h
  rcases h with (h | h) | h
  · omega
  · omega
  · subst h; decide
theorem let_word {c : UInt8} (h : letP c = true) : wordP c = true := by unfold wordP; rw [h]; simp
/-- a word that is not in quotes is of letters, digits and underscores -/
theorem word_bytes {l : List UInt8} {k : Nat} (hk : k ≤ l.length) (h0 : (kindR l k).1 = 0) (he : (kindR l k).2.1 = 0) (hq : Lib.hasPrefix (cutL l k (kindR l k).2.2) [34] = false) : ∀ c ∈ cutL l k (kindR l k).2.2, wordP c = true := by
  unfold kindR at h0 he hq ⊢
  by_cases hl : k < l.length
  · rw [List.getElem?_eq_getElem hl] at h0 he hq ⊢
    simp only at h0 he hq ⊢
    by_cases h1 : letP l[k] = true
    · rw [if_pos h1] at hq ⊢
      simp only at hq ⊢
      intro c hc
      unfold cutL at hc
      have hr := runK_le (p := wordP) (l := l) (k := k + 1) (by omega)
      rw [List.drop_eq_getElem_cons hl, show runK wordP l (k + 1) - k = ((l.drop (k + 1)).takeWhile wordP).length + 1 by unfold runK at hr ⊢; omega, List.take_succ_cons] at hc
      rcases List.mem_cons.1 hc with rfl | hc
      · exact let_word h1
      · have ht : (l.drop (k + 1)).take ((l.drop (k + 1)).takeWhile wordP).length = (l.drop (k + 1)).takeWhile wordP := by
          conv => lhs; arg 2; rw [← List.takeWhile_append_dropWhile (p := wordP) (l := l.drop (k + 1))]
          exact List.take_left
        rw [ht] at hc
        exact List.all_eq_true.1 List.all_takeWhile c hc
    · rw [if_neg h1] at h0 he hq ⊢
      by_cases h2 : l[k] = 34
      · rw [if_pos h2] at h0 he hq ⊢
        exfalso
        by_cases h3 : l[runK plainP l (k + 1)]? = some 34
        · rw [if_pos h3] at hq
          have hr := runK_le (p := plainP) (l := l) (k := k + 1) (by omega)
          simp only at hq
          unfold cutL at hq
          rw [List.drop_eq_getElem_cons hl, h2, show runK plainP l (k + 1) + 1 - k = (runK plainP l (k + 1) - k) + 1 by omega, List.take_succ_cons] at hq
          simp [Lib.hasPrefix] at hq
        · rw [if_neg h3] at he; cases he
      · rw [if_neg h2] at h0 he
        by_cases h3 : isD l[k] = true
        · rw [if_pos h3] at h0; cases h0
        · rw [if_neg h3] at h0 he
          by_cases h4 : signP l[k] = true
          · rw [if_pos h4] at h0; cases h0
          · rw [if_neg h4] at he; cases he
  · rw [List.getElem?_eq_none (by omega)] at h0; cases h0
end Go.Proofs.YtlcpfhgobfjioaaDoor.Z
namespace Go.Proofs.YtlcpfhgobfjioaaDoor
open Go.RowKit Go.Shelf
open Z
/-- a fresh block may be stored -/
theorem Upd.fresh {b n o : Nat} {w0 w : World} (h : Upd b w0 w) (hn : w0.heap.size ≤ n) (v : Value) : Upd b w0 (w.setCell ⟨n, o, none⟩ v) :=
  ⟨fun _ hg hb => Below.setCell (h.1 _ hg hb) (Nat.le_trans hg.size hn) _, fun k hk hne => (Below.heap_setCell w _ v k (show k ≠ n by omega)).trans (h.2.1 k hk hne), by rw [World.size_setCell]; exact h.2.2⟩
theorem RdrAt.upd {w w' : World} {b c : Nat} {s : ByteArray} {k : Nat} (h : RdrAt w b s k) (hu : Upd c w w') (hne : b ≠ c) : RdrAt w' b s k := by
  have e := hu.2.1 b (cellLt h.c0) hne
  refine ⟨?_, ?_, ?_⟩
  · have := h.c0; unfold World.cell? at this ⊢; rw [e]; exact this
  · have := h.c1; unfold World.cell? at this ⊢; rw [e]; exact this
  · have := h.f1; unfold World.frozen? at this ⊢; rw [e]; exact this
theorem RdrAt.other {w : World} {b n o : Nat} {s : ByteArray} {k : Nat} (h : RdrAt w b s k) (hne : b ≠ n) (v : Value) : RdrAt (w.setCell ⟨n, o, none⟩ v) b s k :=
  h.upd (c := n) (Upd.set w v) hne
/-- a token in a block of its own -/
structure TB (w : World) (n : Nat) (kd : Int) (t : ByteArray) (at_ : Int) : Prop where
  c0 : w.cell? ⟨n, 0, none⟩ = some (.int .i64 kd)
  c1 : w.cell? ⟨n, 1, none⟩ = some (.string t)
  c2 : w.cell? ⟨n, 2, none⟩ = some (.int .i64 at_)
  f0 : w.frozen? ⟨n, 0, none⟩ = false
  f1 : w.frozen? ⟨n, 1, none⟩ = false
  f2 : w.frozen? ⟨n, 2, none⟩ = false
theorem TB.new (w : World) (kd : Int) (t : ByteArray) (at_ : Int) (ty : TypeId) : TB (w.alloc (.cells #[.int .i64 kd, .string t, .int .i64 at_] ty)) w.heap.size kd t at_ :=
  ⟨by rw [World.cell?_alloc_at _ _ _ _ rfl]; rfl, by rw [World.cell?_alloc_at _ _ _ _ rfl]; rfl, by rw [World.cell?_alloc_at _ _ _ _ rfl]; rfl, World.frozen?_alloc_at _ _ _ _ rfl, World.frozen?_alloc_at _ _ _ _ rfl, World.frozen?_alloc_at _ _ _ _ rfl⟩
theorem TB.upd {w w' : World} {b n : Nat} {kd : Int} {t : ByteArray} {at_ : Int} (h : TB w n kd t at_) (hu : Upd b w w') (hne : n ≠ b) : TB w' n kd t at_ := by
  have hl : n < w.heap.size := cellLt h.c0
  have e := hu.2.1 n hl hne
  refine ⟨?_, ?_, ?_, ?_, ?_, ?_⟩
  · have := h.c0; unfold World.cell? at this ⊢; rw [e]; exact this
  · have := h.c1; unfold World.cell? at this ⊢; rw [e]; exact this
  · have := h.c2; unfold World.cell? at this ⊢; rw [e]; exact this
  · have := h.f0; unfold World.frozen? at this ⊢; rw [e]; exact this
  · have := h.f1; unfold World.frozen? at this ⊢; rw [e]; exact this
  · have := h.f2; unfold World.frozen? at this ⊢; rw [e]; exact this
theorem TB.gr {w w' : World} {n : Nat} {kd : Int} {t : ByteArray} {at_ : Int} (h : TB w n kd t at_) (hg : Gr w w') : TB w' n kd t at_ :=
  h.upd (b := w.heap.size) (Upd.of_gr hg) (by have := cellLt h.c0; omega)
theorem TB.store {w : World} {n : Nat} {kd : Int} {t : ByteArray} {at_ : Int} (h : TB w n kd t at_) (kd' : Int) (t' : ByteArray) (at' : Int) :
    TB (((w.setCell ⟨n, 0, none⟩ (.int .i64 kd')).setCell ⟨n, 1, none⟩ (.string t')).setCell ⟨n, 2, none⟩ (.int .i64 at')) n kd' t' at' :=
  ⟨(World.cell?_setCell_other _ _ _ _ (by simp)).trans ((World.cell?_setCell_other _ _ _ _ (by simp)).trans (World.cell?_setCell_same _ _ _ h.c0)),
    (World.cell?_setCell_other _ _ _ _ (by simp)).trans (World.cell?_setCell_same _ _ _ ((World.cell?_setCell_other _ _ _ _ (by simp)).trans h.c1)),
    World.cell?_setCell_same _ _ _ ((World.cell?_setCell_other _ _ _ _ (by simp)).trans ((World.cell?_setCell_other _ _ _ _ (by simp)).trans h.c2)),
    by rw [World.frozen?_setCell, World.frozen?_setCell, World.frozen?_setCell]; exact h.f0, by rw [World.frozen?_setCell, World.frozen?_setCell, World.frozen?_setCell]; exact h.f1, by rw [World.frozen?_setCell, World.frozen?_setCell, World.frozen?_setCell]; exact h.f2⟩
set_option maxRecDepth 100000 in
set_option maxHeartbeats 1000000 in
theorem lx_isQuoted (s : ByteArray) (w : World) : Calls Tryd.prog 59 #[.string s] w fun e w' => e = .returned (.bool (Lib.hasPrefix s.data.toList [34])) ∧ w' = w := by
  have H := Lib.hid (Tryd.strings_HasPrefix s ⟨#[34]⟩ w)
  simp only [Array.toList] at H
  generalize Lib.hasPrefix s.data.toList [34] = q at *
  go_enter Tryd.func59, Tryd.ntmps59
  go_wp2_with fail
  refine H.out.mono ?_; rintro e w2 ⟨rfl, rfl⟩
  go_wp2
  go_ret
  exact ⟨rfl, rfl⟩
theorem cut_str {s : ByteArray} {a b : Nat} (hb : b ≤ s.size) : (s.extract a b).data.toList = cutL s.data.toList a b := by
  unfold cutL
  simp
end Go.Proofs.YtlcpfhgobfjioaaDoor
