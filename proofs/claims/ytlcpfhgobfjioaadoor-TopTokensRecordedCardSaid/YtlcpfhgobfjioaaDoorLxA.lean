/- Law 7: what the texts of the lexer share. -/
import Derived.Test.YtlcpfhgobfjioaaDoorNuB
import Derived.Test.YtlcpfhgobfjioaaDoorShelf
import Derived.Lib.IndexLaws
import Derived.Laws.EntriesVeiled
set_option linter.unusedVariables false
set_option linter.unusedSimpArgs false
namespace Go.Proofs.YtlcpfhgobfjioaaDoor.Z
open Go
/-- the first place from k on where no blank stands -/
def skipB (l : List UInt8) (k : Nat) : Nat := k + ((l.drop k).takeWhile (· == 32)).length
theorem skipB_blank {l : List UInt8} {k : Nat} (hk : k < l.length) (h : l[k] = 32) : skipB l k = skipB l (k + 1) := by
  unfold skipB
  rw [List.drop_eq_getElem_cons hk, List.takeWhile_cons, h]
  simp; omega
theorem skipB_stop {l : List UInt8} {k : Nat} (h : ∀ hk : k < l.length, l[k] ≠ 32) : skipB l k = k := by
  unfold skipB
  by_cases hk : k < l.length
  · rw [List.drop_eq_getElem_cons hk, List.takeWhile_cons, if_neg (by simpa using h hk)]; rfl
  · rw [List.drop_of_length_le (by omega)]; rfl
theorem skipB_le {l : List UInt8} {k : Nat} (hk : k ≤ l.length) : k ≤ skipB l k ∧ skipB l k ≤ l.length := by
  unfold skipB
  have := (List.takeWhile_sublist (l := l.drop k) (· == 32)).length_le
  rw [List.length_drop] at this
  omega
theorem skipB_skip {l : List UInt8} {k : Nat} (hk : k ≤ l.length) : skipB l (skipB l k) = skipB l k := by
  have key : ∀ n k, l.length - k ≤ n → k ≤ l.length → skipB l (skipB l k) = skipB l k := by
    intro n
    induction n with
    | zero =>
      intro k h hk
      have : skipB l k = k := skipB_stop fun h' => by omega
      rw [this, this]
    | succ n ih =>
      intro k h hk
      by_cases hkl : k < l.length
      · by_cases hb : l[k] = 32
        · rw [skipB_blank hkl hb]; exact ih (k + 1) (by omega) (by omega)
        · have : skipB l k = k := skipB_stop fun _ => hb
          rw [this, this]
      · have : skipB l k = k := skipB_stop fun h' => by omega
        rw [this, this]
  exact key _ k (Nat.le_refl _) hk
end Go.Proofs.YtlcpfhgobfjioaaDoor.Z
namespace Go.Proofs.YtlcpfhgobfjioaaDoor
open Go.RowKit Go.Shelf
open Z

/-- nothing but the block b has changed -/
def Upd (b : Nat) (w w' : World) : Prop := (∀ w0, Gr w0 w → w0.heap.size ≤ b → Gr w0 w') ∧ (∀ k, k < w.heap.size → k ≠ b → w'.heap[k]? = w.heap[k]?) ∧ w.heap.size ≤ w'.heap.size
theorem Upd.refl (b : Nat) (w : World) : Upd b w w := ⟨fun _ h _ => h, fun _ _ _ => rfl, Nat.le_refl _⟩
theorem Upd.trans {b : Nat} {w w1 w2 : World} (h : Upd b w w1) (k : Upd b w1 w2) : Upd b w w2 :=
  ⟨fun w0 hg hb => k.1 w0 (h.1 w0 hg hb) hb, fun j hj hne => (k.2.1 j (by have := h.2.2; omega) hne).trans (h.2.1 j hj hne), Nat.le_trans h.2.2 k.2.2⟩
theorem Upd.of_gr {b : Nat} {w w' : World} (h : Gr w w') : Upd b w w' := ⟨fun _ hg _ => Gr.trans hg h, fun k hk _ => h.block k hk, h.size⟩
theorem Upd.set {b o : Nat} (w : World) (v : Value) : Upd b w (w.setCell ⟨b, o, none⟩ v) :=
  ⟨fun _ hg hb => Below.setCell hg hb _, fun k _ hne => Below.heap_setCell w _ v k hne, by rw [World.size_setCell]; exact Nat.le_refl _⟩
/-- a reader: its text, and the place up to which it has read -/
structure RdrAt (w : World) (b : Nat) (s : ByteArray) (k : Nat) : Prop where
  c0 : w.cell? ⟨b, 0, none⟩ = some (.string s)
  c1 : w.cell? ⟨b, 1, none⟩ = some (.int .i64 (k : Nat))
  f1 : w.frozen? ⟨b, 1, none⟩ = false
def rdrN (w : World) (b : Nat) : Nat := match w.cell? ⟨b, 1, none⟩ with
  | some (.int .i64 j) => j.toNat
  | _ => 0
theorem RdrAt.pos {w : World} {b : Nat} {s : ByteArray} {k : Nat} (h : RdrAt w b s k) : rdrN w b = k := by unfold rdrN; rw [h.c1]; simp
theorem RdrAt.gr {w w' : World} {b : Nat} {s : ByteArray} {k : Nat} (h : RdrAt w b s k) (hg : Gr w w') : RdrAt w' b s k :=
  ⟨cell_gr hg h.c0, cell_gr hg h.c1, (Below.frozen hg (p := ⟨b, 1, none⟩) (cellLt h.c1)).trans h.f1⟩
theorem RdrAt.set {w : World} {b : Nat} {s : ByteArray} {k : Nat} (h : RdrAt w b s k) (j : Nat) : RdrAt (w.setCell ⟨b, 1, none⟩ (.int .i64 (j : Nat))) b s j :=
  ⟨(World.cell?_setCell_other _ _ _ _ (by simp)).trans h.c0, World.cell?_setCell_same _ _ _ h.c1, by rw [World.frozen?_setCell]; exact h.f1⟩
end Go.Proofs.YtlcpfhgobfjioaaDoor
