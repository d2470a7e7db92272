/- T3: numbers between numbers. -/
import Derived.Test.YtjideokeokmbaaaGreatDoorTpB
set_option linter.unusedVariables false
set_option linter.unusedSimpArgs false
namespace Go.Proofs.YtjideokeokmbaaaGreatDoor
open Go.RowKit Go.Shelf
open Z

def sv (l : List ByteArray) : List Value := l.map Value.string
theorem sv_snoc (l : List ByteArray) (s : ByteArray) : sv (l ++ [s]) = sv l ++ [.string s] := by simp [sv]
def OwnS (B : Nat) (w : World) (v : Value) (l : List ByteArray) : Prop := w.ownsRow B 9 1 v l.length (sv l)
theorem OwnS.gr {B : Nat} {w w' : World} {v : Value} {l : List ByteArray} (h : OwnS B w v l) (hg : Gr w w') : OwnS B w' v l :=
  World.ownsRow.kept h (⟨hg.os, hg.tape, hg.output, hg.size, fun i hi _ => hg.block i hi⟩ : w.grownBy w' none) (by cases hv : v.ownBlock with | none => exact .inl rfl | some k => exact .inr (by simp))
theorem OwnS.one (w : World) (B : Nat) (s : ByteArray) (hB : B ≤ w.heap.size) : OwnS B (w.alloc (.cells #[.string s] 9)) (.slice (some ⟨w.heap.size, 0, none⟩) 1 1) [s] :=
  World.ownsRow_lit w #[.string s] 1 hB (by unfold maxLen; omega) rfl
theorem OwnS.shape {B : Nat} {w : World} {v : Value} {l : List ByteArray} (h : OwnS B w v l) : ∃ a cap, v = .slice a l.length cap ∧ RdS w a l ∧ l.length ≤ cap ∧ cap ≤ maxLen := by
  rcases id h.2 with ⟨rfl, h0⟩ | ⟨g, cap, cur, rfl, -, -, hn1, hn2, -⟩
  · have : l = [] := List.eq_nil_of_length_eq_zero h0
    subst this
    exact ⟨none, 0, rfl, fun k hk => absurd hk (by simp), by simp, by unfold maxLen; omega⟩
  · refine ⟨_, cap, rfl, fun k hk => ⟨g, 0, rfl, ?_⟩, hn1, hn2⟩
    have := World.ownsRow.cells h (g := g) rfl k (.string l[k]) (by simp [sv, hk])
    rw [WideShapes.add_plain] at this
    simpa using this
theorem push_s {i : TypeInfo} (hi : Tryz.prog.info? 9 = some i) (hz0 : i.zero = some (.string ⟨#[]⟩)) (hz1 : i.size = 1) (hz2 : i.bytes = 16)
    {ops : Array Oper} {rest : List Oper} {o : Oper} {a : Act} {Q : Exit → Act → World → Prop} {w0 w : World} (hgd : o.guard = none) (s x : Operand)
    (ho : o.op = .call { callee := .builtin .append, args := #[s, x], argTypes := #[67, 67] }) (v : Value) (xs : List ByteArray) (hs : a.eval s = v) (hown : OwnS w0.heap.size w v xs) (hg : Gr w0 w)
    (f : ByteArray) (N : Nat) (hN : N = w.heap.size) (hx : a.eval x = .slice (some ⟨N, 0, none⟩) 1 1) (hlen : xs.length ≤ 3000000)
    (h : ∀ v' w', Hid (OwnS w0.heap.size w' v' (xs ++ [f])) → Gr w0 w' → wpList Tryz.prog ops Q rest (a.put o.dst v') w') :
    wpList Tryz.prog ops Q (o :: rest) a (w.alloc (.cells #[.string f] 9)) := by
  have hgs := hg.size
  subst hN
  refine wpList_append_own _ hgd s x _ ho w0.heap.size 9 i (.string ⟨#[]⟩) 1 16 Tryz.underlying67 hi hz0 hz1 hz2 rfl (by decide) v xs.length (sv xs) hs (World.ownsRow.alloc hown _) ⟨w.heap.size, 0, none⟩ 1 1 [.string f] hx rfl
    (fun j u hj => ?_) (one1 _ rfl) (by unfold maxLen; omega) (by omega) (by simp; omega) (fun v' w' hown' hgrow _ => h v' w' ?_ (Below.grown (hg.alloc _) hgrow (by simp; omega) (fun k hk => (World.ownsRow.lt hown k hk).1)))
  · rw [WideShapes.add_plain]
    match j, hj with
    | 0, hj => simp only [List.getElem?_cons_zero, Option.some.injEq] at hj; subst hj; rw [World.cell?_alloc_at _ _ _ _ rfl]; rfl
    | j + 1, hj => simp at hj
  · show World.ownsRow _ _ _ _ _ _ _
    rw [sv_snoc, List.length_append]; exact hown'
/-- numbers in ascending order, all of them below y -/
structure Asc (L : List ByteArray) (y : Nat) : Prop where
  pos : 1 ≤ L.length
  each : ∀ s ∈ L, nuE s.data.toList = 0 ∧ s.size ≤ 8
  step : ∀ j, j < L.length → stepS L j = 0
  last : ∀ h : L.length - 1 < L.length, nuV (L[L.length - 1]'h).data.toList < y
theorem stepS_app {L M : List ByteArray} {j : Nat} (h : j < L.length) : stepS (L ++ M) j = stepS L j := by
  rw [stepS_at (by rw [List.length_append]; omega), stepS_at h]
  simp only [List.getElem_append_left h, List.getElem_append_left (show j - 1 < L.length by omega)]
theorem stepS_new {L : List ByteArray} {s : ByteArray} (h : 1 ≤ L.length) (he : nuE s.data.toList = 0) (hv : ∀ h : L.length - 1 < L.length, nuV (L[L.length - 1]'h).data.toList < nuV s.data.toList) : stepS (L ++ [s]) L.length = 0 := by
  rw [stepS_at (by simp)]
  have e1 : (L ++ [s])[L.length]'(by simp) = s := by simp
  have e2 : (L ++ [s])[L.length - 1]'(by simp; omega) = L[L.length - 1]'(by omega) := List.getElem_append_left (by omega)
  simp only [e1, e2]
  rw [if_neg (by simp [he]), if_neg (by omega), if_neg (by have := hv (by omega); omega)]
theorem Asc.push {L : List ByteArray} {y : Nat} {s : ByteArray} (h : Asc L y) (he : nuE s.data.toList = 0) (hs : s.size ≤ 8) (h1 : ∀ h : L.length - 1 < L.length, nuV (L[L.length - 1]'h).data.toList < nuV s.data.toList) (h2 : nuV s.data.toList < y) : Asc (L ++ [s]) y := by
  refine ⟨by simp, fun x hx => ?_, fun j hj => ?_, fun hh => ?_⟩
  · rcases List.mem_append.1 hx with hx | hx
    · exact h.each x hx
    · simp at hx; subst hx; exact ⟨he, hs⟩
  · rw [List.length_append] at hj
    by_cases hjl : j < L.length
    · rw [stepS_app hjl]; exact h.step j hjl
    · have : j = L.length := by simp at hj; omega
      subst this
      exact stepS_new h.pos he h1
  · have e : (L ++ [s])[(L ++ [s]).length - 1]'hh = s := by simp
    rw [e]; exact h2
theorem Asc.done {L : List ByteArray} {s : ByteArray} (h : Asc L (nuV s.data.toList)) (he : nuE s.data.toList = 0) : ascE (L ++ [s]) = 0 := by
  refine ascE_ok fun j hj => ?_
  rw [List.length_append] at hj
  by_cases hjl : j < L.length
  · rw [stepS_app hjl]; exact h.step j hjl
  · have : j = L.length := by simp at hj; omega
    subst this
    exact stepS_new h.pos he h.last
theorem Asc.first {s : ByteArray} {y : Nat} (he : nuE s.data.toList = 0) (hs : s.size ≤ 8) (h : nuV s.data.toList < y) : Asc [s] y := by
  refine ⟨by simp, fun x hx => by simp at hx; subst hx; exact ⟨he, hs⟩, fun j hj => ?_, fun hh => by simpa using h⟩
  have : j = 0 := by simp at hj; omega
  subst this
  rw [stepS_at (by simp)]
  simp [he]
end Go.Proofs.YtjideokeokmbaaaGreatDoor
