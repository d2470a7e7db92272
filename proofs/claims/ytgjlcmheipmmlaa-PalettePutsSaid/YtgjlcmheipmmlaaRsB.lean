/- Rows of structs: blocks that hold one element, stores into them, results that lie in them. -/
import Derived.Test.YtgjlcmheipmmlaaRsA
import Derived.Laws.ResultCell
set_option linter.unusedVariables false
set_option linter.unusedSimpArgs false
namespace Go.Proofs.Ytgjlcmheipmmlaa
open Go.RowKit
variable {α : Type}
theorem heap_row {w : World} {g k : Nat} {c : Array Value} (h : k ≠ g) : (w.setRow g c).heap[k]? = w.heap[k]? := by
  simp only [World.setRow, Array.getElem?_modify]
  rw [if_neg (fun e => h e.symm)]
theorem Gr.row {w w' : World} (h : Gr w w') {g : Nat} (hb : w.heap.size ≤ g) (c : Array Value) : Gr w (w'.setRow g c) := by
  have hs : (w'.setRow g c).heap.size = w'.heap.size := by simp [World.setRow]
  exact ⟨h.os, h.tape, h.output, by rw [hs]; exact h.size, fun k hk => (heap_row (by omega)).trans (h.block k hk)⟩
/-- block g holds one element -/
def Blk (S : Sh α) (w : World) (g : Nat) (x : α) : Prop := w.heap[g]? = some (.cells (S.enc x).toArray S.t (0, 0))
theorem Blk.lt {S : Sh α} {w : World} {g : Nat} {x : α} (h : Blk S w g x) : g < w.heap.size := (Array.getElem?_eq_some_iff.1 h).1
theorem Blk.gr {S : Sh α} {w w' : World} {g : Nat} {x : α} (h : Blk S w g x) (hg : Gr w w') : Blk S w' g x := (hg.block g h.lt).trans h
theorem Blk.row {S : Sh α} {w : World} {g : Nat} {x : α} (h : Blk S w g x) (y : α) : Blk S (w.setRow g (S.enc y).toArray) g y := setRow_heap w g _ _ _ _ h
theorem Blk.other {S : Sh α} {w : World} {g k : Nat} {x : α} (h : Blk S w g x) (c : Array Value) (hk : g ≠ k) : Blk S (w.setRow k c) g x := (heap_row hk).trans h
theorem Blk.new (S : Sh α) (w : World) (x : α) : Blk S (w.alloc (.cells (S.enc x).toArray S.t)) w.heap.size x := heap_alloc_last w _
theorem Blk.cell {S : Sh α} {w : World} {g : Nat} {x : α} (h : Blk S w g x) {k : Nat} {v : Value} (hk : (S.enc x)[k]? = some v) : w.cell? ⟨g, k, none⟩ = some v := by
  rw [cell_of_row _ _ _ _ _ _ h]; simpa using hk
theorem Sh.info_size (S : Sh α) : (Try.prog.info? S.t).map (fun i => i.size) = some S.sz := by
  obtain ⟨i, hi, -, hs, -⟩ := S.hinfo
  rw [hi]; simp [hs]
theorem run_storeS (S : Sh α) {w : World} {g : Nat} {x : α} (y : α) (h : Blk S w g x) : (storeVar S.t ⟨g, 0, none⟩ (.agg (S.enc y).toArray)).run Try.prog w = .ok () (w.setRow g (S.enc y).toArray) :=
  run_storeVar_row w g _ _ _ _ h (by rw [S.info_size]; simp [S.hlen]) (by simp [S.hlen]) (by rw [Array.all_eq_true']; intro u hu; exact S.hone y u (by simpa using hu))
theorem run_loadS (S : Sh α) {fs : Array Field} (hu : Try.prog.underlying S.t = some (.struct fs)) {w : World} {g : Nat} {x : α} (h : Blk S w g x) : (loadVar S.t ⟨g, 0, none⟩).run Try.prog w = .ok (.agg (S.enc x).toArray) w :=
  run_loadVar_row w g _ _ _ (0, 0) _ h hu rfl (by rw [S.info_size]; simp [S.hlen])
theorem wpl_storeS (S : Sh α) {ops : Array Oper} {rest : List Oper} {o : Oper} {a : Act} {Q : Exit → Act → World → Prop} {w : World} {p q : Operand} {g : Nat} {x : α} (y : α) (hg : o.guard = none) (ho : o.op = .store S.t p q) (hx : a.eval p = .pointer (some ⟨g, 0, none⟩)) (hy : a.eval q = .agg (S.enc y).toArray) (hP : Blk S w g x)
    (hK : wpList Try.prog ops Q rest (a.put o.dst undef) (w.setRow g (S.enc y).toArray)) : wpList Try.prog ops Q (o :: rest) a w := by
  refine wpList_plain hg fun K hK' => ?_
  unfold Oper.wp execOp
  rw [ho]
  simp only [hx, hy, Instr.storeAt, Instr.sureAddr, Sem.run_bind, Sem.run_pure, Result.andThen, run_storeS S y hP]
  rw [Oper.upon_skip]
  exact hK' _ _ hK
theorem wp_storeS (S : Sh α) {o : Oper} {a : Act} {w : World} {K : Act → World → Prop} {Q : Exit → Act → World → Prop} {p q : Operand} {g : Nat} {x : α} (y : α) (ho : o.op = .store S.t p q) (hx : a.eval p = .pointer (some ⟨g, 0, none⟩)) (hy : a.eval q = .agg (S.enc y).toArray) (hP : Blk S w g x)
    (hK : K (a.put o.dst undef) (w.setRow g (S.enc y).toArray)) : o.wp Try.prog a w K Q := by
  unfold Oper.wp execOp
  rw [ho]
  simp only [hx, hy, Instr.storeAt, Instr.sureAddr, Sem.run_bind, Sem.run_pure, Result.andThen, run_storeS S y hP]
  rw [Oper.upon_skip]
  exact hK
theorem Own.rowk {S : Sh α} {B : Nat} {w : World} {u : Value} {xs : List α} (h : Own S B w u xs) {g : Nat} (hg : g < B) (c : Array Value) : Own S B (w.setRow g c) u xs := by
  refine World.ownsRow.kept (row := some g) h ⟨rfl, rfl, rfl, by simp [World.setRow], fun k hk hne => heap_row (fun e => hne (by rw [e]))⟩ ?_
  rcases hv : u.ownBlock with _ | k
  · exact .inl rfl
  · refine .inr (fun e => ?_)
    have h2 := (World.ownsRow.lt h k hv).1
    have : k = g := Option.some.inj e
    omega
end Go.Proofs.Ytgjlcmheipmmlaa
