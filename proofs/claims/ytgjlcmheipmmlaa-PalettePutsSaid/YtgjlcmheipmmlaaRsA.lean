/- Rows of structs in memory, for any shape of element: what the walks of laws 15 on share. -/
import Derived.Test.YtgjlcmheipmmlaaRows
import Derived.WalkKit
import Derived.WalkSpells
import Derived.WalkLawsBesides
import Derived.Lib.Hide
import Derived.Lib.AppendZerosOnto
import Derived.Outline
import Derived.Below
import Derived.LoopN
import Derived.Deep.QuietTactic
import Derived.Deep.OwnRows
import Derived.OwnWalk
import Derived.Laws.AppendOwn
import Derived.Laws.AppendOwnNone
import Derived.Deep.RegionHeld3
import Derived.Deep.WholeRow
import Derived.Laws.Rows
set_option linter.unusedVariables false
set_option linter.unusedSimpArgs false
namespace Go.Proofs.Ytgjlcmheipmmlaa
open Go.RowKit
theorem Try.underlyingA (n : Nat) : Try.prog.underlying n = Try.prog.underlying n := rfl
/-- the world has grown: what was there is as it was -/
def Gr (w w' : World) : Prop := Below w.heap.size w w'
theorem Gr.refl (w : World) : Gr w w := Below.refl _ _
theorem Gr.trans {a b c : World} (h : Gr a b) (k : Gr b c) : Gr a c := Below.trans h (Below.mono k h.size)
theorem Gr.drew {a w : World} (h : Gr a w) : Gr a w.drew := Below.drew h
theorem Gr.drewN {a w : World} (h : Gr a w) (n : Nat) : Gr a (w.drewN n) := h.trans (below_drewN (Gr.refl w) n)
theorem Gr.alloc {a w : World} (h : Gr a w) (o : Obj) : Gr a (w.alloc o) := Below.alloc h h.size o
theorem Gr.set {w w' : World} (h : Gr w w') {g o : Nat} (hb : w.heap.size ≤ g) (v : Value) : Gr w (w'.setCell ⟨g, o, none⟩ v) := Below.setCell h hb _
theorem ret_int {k : IntKind} {a b : Int} (h : a = b) : Ending.returned (.int k a) = Ending.returned (.int k b) := by rw [h]
theorem ret_bool {a b : Bool} (h : a = b) : Ending.returned (.bool a) = Ending.returned (.bool b) := by rw [h]
theorem cellLt {w : World} {b o : Nat} {v : Value} (hc : w.cell? ⟨b, o, none⟩ = some v) : b < w.heap.size := by
  by_cases hb : b < w.heap.size
  · exact hb
  · exfalso
    have : w.heap[b]? = none := Array.getElem?_eq_none (by omega)
    simp [World.cell?, this] at hc
theorem gr_cell {w w' : World} (h : Gr w w') {b o : Nat} {v : Value} (hc : w.cell? ⟨b, o, none⟩ = some v) : w'.cell? ⟨b, o, none⟩ = some v :=
  (Below.cell h (p := ⟨b, o, none⟩) (cellLt hc)).trans hc
theorem ownsRow_gr {w w' : World} {base : Nat} {e : TypeId} {size : Nat} {v : Value} {n : Nat} {xs : List Value} (h : w.ownsRow base e size v n xs) (hg : Gr w w') : w'.ownsRow base e size v n xs :=
  h.kept ⟨hg.os, hg.tape, hg.output, hg.size, fun k hk _ => hg.block k hk⟩ (row := none) (by cases hv : v.ownBlock <;> simp)
/-- the cells of a fresh block -/
theorem fresh (w : World) (cs : List Value) (t : TypeId) {k : Nat} {v : Value} (h : cs[k]? = some v) : (w.alloc (.cells cs.toArray t)).cell? ⟨w.heap.size, k, none⟩ = some v := by
  rw [cell_of_row _ _ _ _ _ _ (heap_alloc_last w (.cells cs.toArray t))]; simpa using h
/-- how the elements of a slice lie in memory -/
structure Sh (α : Type) where
  enc : α → List Value
  sz : Nat
  t : TypeId
  st : TypeId
  zero : Value
  bytes : Nat
  hinfo : ∃ i : TypeInfo, Try.prog.info? t = some i ∧ i.zero = some zero ∧ i.size = sz ∧ i.bytes = bytes
  hund : Try.prog.underlying st = some (.slice t)
  hlen : ∀ x, (enc x).length = sz
  hone : ∀ x, ∀ u ∈ enc x, u.oneCell' = true
  hz : zero.cells.size = sz
  hsz : 0 < sz
  hb : bytes ≤ 1000
variable {α : Type}
def Sh.all (S : Sh α) (l : List α) : List Value := l.flatMap S.enc
theorem Sh.all_app (S : Sh α) (l m : List α) : S.all (l ++ m) = S.all l ++ S.all m := by simp [Sh.all]
theorem Sh.all_len (S : Sh α) (l : List α) : (S.all l).length = l.length * S.sz := by
  induction l with
  | nil => simp [Sh.all]
  | cons a r ih => rw [show S.all (a :: r) = S.enc a ++ S.all r from rfl, List.length_append, ih, S.hlen, List.length_cons, Nat.add_mul, Nat.one_mul, Nat.add_comm]
theorem Sh.all_one (S : Sh α) {l : List α} : ∀ u ∈ S.all l, u.oneCell' = true := fun u hu => by
  obtain ⟨m, -, hm⟩ := List.mem_flatMap.1 hu
  exact S.hone m u hm
theorem Sh.all_get (S : Sh α) : ∀ (l : List α) (k : Nat) (h : k < l.length) (j : Nat), j < S.sz → (S.all l)[k * S.sz + j]? = (S.enc l[k])[j]?
  | [], _, h, _, _ => absurd h (by simp)
  | x :: r, 0, _, j, hj => by
    show (S.enc x ++ S.all r)[0 * S.sz + j]? = _
    rw [Nat.zero_mul, Nat.zero_add, List.getElem?_append_left (by rw [S.hlen]; exact hj)]; rfl
  | x :: r, k + 1, h, j, hj => by
    have ih := Sh.all_get S r k (by simpa using h) j hj
    show (S.enc x ++ S.all r)[(k + 1) * S.sz + j]? = _
    rw [List.getElem?_append_right (by rw [S.hlen, Nat.add_mul]; omega), S.hlen, show (k + 1) * S.sz + j - S.sz = k * S.sz + j by rw [Nat.add_mul, Nat.one_mul]; omega, ih]; rfl
/-- a list lies behind an address -/
def Rd (S : Sh α) (w : World) (a : Option Addr) (l : List α) : Prop := ∀ k (h : k < l.length), ∃ b o, a = some ⟨b, o, none⟩ ∧ ∀ j v, (S.enc l[k])[j]? = some v → w.cell? ⟨b, o + k * S.sz + j, none⟩ = some v
theorem Rd.gr {S : Sh α} {w w' : World} {a : Option Addr} {l : List α} (h : Rd S w a l) (hg : Gr w w') : Rd S w' a l := fun k hk => by
  obtain ⟨b, o, h1, h2⟩ := h k hk
  exact ⟨b, o, h1, fun j v hj => gr_cell hg (h2 j v hj)⟩
theorem Rd.nil (S : Sh α) (w : World) (a : Option Addr) : Rd S w a [] := fun k hk => absurd hk (by simp)
theorem Rd.take {S : Sh α} {w : World} {a : Option Addr} {l : List α} (h : Rd S w a l) (n : Nat) : Rd S w a (l.take n) := fun k hk => by
  have hk2 : k < l.length := by rw [List.length_take] at hk; omega
  obtain ⟨b, o, h1, h2⟩ := h k hk2
  exact ⟨b, o, h1, by rw [List.getElem_take]; exact h2⟩
theorem Rd.drop {S : Sh α} {w : World} {b o n : Nat} {l : List α} (h : Rd S w (some ⟨b, o, none⟩) l) : Rd S w (some ⟨b, o + n * S.sz, none⟩) (l.drop n) := fun k hk => by
  rw [List.length_drop] at hk
  obtain ⟨b', o', h1, h2⟩ := h (n + k) (by omega)
  cases h1
  refine ⟨b, _, rfl, fun j v hj => ?_⟩
  rw [List.getElem_drop] at hj
  have := h2 j v hj
  rwa [Nat.add_mul, ← Nat.add_assoc] at this
theorem Rd.new (S : Sh α) (w : World) (l : List α) : Rd S (w.alloc (.cells (S.all l).toArray S.t)) (some ⟨w.heap.size, 0, none⟩) l := fun k hk => by
  refine ⟨w.heap.size, 0, rfl, fun j v hj => ?_⟩
  have hjs : j < S.sz := by
    have := (List.getElem?_eq_some_iff.1 hj).1
    rwa [S.hlen] at this
  rw [Nat.zero_add]
  exact fresh w _ _ (by rw [S.all_get l k hk j hjs]; exact hj)
/-- a slice of one's own -/
def Own (S : Sh α) (B : Nat) (w : World) (v : Value) (l : List α) : Prop := w.ownsRow B S.t S.sz v l.length (S.all l)
theorem Own.gr {S : Sh α} {B : Nat} {w w' : World} {v : Value} {l : List α} (h : Own S B w v l) (hg : Gr w w') : Own S B w' v l := ownsRow_gr h hg
theorem Own.nil (S : Sh α) (B : Nat) (w : World) : Own S B w (.slice none 0 0) [] := World.ownsRow_nil _ _ _ _
theorem Own.low {S : Sh α} {B B' : Nat} {w : World} {v : Value} {l : List α} (h : Own S B w v l) (hB : B' ≤ B) : Own S B' w v l := by
  refine ⟨h.1, ?_⟩
  rcases h.2 with h2 | ⟨g, cap, cur, h1, hb, h3⟩
  · exact .inl h2
  · exact .inr ⟨g, cap, cur, h1, Nat.le_trans hB hb, h3⟩
/-- what an append may be handed: nil, or any address -/
def SlOk (a : Option Addr) (c : Nat) : Prop := (a = none ∧ c = 0) ∨ ∃ ad, a = some ad
theorem Own.shape {S : Sh α} {B : Nat} {w : World} {v : Value} {l : List α} (h : Own S B w v l) : ∃ a cap, v = .slice a l.length cap ∧ Rd S w a l ∧ l.length ≤ cap ∧ cap ≤ maxLen ∧ SlOk a cap := by
  rcases id h.2 with ⟨rfl, h0⟩ | ⟨g, cap, cur, rfl, -, -, hn1, hn2, -⟩
  · have : l = [] := List.eq_nil_of_length_eq_zero h0
    subst this
    exact ⟨none, 0, rfl, Rd.nil _ _ _, by simp, by unfold maxLen; omega, .inl ⟨rfl, rfl⟩⟩
  · refine ⟨_, cap, rfl, fun k hk => ⟨g, 0, rfl, fun j v hj => ?_⟩, hn1, hn2, .inr ⟨_, rfl⟩⟩
    have hjs : j < S.sz := by
      have := (List.getElem?_eq_some_iff.1 hj).1
      rwa [S.hlen] at this
    have := World.ownsRow.cells h (g := g) rfl (k * S.sz + j) v (by rw [S.all_get l k hk j hjs]; exact hj)
    rwa [WideShapes.add_plain, ← Nat.add_assoc] at this
theorem Own.row {S : Sh α} {B : Nat} {w : World} {v : Value} {l : List α} (h : Own S B w v l) : (v = .slice none 0 0 ∧ l = []) ∨ ∃ g cap cur, v = .slice (some ⟨g, 0, none⟩) l.length cap ∧ B ≤ g ∧ w.heap[g]? = some (.cells cur S.t) := by
  rcases id h.2 with ⟨rfl, h0⟩ | ⟨g, cap, cur, rfl, hb, hg, -⟩
  · exact .inl ⟨rfl, List.eq_nil_of_length_eq_zero h0⟩
  · exact .inr ⟨g, cap, cur, rfl, hb, hg⟩
theorem Own.typed {S : Sh α} {B : Nat} {w : World} {v : Value} {M : List α} (h : Own S B w v M) {p : Nat} {cur : Array Value} {fz : Nat × Nat} {t' : TypeId} (ht : t' ≠ S.t) (hp : w.heap[p]? = some (Obj.cells cur t' fz)) : v.ownBlock ≠ some p := fun e => by
  rcases id h.2 with ⟨rfl, -⟩ | ⟨g', cap, cur', rfl, -, h3, -⟩
  · cases e
  · simp only [Value.ownBlock, Option.some.injEq] at e
    subst e
    rw [h3] at hp
    simp at hp
    exact ht hp.2.1.symm
/-- append of a whole slice -/
theorem join_s (S : Sh α) {ops : Array Oper} {rest : List Oper} {o : Oper} {a : Act} {Q : Exit → Act → World → Prop} {B : Nat} {w : World} (hgd : o.guard = none) (s x : Operand)
    (ho : o.op = .call { callee := .builtin .append, args := #[s, x], argTypes := #[S.st, S.st] }) (v : Value) (xs : List α) (hs : a.eval s = v) (hown : Own S B w v xs) (hB : B ≤ w.heap.size)
    (b : Option Addr) (ys : List α) (c : Nat) (hx : a.eval x = .slice b ys.length c) (hy : Rd S w b ys) (hc : SlOk b c) (hlen : xs.length + ys.length ≤ 1000000)
    (h : ∀ v' w', Hid (Own S B w' v' (xs ++ ys)) → Below B w w' → Hid (∀ p, p < w.heap.size → v.ownBlock ≠ some p → w'.heap[p]? = w.heap[p]?) → wpList Try.prog ops Q rest (a.put o.dst v') w') :
    wpList Try.prog ops Q (o :: rest) a w := by
  obtain ⟨i, hi, hz0, hz1, hz2⟩ := S.hinfo
  have hb := S.hb
  have hbyt : (xs.length + ys.length) * S.bytes ≤ 140737488355328 := Nat.le_trans (Nat.mul_le_mul hlen hb) (by omega)
  rcases hc with ⟨rfl, rfl⟩ | ⟨ad, rfl⟩
  · have hys : ys = [] := by
      cases ys with
      | nil => rfl
      | cons y t => obtain ⟨_, _, e, -⟩ := hy 0 (by simp); cases e
    subst hys
    refine wpList_append_own_none hgd s x _ ho B S.t i S.sz S.hund hi v xs.length (S.all xs) hs hown hx (h v w (Lib.hid (by rw [List.append_nil]; exact hown)) (Below.refl _ _) (Lib.hid fun _ _ _ => rfl))
  · refine wpList_append_own _ hgd s x _ ho B S.t i S.zero S.sz S.bytes S.hund hi hz0 hz1 hz2 S.hz S.hsz v xs.length (S.all xs) hs hown ad ys.length c (S.all ys) hx (S.all_len ys)
      (fun j u hj => ?_) S.all_one (by unfold maxLen; omega) hbyt hB (fun v' w' hown' hgrow _ => h v' w' (Lib.hid ?_) (Below.grown (Below.refl B w) hgrow hB (fun k hk => (World.ownsRow.lt hown k hk).1)) (Lib.hid fun r hr hn => hgrow.block r hr (fun e => hn e.symm)))
    · have hjl : j < ys.length * S.sz := by
        have := (List.getElem?_eq_some_iff.1 hj).1
        rwa [S.all_len] at this
      have hd : j / S.sz < ys.length := Nat.div_lt_of_lt_mul (by rwa [Nat.mul_comm])
      have hm : j % S.sz < S.sz := Nat.mod_lt _ S.hsz
      have he : j / S.sz * S.sz + j % S.sz = j := Nat.div_add_mod' j S.sz
      obtain ⟨p, q, e, c0⟩ := hy (j / S.sz) hd
      cases e
      rw [WideShapes.add_plain]
      have := c0 (j % S.sz) u (by rw [← S.all_get ys _ hd _ hm, he]; exact hj)
      rwa [Nat.add_assoc, he] at this
    · show World.ownsRow _ _ _ _ _ _ _
      rw [S.all_app, List.length_append]; exact hown'
/-- append of one element, that lies in a fresh block -/
theorem push_s (S : Sh α) {ops : Array Oper} {rest : List Oper} {o : Oper} {a : Act} {Q : Exit → Act → World → Prop} {w0 w : World} (hgd : o.guard = none) (s x : Operand)
    (ho : o.op = .call { callee := .builtin .append, args := #[s, x], argTypes := #[S.st, S.st] }) (v : Value) (xs : List α) (hs : a.eval s = v) (hown : Own S w0.heap.size w v xs) (hg : Gr w0 w)
    (t : α) (N : Nat) (hN : N = w.heap.size) (hx : a.eval x = .slice (some ⟨N, 0, none⟩) 1 1) (hlen : xs.length ≤ 900000)
    (h : ∀ v' w', Hid (Own S w0.heap.size w' v' (xs ++ [t])) → Gr w0 w' → wpList Try.prog ops Q rest (a.put o.dst v') w') :
    wpList Try.prog ops Q (o :: rest) a (w.alloc (.cells (S.enc t).toArray S.t)) := by
  have hgs := hg.size
  subst hN
  have he : S.all [t] = S.enc t := by simp [Sh.all]
  refine join_s S hgd s x ho v xs hs (World.ownsRow.alloc hown _) (by simp; omega) (some ⟨w.heap.size, 0, none⟩) [t] 1 hx (by have := Rd.new S w [t]; rwa [he] at this) (.inr ⟨_, rfl⟩) (by simp; omega) (fun v' w' hO hb _ => h v' w' hO (Below.trans (hg.alloc _) hb))
/-- ints -/
theorem Try.infoI : ∃ i : TypeInfo, Try.prog.info? 3 = some i ∧ i.zero = some (.int .i64 0) ∧ i.size = 1 ∧ i.bytes = 8 := info_parts (by kernel_rfl)
def shI : Sh Int := { enc := fun x => [.int .i64 x], sz := 1, t := 3, st := 63, zero := .int .i64 0, bytes := 8, hinfo := Try.infoI, hund := Try.underlying63, hlen := fun _ => rfl, hone := fun _ u hu => by simp only [List.mem_singleton] at hu; subst hu; rfl, hz := rfl, hsz := by decide, hb := by decide }
theorem iv_all (l : List Int) : shI.all l = l.map (Value.int .i64) := by induction l with
  | nil => rfl
  | cons a r ih => show [Value.int .i64 a] ++ shI.all r = _; rw [ih]; rfl
end Go.Proofs.Ytgjlcmheipmmlaa
