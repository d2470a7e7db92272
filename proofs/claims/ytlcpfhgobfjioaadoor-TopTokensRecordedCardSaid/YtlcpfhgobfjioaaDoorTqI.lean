/- T4: own lists of lists of tokens. -/
import Derived.Test.YtlcpfhgobfjioaaDoorTqH
set_option linter.unusedVariables false
set_option linter.unusedSimpArgs false
namespace Go.Proofs.YtlcpfhgobfjioaaDoor
open Go.RowKit Go.Shelf
open Z Rc
/-- where a list of tokens lies, its room, and the list -/
abbrev PL := Option Addr × Nat × List Tk
/-- a list of tokens in a block of tokens -/
def Tb (w : World) (q : PL) : Prop := TksAt w q.1 q.2.2 ∧ (q.1 = none ∨ ∃ (p o : Nat) (cur : Array Value) (fz : Nat × Nat), q.1 = some ⟨p, o, none⟩ ∧ w.heap[p]? = some (Obj.cells cur 32 fz))
theorem TksAt.block {w w' : World} {p o : Nat} {L : List Tk} (h : TksAt w (some ⟨p, o, none⟩) L) (e : w'.heap[p]? = w.heap[p]?) : TksAt w' (some ⟨p, o, none⟩) L := by
  rcases h with ⟨h, -⟩ | ⟨b, off, ha, hc⟩
  · cases h
  · cases ha
    refine .inr ⟨p, o, rfl, fun j hj => ?_⟩
    obtain ⟨c0, c1, c2⟩ := hc j hj
    unfold World.cell? at c0 c1 c2 ⊢
    simp only [e]
    exact ⟨c0, c1, c2⟩
theorem Tb.block {w w' : World} {q : PL} (h : Tb w q) (e : ∀ (p : Nat) (cur : Array Value) (fz : Nat × Nat), w.heap[p]? = some (Obj.cells cur 32 fz) → w'.heap[p]? = w.heap[p]?) : Tb w' q := by
  obtain ⟨h1, h2⟩ := h
  obtain ⟨a, c, L⟩ := q
  simp only at h1 h2
  rcases h2 with rfl | ⟨p, o, cur, fz, rfl, hb⟩
  · refine ⟨?_, .inl rfl⟩
    rcases h1 with h | ⟨_, _, h, -⟩
    · exact .inl h
    · cases h
  · have he := e p cur fz hb
    exact ⟨h1.block he, .inr ⟨p, o, cur, fz, rfl, he.trans hb⟩⟩
theorem Tb.gr {w w' : World} {q : PL} (h : Tb w q) (hg : Gr w w') : Tb w' q := h.block fun p cur fz hb => hg.block p (Array.getElem?_eq_some_iff.1 hb).1
theorem Tb.of {B : Nat} {w : World} {v : Value} {L : List Tk} (h : OwnTk B w v L) : ∃ a c, v = .slice a L.length c ∧ Tb w (a, c, L) := by
  obtain ⟨a, c, e, ht, -⟩ := h.shape
  refine ⟨a, c, e, ht, ?_⟩
  rcases id h.2 with ⟨h1, -⟩ | ⟨g, cap, cur, h1, -, h3, -⟩
  · rw [e] at h1; simp only [Value.slice.injEq] at h1; exact .inl h1.1
  · rw [e] at h1; simp only [Value.slice.injEq] at h1; exact .inr ⟨g, 0, cur, _, h1.1, h3⟩
def sv (P : List PL) : List Value := P.map fun q => .slice q.1 q.2.2.length q.2.1
def OwnP (B : Nat) (w : World) (v : Value) (P : List PL) : Prop := w.ownsRow B 22 1 v P.length (sv P)
theorem OwnP.nil (B : Nat) (w : World) : OwnP B w (.slice none 0 0) [] := World.ownsRow_nil _ _ _ _
theorem OwnP.gr {B : Nat} {w w' : World} {v : Value} {l : List PL} (h : OwnP B w v l) (hg : Gr w w') : OwnP B w' v l := by
  refine ⟨h.1, ?_⟩
  rcases h.2 with h2 | ⟨g, cap, cur, h1, hb, h3, h4⟩
  · exact .inl h2
  · exact .inr ⟨g, cap, cur, h1, hb, (hg.block g (Array.getElem?_eq_some_iff.1 h3).1).trans h3, h4⟩
theorem OwnP.shape {B : Nat} {w : World} {v : Value} {P : List PL} (h : OwnP B w v P) : ∃ a cap, v = .slice a P.length cap ∧ ∀ k (h : k < P.length), ∃ g, a = some ⟨g, 0, none⟩ ∧ w.cell? ⟨g, k, none⟩ = some (.slice P[k].1 P[k].2.2.length P[k].2.1) := by
  rcases id h.2 with ⟨rfl, h0⟩ | ⟨g, cap, cur, rfl, _, h2, h3, h4, _⟩
  · have : P = [] := List.eq_nil_of_length_eq_zero h0
    subst this
    exact ⟨none, 0, rfl, fun k hk => absurd hk (by simp)⟩
  · refine ⟨_, cap, rfl, fun k hk => ⟨g, rfl, ?_⟩⟩
    have := World.ownsRow.cells h (g := g) rfl k (.slice P[k].1 P[k].2.2.length P[k].2.1) (by simp [sv, hk])
    rwa [WideShapes.add_plain, Nat.zero_add] at this
theorem Tryd.infoTks : (Tryd.prog.info? 22).map (fun i => (i.zero, i.size, i.bytes)) = some (some (.slice none 0 0), 1, 24) := by kernel_rfl
theorem push_p {i : TypeInfo} (hi : Tryd.prog.info? 22 = some i) (hz0 : i.zero = some (.slice none 0 0)) (hz1 : i.size = 1) (hz2 : i.bytes = 24)
    {ops : Array Oper} {rest : List Oper} {o : Oper} {a : Act} {Q : Exit → Act → World → Prop} {B : Nat} {w : World} (hgd : o.guard = none) (s x : Operand)
    (ho : o.op = .call { callee := .builtin .append, args := #[s, x], argTypes := #[50, 50] }) (v : Value) (xs : List PL) (hs : a.eval s = v) (hown : OwnP B w v xs) (hB : B ≤ w.heap.size)
    (q : PL) (N : Nat) (hN : N = w.heap.size) (hx : a.eval x = .slice (some ⟨N, 0, none⟩) 1 1) (hlen : xs.length + 1 ≤ 1000000)
    (h : ∀ v' w', Hid (OwnP B w' v' (xs ++ [q])) → Below B w w' → (∀ (p : Nat) (cur : Array Value) (fz : Nat × Nat), w.heap[p]? = some (Obj.cells cur 32 fz) → w'.heap[p]? = w.heap[p]?) → wpList Tryd.prog ops Q rest (a.put o.dst v') w') :
    wpList Tryd.prog ops Q (o :: rest) a (w.alloc (.cells #[.slice q.1 q.2.2.length q.2.1] 22)) := by
  subst hN
  have hty : ∀ (g p : Nat) (cur : Array Value) (fz : Nat × Nat), v.ownBlock = some g → w.heap[p]? = some (Obj.cells cur 32 fz) → g ≠ p := fun g p cur fz hg hp e => by
    subst e
    rcases id hown.2 with ⟨rfl, -⟩ | ⟨g', cap, cur', rfl, -, h3, -⟩
    · cases hg
    · simp only [Value.ownBlock, Option.some.injEq] at hg
      subst hg
      rw [h3] at hp
      simp at hp
  refine wpList_append_own _ hgd s x _ ho B 22 i (.slice none 0 0) 1 24 Tryd.underlying50 hi hz0 hz1 hz2 rfl (by decide) v xs.length (sv xs) hs (World.ownsRow.alloc hown _) ⟨w.heap.size, 0, none⟩ 1 1 [.slice q.1 q.2.2.length q.2.1] hx rfl
    (fun j u hj => ?_) (fun u hu => by simp only [List.mem_cons, List.not_mem_nil, or_false] at hu; subst hu; rfl) (by unfold maxLen; omega) (by omega) (by simp; omega) (fun v' w' hown' hgrow _ => h v' w' ?_ (Below.grown ((Below.refl B w).alloc hB _) hgrow (by simp; omega) (fun k hk => (World.ownsRow.lt hown k hk).1)) fun p cur fz hp => (hgrow.block p (by have := (Array.getElem?_eq_some_iff.1 hp).1; simp; omega) (fun e => hty p p cur fz e.symm hp rfl)).trans (Below.heap_alloc _ _ _ (Array.getElem?_eq_some_iff.1 hp).1))
  · rw [WideShapes.add_plain]
    match j, hj with
    | 0, hj => simp only [List.getElem?_cons_zero, Option.some.injEq] at hj; subst hj; rw [World.cell?_alloc_at _ _ _ _ rfl]; rfl
    | j + 1, hj => simp at hj
  · show World.ownsRow _ _ _ _ _ _ _
    rw [show sv (xs ++ [q]) = sv xs ++ [.slice q.1 q.2.2.length q.2.1] by simp [sv], List.length_append]; exact hown'
/-- a list of tokens that can be joined and is found again -/
def GoodL (L : List Tk) : Prop := L.length ≤ 256 ∧ sumT L ≤ 200 ∧ joinR L = (jt L (L.length - 1), 0) ∧ (jt L (L.length - 1)).length ≤ 456
/-- the texts of the lists, written one behind the other -/
def DL (P : List PL) : List UInt8 := (P.map fun q => txt (jt q.2.2 (q.2.2.length - 1))).flatten
theorem DL_snoc (P : List PL) (q : PL) : DL (P ++ [q]) = DL P ++ txt (jt q.2.2 (q.2.2.length - 1)) := by simp [DL]
theorem txt_len {t : List UInt8} (h : t.length ≤ 65535) : (txt t).length ≤ t.length + 10 := by
  unfold txt
  have := int8_len (n := t.length) (by omega) (by omega)
  rw [List.length_append]; omega
theorem DL_len {P : List PL} (h : ∀ q ∈ P, GoodL q.2.2) : (DL P).length ≤ 466 * P.length := by
  induction P with
  | nil => simp [DL]
  | cons q P ih =>
    have h1 := ih (fun x hx => h x (List.mem_cons_of_mem _ hx))
    obtain ⟨-, -, -, h2⟩ := h q (List.mem_cons_self ..)
    have h3 := txt_len (t := jt q.2.2 (q.2.2.length - 1)) (by omega)
    have e : DL (q :: P) = txt (jt q.2.2 (q.2.2.length - 1)) ++ DL P := by simp [DL]
    rw [e, List.length_append, List.length_cons]; omega
theorem DL_split {P : List PL} {k : Nat} (h : k < P.length) : DL P = DL (P.take k) ++ (txt (jt P[k].2.2 (P[k].2.2.length - 1)) ++ DL (P.drop (k + 1))) := by
  have happ : ∀ A B : List PL, DL (A ++ B) = DL A ++ DL B := fun A B => by simp [DL]
  have hcons : ∀ (q : PL) (B : List PL), DL (q :: B) = txt (jt q.2.2 (q.2.2.length - 1)) ++ DL B := fun q B => by simp [DL]
  conv => lhs; rw [← List.take_append_drop k P, List.drop_eq_getElem_cons h]
  rw [happ, hcons]
theorem DL_take {P : List PL} {k : Nat} (h : k < P.length) : (DL (P.take k)).length + (txt (jt P[k].2.2 (P[k].2.2.length - 1))).length = (DL (P.take (k + 1))).length := by
  rw [List.take_succ_eq_append_getElem h, DL_snoc, List.length_append]
end Go.Proofs.YtlcpfhgobfjioaaDoor
