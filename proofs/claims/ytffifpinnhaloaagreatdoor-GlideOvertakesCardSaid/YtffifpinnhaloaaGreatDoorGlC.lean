/- Lists of glides: how they lie; standing glides; Few; Chain, both sides. -/
import Derived.Test.YtffifpinnhaloaaGreatDoorGlM
set_option linter.unusedVariables false
set_option linter.unusedSimpArgs false
namespace Go.Proofs.YtffifpinnhaloaaGreatDoor
open Go.RowKit Go.Shelf
open Z

/-- a glide lies in four cells -/
def GlAt (w : World) (b o : Nat) (g : Gl) : Prop :=
  w.cell? ⟨b, o, none⟩ = some (.string g.f) ∧ w.cell? ⟨b, o + 1, none⟩ = some (.int .i64 g.x) ∧ w.cell? ⟨b, o + 2, none⟩ = some (.int .i64 g.st) ∧ w.cell? ⟨b, o + 3, none⟩ = some (.int .i64 g.ti)
theorem GlAt.gr {w w' : World} {b o : Nat} {g : Gl} (h : GlAt w b o g) (hg : Gr w w') : GlAt w' b o g :=
  ⟨gr_cell hg h.1, gr_cell hg h.2.1, gr_cell hg h.2.2.1, gr_cell hg h.2.2.2⟩
/-- a list of glides lies behind an address -/
def RdG (w : World) (a : Option Addr) (l : List Gl) : Prop := ∀ k (h : k < l.length), ∃ b o, a = some ⟨b, o, none⟩ ∧ GlAt w b (o + k * 4) l[k]
theorem RdG.gr {w w' : World} {a : Option Addr} {l : List Gl} (h : RdG w a l) (hg : Gr w w') : RdG w' a l := fun k hk => by
  obtain ⟨b, o, h1, h2⟩ := h k hk
  exact ⟨b, o, h1, h2.gr hg⟩
theorem RdG.nil (w : World) (a : Option Addr) : RdG w a [] := fun k hk => absurd hk (by simp)
theorem rdG_one (w : World) (g : Gl) (t : TypeId) : RdG (w.alloc (.cells #[.string g.f, .int .i64 g.x, .int .i64 g.st, .int .i64 g.ti] t)) (some ⟨w.heap.size, 0, none⟩) [g] := fun k hk => by
  have : k = 0 := by simp at hk; omega
  subst this
  exact ⟨_, _, rfl, by simp, by simp, by simp, by simp⟩
theorem rdG_two (w : World) (g h : Gl) (t : TypeId) : RdG (w.alloc (.cells #[.string g.f, .int .i64 g.x, .int .i64 g.st, .int .i64 g.ti, .string h.f, .int .i64 h.x, .int .i64 h.st, .int .i64 h.ti] t)) (some ⟨w.heap.size, 0, none⟩) [g, h] := fun k hk => by
  have : k = 0 ∨ k = 1 := by simp at hk; omega
  rcases this with rfl | rfl
  · exact ⟨_, _, rfl, by simp, by simp, by simp, by simp⟩
  · exact ⟨_, _, rfl, by simp, by simp, by simp, by simp⟩
/-- three ints -/
abbrev T3 := Int × Int × Int
abbrev vT3 (p : T3) : Value := .agg #[.int .i64 p.1, .int .i64 p.2.1, .int .i64 p.2.2]
def isT (p : T3) : Prop := isJ p.1 ∧ isJ p.2.1 ∧ isJ p.2.2
def T3At (w : World) (b o : Nat) (p : T3) : Prop :=
  w.cell? ⟨b, o, none⟩ = some (.int .i64 p.1) ∧ w.cell? ⟨b, o + 1, none⟩ = some (.int .i64 p.2.1) ∧ w.cell? ⟨b, o + 2, none⟩ = some (.int .i64 p.2.2)
theorem T3At.gr {w w' : World} {b o : Nat} {p : T3} (h : T3At w b o p) (hg : Gr w w') : T3At w' b o p := ⟨gr_cell hg h.1, gr_cell hg h.2.1, gr_cell hg h.2.2⟩
def RdT (w : World) (a : Option Addr) (l : List T3) : Prop := ∀ k (h : k < l.length), ∃ b o, a = some ⟨b, o, none⟩ ∧ T3At w b (o + k * 3) l[k]
theorem RdT.gr {w w' : World} {a : Option Addr} {l : List T3} (h : RdT w a l) (hg : Gr w w') : RdT w' a l := fun k hk => by
  obtain ⟨b, o, h1, h2⟩ := h k hk
  exact ⟨b, o, h1, h2.gr hg⟩
theorem RdT.nil (w : World) (a : Option Addr) : RdT w a [] := fun k hk => absurd hk (by simp)
/-- a list of glides in a block of one's own -/
def gv (l : List Gl) : List Value := l.flatMap fun g => [.string g.f, .int .i64 g.x, .int .i64 g.st, .int .i64 g.ti]
theorem gv_snoc (l : List Gl) (g : Gl) : gv (l ++ [g]) = gv l ++ [.string g.f, .int .i64 g.x, .int .i64 g.st, .int .i64 g.ti] := by simp [gv]
theorem gv_length (l : List Gl) : (gv l).length = l.length * 4 := by
  induction l with
  | nil => rfl
  | cons g l ih => simp [gv] at ih ⊢; omega
theorem gv_get : ∀ (l : List Gl) (k : Nat) (h : k < l.length), (gv l)[k * 4]? = some (.string l[k].f) ∧ (gv l)[k * 4 + 1]? = some (.int .i64 l[k].x) ∧ (gv l)[k * 4 + 2]? = some (.int .i64 l[k].st) ∧ (gv l)[k * 4 + 3]? = some (.int .i64 l[k].ti)
  | [], _, h => absurd h (by simp)
  | g :: l, 0, _ => ⟨rfl, rfl, rfl, rfl⟩
  | g :: l, k + 1, h => by
    have ih := gv_get l k (by simpa using h)
    have e : ∀ j, (gv (g :: l))[(k + 1) * 4 + j]? = (gv l)[k * 4 + j]? := fun j => by
      show ([Value.string g.f, .int .i64 g.x, .int .i64 g.st, .int .i64 g.ti] ++ gv l)[(k + 1) * 4 + j]? = _
      rw [List.getElem?_append_right (by simp; omega)]
      congr 1; simp; omega
    refine ⟨by have := e 0; simpa using this.trans ih.1, by rw [e 1]; exact ih.2.1, by rw [e 2]; exact ih.2.2.1, by rw [e 3]; exact ih.2.2.2⟩
def OwnG (B : Nat) (w : World) (v : Value) (l : List Gl) : Prop := w.ownsRow B 24 4 v l.length (gv l)
theorem OwnG.rd {B : Nat} {w : World} {g n cap : Nat} {l : List Gl} (h : OwnG B w (.slice (some ⟨g, 0, none⟩) n cap) l) : RdG w (some ⟨g, 0, none⟩) l := fun k hk => by
  obtain ⟨h0, h1, h2, h3⟩ := gv_get l k hk
  have c : ∀ j u, (gv l)[j]? = some u → w.cell? ⟨g, 0 + j, none⟩ = some u := fun j u hj => by
    have := World.ownsRow.cells h (g := g) rfl j u hj
    rwa [WideShapes.add_plain] at this
  exact ⟨g, 0, rfl, by simpa using c _ _ h0, by simpa [Nat.add_assoc] using c _ _ h1, by simpa [Nat.add_assoc] using c _ _ h2, by simpa [Nat.add_assoc] using c _ _ h3⟩
theorem Gr.grown {w w' : World} (h : Gr w w') : w.grownBy w' none := ⟨h.os, h.tape, h.output, h.size, fun k hk _ => h.block k hk⟩
theorem OwnG.gr {B : Nat} {w w' : World} {v : Value} {l : List Gl} (h : OwnG B w v l) (hg : Gr w w') : OwnG B w' v l := World.ownsRow.kept h hg.grown (by cases hv : v.ownBlock with | none => exact .inl rfl | some k => exact .inr (by simp))
theorem ownG_one (w : World) (g : Gl) (B : Nat) (hB : B ≤ w.heap.size) : OwnG B (w.alloc (.cells #[.string g.f, .int .i64 g.x, .int .i64 g.st, .int .i64 g.ti] 24)) (.slice (some ⟨w.heap.size, 0, none⟩) 1 1) [g] :=
  ⟨rfl, .inr ⟨w.heap.size, 1, _, rfl, hB, World.alloc_heap_new _ _, Nat.le_refl _, by unfold maxLen; omega, rfl, rfl⟩⟩
/-- the ints of a glide are ints -/
def Gl.isG (g : Gl) : Prop := isJ g.x ∧ isJ g.st ∧ isJ g.ti
def fewG (l : List Gl) : Bool := !(decide (12 < l.length) && decide (l.length ≤ 256)) && (l.take 12).all fun g => decide (g.f.size ≤ 120)
theorem fewG_many {l : List Gl} (h : 12 < l.length) (h' : l.length ≤ 256) : fewG l = false := by unfold fewG; simp [h, h']
theorem fewG_get {l : List Gl} (h : ¬ (12 < l.length ∧ l.length ≤ 256)) (hk : ∀ j (hj : j < l.length), j < 12 → l[j].f.size ≤ 120) : fewG l = true := by
  unfold fewG
  rw [Bool.and_eq_true]
  refine ⟨by simp; omega, ?_⟩
  rw [List.all_eq_true]
  intro x hx
  obtain ⟨j, hj, rfl⟩ := List.getElem_of_mem hx
  rw [List.length_take] at hj
  rw [List.getElem_take]
  simpa using hk j (by omega) (by omega)
theorem fewG_not {l : List Gl} {j : Nat} (hj : j < l.length) (h12 : j < 12) (h : ¬ l[j].f.size ≤ 120) : fewG l = false := by
  unfold fewG
  rw [Bool.and_eq_false_iff]
  right
  rw [List.all_eq_false]
  refine ⟨l[j], ?_, by simpa using h⟩
  have : j < (l.take 12).length := by rw [List.length_take]; omega
  have e : (l.take 12)[j] = l[j] := List.getElem_take
  rw [← e]
  exact List.getElem_mem this
/-- a short list of glides has short levels -/
theorem fewG_yes {l : List Gl} (h : fewG l = true) : 256 < l.length ∨ (l.length ≤ 12 ∧ ∀ g ∈ l, g.f.size ≤ 120) := by
  unfold fewG at h
  rw [Bool.and_eq_true] at h
  obtain ⟨h1, h2⟩ := h
  by_cases hm : 256 < l.length
  · exact .inl hm
  · have h12 : l.length ≤ 12 := by
      simp only [Bool.not_eq_true', Bool.and_eq_false_iff, decide_eq_false_iff_not] at h1
      omega
    rw [List.take_of_length_le h12, List.all_eq_true] at h2
    exact .inr ⟨h12, fun g hg => by simpa using h2 g hg⟩
section
variable {w0 : World}
set_option maxHeartbeats 2000000 in
set_option maxRecDepth 100000 in
theorem ret3_Few {a : Option Addr} {l : List Gl} {cap : Nat} (hc : RdG w0 a l) (hsz : ∀ g ∈ l, g.f.size ≤ maxLen) : Ret w0 26 #[.slice a l.length cap] (.bool (fewG l)) := by
  have HC := Lib.hid hc
  have HSZ := Lib.hid hsz
  clear hc hsz
  obtain ⟨r, hr⟩ : ∃ r, fewG l = r := ⟨_, rfl⟩
  have HR := Lib.hid hr
  rw [hr]
  clear hr
  intro w hg
  have HG := Lib.hid hg; clear hg
  go_enter Tryz.func26, Tryz.ntmps26
  by_cases hm : 12 < l.length ∧ l.length ≤ 256
  · have hf : r = false := by rw [← HR.out]; exact fewG_many hm.1 hm.2
    obtain ⟨m1, m2⟩ := hm
    subst hf
    go_wp2
    go_ret
    exact ⟨rfl, HG.out⟩
  · have HM := Lib.hid hm
    obtain ⟨n, hn⟩ : ∃ n, n = l.length := ⟨_, rfl⟩
    have hm' : n ≤ 12 ∨ 256 < n := by omega
    have HN := Lib.hid hn
    rw [← hn]
    clear hm hn
    have main : ∀ (w : World), Gr w0 w → True := fun _ _ => trivial
    clear main
    rcases hm' with hm' | hm'
    all_goals
      go_wp2
      go_loopw [3] (fun i wr => ∃ k : Nat, i = .int .i64 k ∧ k ≤ n ∧ k ≤ 12 ∧ Hid (Gr w0 wr) ∧ Hid (∀ j (h : j < l.length), j < k → l[j].f.size ≤ 120)) (fun i _ => 12 - (intOf i).toNat)
      case atStart => exact ⟨0, rfl, Nat.zero_le _, Nat.zero_le _, HG.out, fun j hj h => absurd h (by omega)⟩
      case round =>
        obtain ⟨k, rfl, hk, hk12, HW, HK⟩ := hrel
        by_cases hlt : k < n ∧ k < 12
        · obtain ⟨hkn, hk2⟩ := hlt
          have hkl : k < l.length := by rw [← HN.out]; exact hkn
          obtain ⟨b, o, rfl, hat⟩ := HC.out k hkl
          have hmx := HSZ.out _ (List.getElem_mem hkl)
          have hcell := gr_cell HW.out (gr_cell (Gr.refl w0) hat.1)
          obtain ⟨s, HS⟩ : ∃ s, Hid (l[k].f = s) := ⟨_, Lib.hid rfl⟩
          have hs : l[k].f = s := HS.out
          rw [hs] at hcell hmx
          have F := Lib.hid (ret_Few2 (w0 := w0) hmx)
          clear hat
          by_cases h4 : s.size ≤ 120
          · rw [decide_eq_true h4] at F
            have H4 := Lib.hid h4
            clear h4 hmx hs
            go_wp2_with fail
            refine (F.out _ HW.out).mono ?_
            rintro e w1 ⟨rfl, hg⟩
            have HW1 := Lib.hid hg
            clear hg hcell
            go_wp2
            go_roundw
            case rel =>
              refine ⟨k + 1, by go_num, by omega, by omega, HW1.out, fun j hj h => ?_⟩
              by_cases hjk : j = k
              · subst hjk; rw [HS.out]; exact H4.out
              · exact HK.out j hj (by omega)
            case measure => simp [intOf]; omega
          · have hf : r = false := by rw [← HR.out]; exact fewG_not hkl hk2 (by rw [hs]; exact h4)
            rw [decide_eq_false h4] at F
            clear h4 hmx hs
            subst hf
            go_wp2_with fail
            refine (F.out _ HW.out).mono ?_
            rintro e w1 ⟨rfl, hg⟩
            have HW1 := Lib.hid hg
            clear hg hcell
            go_wp2
            go_ret
            exact ⟨rfl, HW1.out⟩
        · have hf : r = true := by rw [← HR.out]; exact fewG_get HM.out fun j hj h => HK.out j hj (by have := HN.out; omega)
          subst hf
          rcases (show n = k ∧ k < 12 ∨ k = 12 ∧ k < n ∨ k = 12 ∧ n = 12 by omega) with ⟨e1, e2⟩ | ⟨e1, e2⟩ | ⟨e1, e2⟩
          · subst e1
            first
              | (exfalso; omega)
              | (go_wp2; go_ret; exact ⟨rfl, HW.out⟩)
          · subst e1
            first
              | (exfalso; omega)
              | (go_wp2; go_ret; exact ⟨rfl, HW.out⟩)
          · subst e1
            subst e2
            first
              | (exfalso; omega)
              | (go_wp2; go_ret; exact ⟨rfl, HW.out⟩)
theorem few_new1 {g : Gl} {w : World} (t : TypeId) (hs : g.f.size ≤ maxLen) :
    Calls Tryz.prog 26 #[.slice (some ⟨w.heap.size, 0, none⟩) 1 1] (w.alloc (.cells #[.string g.f, .int .i64 g.x, .int .i64 g.st, .int .i64 g.ti] t)) (fun e w' => e = .returned (.bool (decide (g.f.size ≤ 120))) ∧ Gr w w') := by
  refine (ret3_Few (l := [g]) (cap := 1) (rdG_one w g t) (fun x hx => by simp only [List.mem_singleton] at hx; subst hx; exact hs) _ (Gr.refl _)).mono ?_
  rintro e w' ⟨rfl, h⟩
  exact ⟨by simp [fewG], Gr.trans ((Gr.refl w).alloc _) h⟩
set_option maxHeartbeats 1000000 in
set_option maxRecDepth 100000 in
theorem ret3_Zero : Ret w0 23 #[] (vGl ⟨#[48]⟩ 0 0 0) := by
  intro w hg
  have hsz := hg.size
  go_enter Tryz.func23, Tryz.ntmps23
  go_wp2
  exact bodyPost_ret (v := vGl ⟨#[48]⟩ 0 0 0) (by simp [results, Tryz.results23, go_sem]) rfl ⟨rfl, hg.alloc _⟩
set_option maxHeartbeats 1000000 in
set_option maxRecDepth 100000 in
theorem ret3_Full : Ret w0 21 #[] (vGl (Tx 65535) 65535 0 0) := by
  have C1 := Lib.hid (RetG.of4 (w0 := w0) fun w1 _ => ret_Whole2 (w0 := w1) (n := 65535) (by omega) (by omega))
  generalize Tx 65535 = s at *
  intro w hg
  have hsz := hg.size
  have HR := Lib.hid (GB.new w ⟨#[]⟩ 0 0 0 24)
  have HG := Lib.hid (hg.alloc (oGl ⟨#[]⟩ 0 0 0))
  clear hg
  obtain ⟨r0, r1, r2, r3, q0, q1, q2, q3⟩ := id HR.out
  go_enter Tryz.func21, Tryz.ntmps21
  go_wp2_with fail
  refine (C1.out _ HG.out).mono ?_
  rintro e w1 ⟨rfl, hg⟩
  have hR := HR.out.gr hg
  replace HG := Lib.hid (Gr.trans HG.out hg)
  clear hg HR r0 r1 r2 r3 q0 q1 q2 q3
  have HR := Lib.hid hR
  obtain ⟨r0, r1, r2, r3, q0, q1, q2, q3⟩ := hR
  go_wp2
  obtain ⟨F, G⟩ := HR.out.store s 65535 0 0 HG.out (by omega)
  exact bodyPost_ret (v := vGl s 65535 0 0) (by simp [results, Tryz.results21, go_sem, F.c0, F.c1, F.c2, F.c3]) rfl ⟨rfl, G⟩
theorem txt0 : (⟨#[48]⟩ : ByteArray) = Tx 0 := by rw [← Tx_ival ⟨#[48]⟩ (by decide +kernel)]; congr 1
set_option maxHeartbeats 1000000 in
set_option maxRecDepth 100000 in
theorem ret_GZero (htab : Tab w0) : Ret w0 22 #[] (vGl ⟨#[48]⟩ 0 0 0) := by
  have C1 := RetG.of4 (w0 := w0) fun w1 h => ret_QWhole (htab_gr htab h) (n := 0) (by omega) (by omega)
  rw [← txt0] at C1
  have C1 := Lib.hid C1
  clear htab
  intro w hg
  have hsz := hg.size
  have HR := Lib.hid (GB.new w ⟨#[]⟩ 0 0 0 24)
  have HG := Lib.hid (hg.alloc (oGl ⟨#[]⟩ 0 0 0))
  clear hg
  obtain ⟨r0, r1, r2, r3, q0, q1, q2, q3⟩ := id HR.out
  go_enter Tryz.func22, Tryz.ntmps22
  go_wp2_with fail
  refine (C1.out _ HG.out).mono ?_
  rintro e w1 ⟨rfl, hg⟩
  have hR := HR.out.gr hg
  replace HG := Lib.hid (Gr.trans HG.out hg)
  clear hg HR r0 r1 r2 r3 q0 q1 q2 q3
  have HR := Lib.hid hR
  obtain ⟨r0, r1, r2, r3, q0, q1, q2, q3⟩ := hR
  go_wp2
  obtain ⟨F, G⟩ := HR.out.store ⟨#[48]⟩ 0 0 0 HG.out (by omega)
  exact bodyPost_ret (v := vGl ⟨#[48]⟩ 0 0 0) (by simp [results, Tryz.results22, go_sem, F.c0, F.c1, F.c2, F.c3]) rfl ⟨rfl, G⟩
set_option maxHeartbeats 1000000 in
set_option maxRecDepth 100000 in
theorem ret_GFull (htab : Tab w0) : Ret w0 20 #[] (vGl (Tx 65535) 65535 0 0) := by
  have C1 := Lib.hid (RetG.of4 (w0 := w0) fun w1 h => ret_QWhole (htab_gr htab h) (n := 65535) (by omega) (by omega))
  clear htab
  generalize Tx 65535 = s at *
  intro w hg
  have hsz := hg.size
  have HR := Lib.hid (GB.new w ⟨#[]⟩ 0 0 0 24)
  have HG := Lib.hid (hg.alloc (oGl ⟨#[]⟩ 0 0 0))
  clear hg
  obtain ⟨r0, r1, r2, r3, q0, q1, q2, q3⟩ := id HR.out
  go_enter Tryz.func20, Tryz.ntmps20
  go_wp2_with fail
  refine (C1.out _ HG.out).mono ?_
  rintro e w1 ⟨rfl, hg⟩
  have hR := HR.out.gr hg
  replace HG := Lib.hid (Gr.trans HG.out hg)
  clear hg HR r0 r1 r2 r3 q0 q1 q2 q3
  have HR := Lib.hid hR
  obtain ⟨r0, r1, r2, r3, q0, q1, q2, q3⟩ := hR
  go_wp2
  obtain ⟨F, G⟩ := HR.out.store s 65535 0 0 HG.out (by omega)
  exact bodyPost_ret (v := vGl s 65535 0 0) (by simp [results, Tryz.results20, go_sem, F.c0, F.c1, F.c2, F.c3]) rfl ⟨rfl, G⟩
/-- the levels of a chain are short, or it has too many glides -/
def Fits (l : List Gl) : Prop := 256 < l.length ∨ ∀ g ∈ l, g.f.size ≤ 1400
theorem Gl.err_zero {g : Gl} (h : g.err = 0) (hs : g.f.size ≤ 4000) : ∃ a : Rat, g.f = RT a ∧ rv g.f = a ∧ Sh g.f.size a ∧ lvlQ a = true ∧ 0 ≤ g.x ∧ g.x ≤ 65535 ∧ 0 ≤ g.st ∧ g.st ≤ 10000000 ∧ 0 ≤ g.ti ∧ g.ti ≤ 10000000 := by
  obtain ⟨b, hb, ib, lb, x0, x1, st0, st1, ti0, ti1⟩ := glE_zero_iff h
  obtain ⟨a, e, ha, hra⟩ := text_sh (k := g.f.size) (by rw [hb]; exact chkS_RT ib) (Nat.le_refl _)
  have : a = b := RT_inj (by rw [← e, hb])
  subst this
  exact ⟨a, e, hra, ha, lb, x0, x1, st0, st1, ti0, ti1⟩
end
end Go.Proofs.YtffifpinnhaloaaGreatDoor
