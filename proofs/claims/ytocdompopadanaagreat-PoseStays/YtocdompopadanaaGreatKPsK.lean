/- Package pose: a core at a pose. -/
import Derived.Test.YtocdompopadanaaGreatKPsI
namespace Go.Proofs.YtocdompopadanaaGreat
open Go.RowKit Go.Shelf
set_option linter.unusedVariables false

def placeableP (P A E : List Pt) : Bool := decide (0 < P.length) && (P.all (fun p => p.win 1048576) && (A.all (fun p => p.win 1048576) && E.all (fun p => p.win 1048576)))
set_option maxHeartbeats 2000000 in
set_option maxRecDepth 100000 in
theorem placeable_any (P A E : List Pt) (r : Int) (pv av ev : Value) (w : World) (hp : Lies w pv P) (ha : Lies w av A) (he : Lies w ev E) :
    Calls Tryz.prog 23 #[coreV pv av ev r] w fun e W => e = .returned (.bool (placeableP P A E)) ∧ Below w.heap.size w W := by
  have H1 : Hid (∀ W, Below w.heap.size w W → Calls Tryz.prog 29 #[pv, .int .i64 1048576] W fun e V => e = .returned (.bool (P.all fun p => p.win 1048576)) ∧ Below W.heap.size W V) := fun W hb => allWithin_any P pv _ W (hp.below hb)
  have H2 : Hid (∀ W, Below w.heap.size w W → Calls Tryz.prog 29 #[av, .int .i64 1048576] W fun e V => e = .returned (.bool (A.all fun p => p.win 1048576)) ∧ Below W.heap.size W V) := fun W hb => allWithin_any A av _ W (ha.below hb)
  have H3 : Hid (∀ W, Below w.heap.size w W → Calls Tryz.prog 29 #[ev, .int .i64 1048576] W fun e V => e = .returned (.bool (E.all fun p => p.win 1048576)) ∧ Below W.heap.size W V) := fun W hb => allWithin_any E ev _ W (he.below hb)
  obtain ⟨op, cp, rfl, hlc, hcm, _⟩ := hp.form
  obtain ⟨oa, ca, rfl, _⟩ := ha.form
  obtain ⟨oe, ce, rfl, _⟩ := he.form
  clear hp ha he
  have HP : Hid (placeableP P A E = (decide (0 < P.length) && (P.all (fun p => p.win 1048576) && (A.all (fun p => p.win 1048576) && E.all (fun p => p.win 1048576))))) := rfl
  obtain ⟨R9, hR9⟩ : ∃ R9, placeableP P A E = R9 := ⟨_, rfl⟩
  rw [hR9] at HP ⊢
  clear hR9
  generalize (P.all fun p => p.win 1048576) = b1 at *
  generalize (A.all fun p => p.win 1048576) = b2 at *
  generalize (E.all fun p => p.win 1048576) = b3 at *
  unfold coreV
  have n0 : Hid (Below w.heap.size w (w.alloc (.cells #[.slice op P.length cp, .slice oa A.length ca, .slice oe E.length ce, .int .i64 r] 24))) := n_after _ _
  have c0 : Hid (Cells (w.alloc (.cells #[.slice op P.length cp, .slice oa A.length ca, .slice oe E.length ce, .int .i64 r] 24)) w.heap.size [.slice op P.length cp, .slice oa A.length ca, .slice oe E.length ce, .int .i64 r]) := Cells.new _ _ _
  by_cases hl : 0 < P.length
  · rw [decide_eq_true hl] at HP
    have hl' : decide ((P.length : Int) > 0) = true := decide_eq_true (by omega)
    go_enter Tryz.func23, Tryz.ntmps23
    go_wp2_with (fail)
    refine Calls.mono (H1.out _ n0.out) ?_
    rintro e V1 ⟨rfl, hb⟩
    have n1 : Hid _ := b_step n0.out hb
    have c1 : Hid _ := Cells.step c0.out hb
    clear hb n0 c0 H1
    have z1 := (c1.out 1 _ rfl).1
    have z2 := (c1.out 2 _ rfl).1
    cases b1 with
    | false =>
      have e9 : R9 = false := HP.out
      subst e9
      go_wp2_with (fail)
      go_ret
      exact ⟨rfl, n1.out⟩
    | true =>
      go_wp2_with (fail)
      refine Calls.mono (H2.out _ n1.out) ?_
      rintro e V2 ⟨rfl, hb⟩
      have n2 : Hid _ := b_step n1.out hb
      have z2 := c_after hb z2
      clear hb n1 c1 H2 z1
      cases b2 with
      | false =>
        have e9 : R9 = false := HP.out
        subst e9
        go_wp2_with (fail)
        go_ret
        exact ⟨rfl, n2.out⟩
      | true =>
        go_wp2_with (fail)
        refine Calls.mono (H3.out _ n2.out) ?_
        rintro e V3 ⟨rfl, hb⟩
        have n3 : Hid _ := b_step n2.out hb
        clear hb n2 H3 z2
        have e9 : R9 = b3 := HP.out
        subst e9
        go_wp2_with (fail)
        go_ret
        exact ⟨rfl, n3.out⟩
  · rw [decide_eq_false hl] at HP
    have hl' : P.length = 0 := by omega
    have e9 : R9 = false := HP.out
    subst e9
    rw [hl'] at n0 c0 H1 ⊢
    clear hl' hl
    go_enter Tryz.func23, Tryz.ntmps23
    go_wp2_with (fail)
    go_ret
    exact ⟨rfl, n0.out⟩

theorem Lies.grown {A B : World} {v : Value} {Ls : List Pt} {fb : Nat} (h : Lies A v Ls) (hg : A.grownBy B (some fb)) (hne : ∀ q n c, v = .slice (some q) n c → Ls ≠ [] → q.block ≠ fb) : Lies B v Ls := by
  obtain ⟨o, cap, e, h1, h2, h3⟩ := h.form
  refine ⟨o, cap, e, h1, h2, fun i hi => ?_⟩
  obtain ⟨g, off, e', a, b, c⟩ := h3 i hi
  have hf : g ≠ fb := hne ⟨g, off, none⟩ _ _ (by rw [e, e']) (fun e0 => by rw [e0] at hi; simp at hi)
  have hbl : B.heap[g]? = A.heap[g]? := hg.block g (World.block_lt_of_cell? _ _ a) (fun e => hf (by simpa using e))
  exact ⟨g, off, e', (World.cell?_of_block (w := A) hbl).trans a, (World.cell?_of_block (w := A) hbl).trans b, (World.cell?_of_block (w := A) hbl).trans c⟩
theorem Lies.lt {A : World} {Ls : List Pt} {q : Addr} {n c : Nat} (h : Lies A (.slice (some q) n c) Ls) (h0 : Ls ≠ []) : q.block < A.heap.size := by
  obtain ⟨o, cap, e, h1, h2, h3⟩ := h.form
  obtain ⟨g, off, e', a, _⟩ := h3 0 (List.length_pos_iff.2 h0)
  simp only [Value.slice.injEq] at e
  rw [← e.1] at e'
  cases e'
  exact World.block_lt_of_cell? _ _ a

/-- While a core is placed. -/
structure PG (V : World) (cb fb : Nat) (pv av ev : Value) (r : Int) (f b1 b2 b3 : Bool) (m : M9) (t : Pt) (P A E : List Pt) (g4 g5 g9 g13 g16 g17 : Value) (l4 l5 l9 l13 l16 l17 l18 : Bool) (w : World) : Prop where
  gr : V.grownBy w (some fb)
  cr : Cells w cb [pv, av, ev, .int .i64 r]
  fr : Cells w fb (frL (f || (l5 && b1) || (l9 && b2) || (l13 && b3)) m t)
  o5 : l5 = true → w.ownsRow V.heap.size 31 3 g5 P.length (fl3 P)
  o9 : l9 = true → w.ownsRow V.heap.size 31 3 g9 A.length (fl3 A)
  o13 : l13 = true → w.ownsRow V.heap.size 31 3 g13 E.length (fl3 E)
  s59 : l5 = true → l9 = true → ∀ k, g5.ownBlock = some k → g9.ownBlock ≠ some k
  s53 : l5 = true → l13 = true → ∀ k, g5.ownBlock = some k → g13.ownBlock ≠ some k
  s93 : l9 = true → l13 = true → ∀ k, g9.ownBlock = some k → g13.ownBlock ≠ some k
  ea : l4 = true → l5 = false → ∃ b, g4 = .func (.func 60) #[] #[.pointer (some ⟨b, 0, none⟩), .pointer (some ⟨b + 1, 0, none⟩)] ∧ V.heap.size ≤ b ∧ w.cell? ⟨b, 0, none⟩ = some pv ∧ w.cell? ⟨b + 1, 0, none⟩ = some (.func (.func 27) #[.pointer (some ⟨fb, 0, none⟩)] #[])
  bd : l16 = true → g16 = .agg #[g5, g9, g13, .int .i64 r]
  pd : l17 = true → ∃ b cs, g17 = .pointer (some ⟨b, 0, none⟩) ∧ V.heap.size ≤ b ∧ w.heap[b]? = some (.cells cs 24 (0, 0)) ∧ cs.size = 4 ∧ (l18 = true → cs = #[g5, g9, g13, .int .i64 r])
theorem own_grown {A B : World} {base n : Nat} {u : Value} {xs : List Value} {fb : Nat} (h : A.ownsRow base 31 3 u n xs) (hg : A.grownBy B (some fb)) (hf : fb < base) : B.ownsRow base 31 3 u n xs := row_turn h hg (fun r e => by cases e; exact hf)
section
variable {V : World} {cb fb : Nat} {pv av ev : Value} {r : Int} {f b1 b2 b3 : Bool} {m : M9} {t : Pt} {P A E : List Pt} {g4 g5 g9 g13 g16 g17 : Value} {l4 l5 l9 l13 l16 l17 l18 : Bool} {w w' : World}
/-- A call that turns the frame's block alone. -/
theorem PG.on (h : PG V cb fb pv av ev r f b1 b2 b3 m t P A E g4 g5 g9 g13 g16 g17 l4 l5 l9 l13 l16 l17 l18 w) (hg : w.grownBy w' (some fb)) (hfV : fb < V.heap.size) (hcf : cb ≠ fb) :
    V.grownBy w' (some fb) ∧ Cells w' cb [pv, av, ev, .int .i64 r] ∧ (l5 = true → w'.ownsRow V.heap.size 31 3 g5 P.length (fl3 P)) ∧ (l9 = true → w'.ownsRow V.heap.size 31 3 g9 A.length (fl3 A)) ∧ (l13 = true → w'.ownsRow V.heap.size 31 3 g13 E.length (fl3 E)) ∧
    (l17 = true → ∃ b cs, g17 = .pointer (some ⟨b, 0, none⟩) ∧ V.heap.size ≤ b ∧ w'.heap[b]? = some (.cells cs 24 (0, 0)) ∧ cs.size = 4 ∧ (l18 = true → cs = #[g5, g9, g13, .int .i64 r])) ∧ (l4 = true → l5 = false → ∃ b, g4 = .func (.func 60) #[] #[.pointer (some ⟨b, 0, none⟩), .pointer (some ⟨b + 1, 0, none⟩)] ∧ V.heap.size ≤ b ∧ w'.cell? ⟨b, 0, none⟩ = some pv ∧ w'.cell? ⟨b + 1, 0, none⟩ = some (.func (.func 27) #[.pointer (some ⟨fb, 0, none⟩)] #[])) :=
  ⟨grown_le h.gr hg (fun r e => .inr e), h.cr.grew hg (fun r e => by cases e; exact fun e => hcf e.symm), fun e => own_grown (h.o5 e) hg hfV, fun e => own_grown (h.o9 e) hg hfV, fun e => own_grown (h.o13 e) hg hfV, fun e => by
    obtain ⟨b, cs, h1, h2, h3, h4⟩ := h.pd e
    exact ⟨b, cs, h1, h2, (hg.block b (Array.getElem?_eq_some_iff.1 h3).1 (fun e => by simp at e; omega)).trans h3, h4⟩, fun e e' => by
    obtain ⟨b, h1, h2, h3, h4⟩ := h.ea e e'
    exact ⟨b, h1, h2, hg.cell h3 (fun e => by simp at e; omega), hg.cell h4 (fun e => by simp at e; omega)⟩⟩
theorem PG.step (h : PG V cb fb pv av ev r f b1 b2 b3 m t P A E g4 g5 g9 g13 g16 g17 l4 l5 l9 l13 l16 l17 l18 w) (hb : Below w.heap.size w w') (hfV : fb < V.heap.size) (hcf : cb ≠ fb) : PG V cb fb pv av ev r f b1 b2 b3 m t P A E g4 g5 g9 g13 g16 g17 l4 l5 l9 l13 l16 l17 l18 w' := by
  obtain ⟨x1, x2, x3, x4, x5, x6, x7⟩ := h.on (below_grown hb _) hfV hcf
  exact ⟨x1, x2, h.fr.step hb, x3, x4, x5, h.s59, h.s53, h.s93, x7, h.bd, x6⟩
theorem apart_new {u u' : Value} {n b b' : Nat} {xs ys : List Value} {k : Nat} (h : w.ownsRow b 31 3 u n xs) (h' : w'.ownsRow w.heap.size 31 3 u' k ys) : ∀ j, u.ownBlock = some j → u'.ownBlock ≠ some j := fun j e e' => by
  have := (h.lt j e).2; have := (h'.lt j e').1; omega
theorem PG.get5 (h : PG V cb fb pv av ev r f b1 b2 b3 m t P A E g4 g5 g9 g13 g16 g17 l4 false l9 l13 l16 l17 l18 w) (hg : w.grownBy w' (some fb)) (hfV : fb < V.heap.size) (hcf : cb ≠ fb) {u : Value} (hu : w'.ownsRow w.heap.size 31 3 u P.length (fl3 P)) (hf : Cells w' fb (frL ((f || (false && b1) || (l9 && b2) || (l13 && b3)) || b1) m t)) (h16 : l16 = false) (h18 : l18 = false) :
    PG V cb fb pv av ev r f b1 b2 b3 m t P A E g4 u g9 g13 g16 g17 l4 true l9 l13 l16 l17 l18 w' := by
  obtain ⟨x1, x2, x3, x4, x5, x6, x7⟩ := h.on hg hfV hcf
  refine ⟨x1, x2, ?_, fun _ => own_le hu h.gr.size, x4, x5, fun _ e k e1 e2 => apart_new (b' := 0) (h.o9 e) hu k e2 e1, fun _ e k e1 e2 => apart_new (b' := 0) (h.o13 e) hu k e2 e1, h.s93, fun _ e => (by cases e), fun e => (by rw [h16] at e; cases e), fun e => ?_⟩
  · revert hf; cases f <;> cases b1 <;> cases l9 <;> cases b2 <;> cases l13 <;> cases b3 <;> exact id
  · obtain ⟨b, cs, y1, y2, y3, y4, y5⟩ := x6 e
    exact ⟨b, cs, y1, y2, y3, y4, fun e => (by rw [h18] at e; cases e)⟩
theorem PG.get9 (h : PG V cb fb pv av ev r f b1 b2 b3 m t P A E g4 g5 g9 g13 g16 g17 l4 l5 false l13 l16 l17 l18 w) (hg : w.grownBy w' (some fb)) (hfV : fb < V.heap.size) (hcf : cb ≠ fb) {u : Value} (hu : w'.ownsRow w.heap.size 31 3 u A.length (fl3 A)) (hf : Cells w' fb (frL ((f || (l5 && b1) || (false && b2) || (l13 && b3)) || b2) m t)) (h16 : l16 = false) (h18 : l18 = false) :
    PG V cb fb pv av ev r f b1 b2 b3 m t P A E g4 g5 u g13 g16 g17 l4 l5 true l13 l16 l17 l18 w' := by
  obtain ⟨x1, x2, x3, x4, x5, x6, x7⟩ := h.on hg hfV hcf
  refine ⟨x1, x2, ?_, x3, fun _ => own_le hu h.gr.size, x5, fun e _ k e1 e2 => apart_new (b' := 0) (h.o5 e) hu k e1 e2, h.s53, fun _ e k e1 e2 => apart_new (b' := 0) (h.o13 e) hu k e2 e1, x7, fun e => (by rw [h16] at e; cases e), fun e => ?_⟩
  · revert hf; cases f <;> cases b1 <;> cases l5 <;> cases b2 <;> cases l13 <;> cases b3 <;> exact id
  · obtain ⟨b, cs, y1, y2, y3, y4, y5⟩ := x6 e
    exact ⟨b, cs, y1, y2, y3, y4, fun e => (by rw [h18] at e; cases e)⟩
theorem PG.get13 (h : PG V cb fb pv av ev r f b1 b2 b3 m t P A E g4 g5 g9 g13 g16 g17 l4 l5 l9 false l16 l17 l18 w) (hg : w.grownBy w' (some fb)) (hfV : fb < V.heap.size) (hcf : cb ≠ fb) {u : Value} (hu : w'.ownsRow w.heap.size 31 3 u E.length (fl3 E)) (hf : Cells w' fb (frL ((f || (l5 && b1) || (l9 && b2) || (false && b3)) || b3) m t)) (h16 : l16 = false) (h18 : l18 = false) :
    PG V cb fb pv av ev r f b1 b2 b3 m t P A E g4 g5 g9 u g16 g17 l4 l5 l9 true l16 l17 l18 w' := by
  obtain ⟨x1, x2, x3, x4, x5, x6, x7⟩ := h.on hg hfV hcf
  refine ⟨x1, x2, ?_, x3, x4, fun _ => own_le hu h.gr.size, h.s59, fun e _ k e1 e2 => apart_new (b' := 0) (h.o5 e) hu k e1 e2, fun e _ k e1 e2 => apart_new (b' := 0) (h.o9 e) hu k e1 e2, x7, fun e => (by rw [h16] at e; cases e), fun e => ?_⟩
  · revert hf; cases f <;> cases b1 <;> cases l5 <;> cases b2 <;> cases l9 <;> cases b3 <;> exact id
  · obtain ⟨b, cs, y1, y2, y3, y4, y5⟩ := x6 e
    exact ⟨b, cs, y1, y2, y3, y4, fun e => (by rw [h18] at e; cases e)⟩
theorem PG.build (h : PG V cb fb pv av ev r f b1 b2 b3 m t P A E g4 g5 g9 g13 g16 g17 l4 l5 l9 l13 l16 l17 l18 w) : PG V cb fb pv av ev r f b1 b2 b3 m t P A E g4 g5 g9 g13 (.agg #[g5, g9, g13, .int .i64 r]) g17 l4 l5 l9 l13 true l17 l18 w :=
  ⟨h.gr, h.cr, h.fr, h.o5, h.o9, h.o13, h.s59, h.s53, h.s93, h.ea, fun _ => rfl, h.pd⟩
theorem PG.made (h : PG V cb fb pv av ev r f b1 b2 b3 m t P A E g4 g5 g9 g13 g16 g17 l4 l5 l9 l13 l16 l17 l18 w) (hfV : fb < V.heap.size) (hcf : cb ≠ fb) (h18 : l18 = false) : PG V cb fb pv av ev r f b1 b2 b3 m t P A E g4 g5 g9 g13 g16 (.pointer (some ⟨w.heap.size, 0, none⟩)) l4 l5 l9 l13 l16 true l18 (w.alloc (.cells #[.slice none 0 0, .slice none 0 0, .slice none 0 0, .int .i64 0] 24)) := by
  have h9 := h.step (n_after w (.cells #[.slice none 0 0, .slice none 0 0, .slice none 0 0, .int .i64 0] 24)) hfV hcf
  exact ⟨h9.gr, h9.cr, h9.fr, h9.o5, h9.o9, h9.o13, h9.s59, h9.s53, h9.s93, h9.ea, h9.bd, fun _ => ⟨w.heap.size, _, rfl, h.gr.size, heap_alloc_new _ _, rfl, fun e => (by rw [h18] at e; cases e)⟩⟩
theorem PG.fill (h : PG V cb fb pv av ev r f b1 b2 b3 m t P A E g4 g5 g9 g13 g16 g17 l4 true true true l16 true l18 w) (hcV : cb < V.heap.size) (hfV : fb < V.heap.size) {b : Nat} {cs : Array Value} (e17 : g17 = .pointer (some ⟨b, 0, none⟩)) (hb : V.heap.size ≤ b) (hx : w.heap[b]? = some (.cells cs 24 (0, 0))) (hcs : cs.size = 4) :
    PG V cb fb pv av ev r f b1 b2 b3 m t P A E g4 g5 g9 g13 g16 g17 l4 true true true l16 true true (set4 w b g5 g9 g13 (.int .i64 r)) := by
  have hr : ∀ {u : Value} {n : Nat} {xs : List Value}, w.ownsRow V.heap.size 31 3 u n xs → u.ownBlock ≠ some b := fun h9 e => by
    rcases h9.2 with ⟨rfl, _⟩ | ⟨g, cap, cur, rfl, _, hgb, _⟩
    · cases e
    · have : g = b := by simpa [Value.ownBlock] using e
      subst this
      rw [hx] at hgb
      simp at hgb
  have gs : w.grownBy (set4 w b g5 g9 g13 (.int .i64 r)) (some b) := ⟨rfl, rfl, rfl, by rw [set4_size]; exact Nat.le_refl _, fun k _ hk => by
    have hk' : k ≠ b := fun e => hk (by rw [e])
    unfold set4
    rw [Below.heap_setCell _ _ _ _ hk', Below.heap_setCell _ _ _ _ hk', Below.heap_setCell _ _ _ _ hk', Below.heap_setCell _ _ _ _ hk']⟩
  obtain ⟨q0, q1, q2, q3, rfl⟩ : ∃ q0 q1 q2 q3, cs = #[q0, q1, q2, q3] := by
    obtain ⟨l⟩ := cs
    match l, hcs with
    | [a, b, c, d], _ => exact ⟨a, b, c, d, rfl⟩
  refine ⟨grown_le h.gr gs (fun r e => by cases e; exact .inl hb), h.cr.grew gs (fun r e => by cases e; omega), h.fr.grew gs (fun r e => by cases e; omega), fun _ => own_set4 (h.o5 rfl) (hr (h.o5 rfl)) _ _ _ _, fun _ => own_set4 (h.o9 rfl) (hr (h.o9 rfl)) _ _ _ _, fun _ => own_set4 (h.o13 rfl) (hr (h.o13 rfl)) _ _ _ _, h.s59, h.s53, h.s93, fun _ e => (by cases e), h.bd, fun _ => ⟨b, #[g5, g9, g13, .int .i64 r], e17, hb, ?_, rfl, fun _ => rfl⟩⟩
  have y0 := Go.heap_setCell_same w b 0 _ _ g5 hx
  have y1 := Go.heap_setCell_same _ b 1 _ _ g9 y0
  have y2 := Go.heap_setCell_same _ b 2 _ _ g13 y1
  have y3 := Go.heap_setCell_same _ b 3 _ _ (.int .i64 r) y2
  simpa [set4] using y3
theorem PG.each (h : PG V cb fb pv av ev r f b1 b2 b3 m t P A E g4 g5 g9 g13 g16 g17 l4 l5 l9 l13 l16 l17 l18 w) (hb : Below w.heap.size w w') (hfV : fb < V.heap.size) (hcf : cb ≠ fb) {b : Nat} (hVb : V.heap.size ≤ b) (h1 : w'.cell? ⟨b, 0, none⟩ = some pv) (h2 : w'.cell? ⟨b + 1, 0, none⟩ = some (.func (.func 27) #[.pointer (some ⟨fb, 0, none⟩)] #[])) :
    PG V cb fb pv av ev r f b1 b2 b3 m t P A E (.func (.func 60) #[] #[.pointer (some ⟨b, 0, none⟩), .pointer (some ⟨b + 1, 0, none⟩)]) g5 g9 g13 g16 g17 true l5 l9 l13 l16 l17 l18 w' := by
  have h9 := h.step hb hfV hcf
  exact ⟨h9.gr, h9.cr, h9.fr, h9.o5, h9.o9, h9.o13, h9.s59, h9.s53, h9.s93, fun _ _ => ⟨b, rfl, hVb, h1, h2⟩, h9.bd, h9.pd⟩
end
theorem arr4' {cs : Array Value} (h : cs.size = 4) : ∃ u0 u1 u2 u3, cs = #[u0, u1, u2, u3] := by
  obtain ⟨l⟩ := cs
  match l, h with
  | [a, b, c, d], _ => exact ⟨a, b, c, d, rfl⟩
set_option maxHeartbeats 1000000 in
/-- A list's points, each where it comes to. -/
theorem gather_points (fb b : Nat) (f : Bool) (m : M9) (t : Pt) (P : List Pt) (o : Option Addr) (cap : Nat) (w : World) (hF : Cells w fb (frL f m t)) (hv : Lies w (.slice o P.length cap) P) (hne : ∀ q n c, Value.slice o P.length cap = .slice (some q) n c → P ≠ [] → q.block ≠ fb)
    (cp : w.cell? ⟨b, 0, none⟩ = some (.slice o P.length cap)) (cf : w.cell? ⟨b + 1, 0, none⟩ = some (.func (.func 27) #[.pointer (some ⟨fb, 0, none⟩)] #[])) (h2 : b + 1 ≠ fb) (hN : P.length < 1099511627776) :
    Calls Tryz.prog 25 #[.func (.func 60) #[] #[.pointer (some ⟨b, 0, none⟩), .pointer (some ⟨b + 1, 0, none⟩)]] w fun e W => ∃ u, e = .returned u ∧ W.ownsRow w.heap.size 31 3 u (P.map (m.ptV t)).length (fl3 (P.map (m.ptV t))) ∧ w.grownBy W (some fb) ∧ Cells W fb (frL (f || P.any (m.ptB t)) m t) := by
  have hlt := hF.lt
  refine Calls.mono (gathered_any 60 #[.pointer (some ⟨b, 0, none⟩), .pointer (some ⟨b + 1, 0, none⟩)] (fun k => m.ptV t (pt P k)) (some fb) (fun x => x < w.heap.size) (fun k X => Cells X fb (frL (f || anyK (fun k => m.ptB t (pt P k)) k) m t)) P.length w (enters_of Tryz.func60 (by kernel_rfl) rfl)
    (fun W hb => each_tells_pt 8 b (b + 1) P o cap 27 #[.pointer (some ⟨fb, 0, none⟩)] #[] (fun k => (m.ptV t (pt P k)).v) (some fb) (fun x => x < w.heap.size) (fun k X => Cells X fb (frL (f || anyK (fun k => m.ptB t (pt P k)) k) m t)) W
      (enters_of Tryz.func27 (by kernel_rfl) rfl) (hv.below hb) (c_after hb cp) (c_after hb cf) (fun q e h0 => ?_) ⟨World.block_lt_of_cell? _ _ cf, fun e => h2 (by simpa using e)⟩ (fun x hx => Nat.lt_of_lt_of_le hx hb.size)
      (fun X hX => by simpa [anyK] using (hF.step hb).step hX) (fun k X Y hs hk => Cells.keepO hs hk hlt)
      (fun k X hk hs => (point_any fb _ m t (pt P k) X hs).mono fun e X' h => ⟨h.1, after_grown h.2.out, by have h9 := Cells.after hs h.2.out; rw [Bool.or_assoc] at h9; exact h9⟩))
    (fun x hx => hx) (fun r e => by cases e; exact hlt) (fun k X Y r2 hs hg hr => Cells.grew hs hg (fun r e => by have := hr r e; omega)) hN) ?_
  · subst e
    exact ⟨hv.lt h0, fun e => hne q _ _ rfl h0 (by simpa using e)⟩
  · rintro e W ⟨u, rfl, h3, h4, h5⟩
    rw [firsts_map] at h3
    rw [anyK_any] at h5
    exact ⟨u, rfl, by rw [List.length_map]; exact h3, h4, h5⟩
end Go.Proofs.YtocdompopadanaaGreat
