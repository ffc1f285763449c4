/- A right core at a right pose: what it lies within; laid into a box. -/
import Derived.Test.YtocdompopadanaaGreatKPsN
import Derived.Test.YtocdompopadanaaGreatKPsQ
namespace Go.Proofs.YtocdompopadanaaGreat
open Go.RowKit Go.Shelf
set_option linter.unusedVariables false

theorem lowI_le (a b : Int) : lowI a b ≤ a ∧ lowI a b ≤ b ∧ (lowI a b = a ∨ lowI a b = b) := by unfold lowI; split <;> omega
theorem highI_le (a b : Int) : a ≤ highI a b ∧ b ≤ highI a b ∧ (highI a b = a ∨ highI a b = b) := by unfold highI; split <;> omega
/-- A box within m, with these points in it. -/
structure HasP (b : Bx) (m : Int) (P : List Pt) (k : Nat) : Prop where
  lo : b.lo.inB m = true
  hi : b.hi.inB m = true
  pts : ∀ i, i < k → (b.lo.x ≤ (pt P i).x ∧ (pt P i).x ≤ b.hi.x) ∧ (b.lo.y ≤ (pt P i).y ∧ (pt P i).y ≤ b.hi.y) ∧ (b.lo.z ≤ (pt P i).z ∧ (pt P i).z ≤ b.hi.z)
theorem span_has {P : List Pt} {m : Int} (h0 : 0 < P.length) (hP : ∀ p ∈ P, p.inB m = true) : ∀ k, k ≤ P.length → HasP (spanK P k) m P k
  | 0, _ => ⟨hP _ (pt_mem h0), hP _ (pt_mem h0), fun i hi => absurd hi (by omega)⟩
  | k + 1, hk => by
    have h := span_has h0 hP k (by omega)
    have hp := (Pt.inB_iff _ _).1 (hP _ (pt_mem (show k < P.length by omega)))
    have hl := (Pt.inB_iff _ _).1 h.lo
    have hh := (Pt.inB_iff _ _).1 h.hi
    have x1 := lowI_le (spanK P k).lo.x (pt P k).x
    have x2 := lowI_le (spanK P k).lo.y (pt P k).y
    have x3 := lowI_le (spanK P k).lo.z (pt P k).z
    have y1 := highI_le (spanK P k).hi.x (pt P k).x
    have y2 := highI_le (spanK P k).hi.y (pt P k).y
    have y3 := highI_le (spanK P k).hi.z (pt P k).z
    refine ⟨?_, ?_, fun i hi => ?_⟩
    · rw [Pt.inB_iff]
      show (-m ≤ lowI _ _ ∧ lowI _ _ ≤ m) ∧ (-m ≤ lowI _ _ ∧ lowI _ _ ≤ m) ∧ (-m ≤ lowI _ _ ∧ lowI _ _ ≤ m)
      dsimp only
      omega
    · rw [Pt.inB_iff]
      show (-m ≤ highI _ _ ∧ highI _ _ ≤ m) ∧ (-m ≤ highI _ _ ∧ highI _ _ ≤ m) ∧ (-m ≤ highI _ _ ∧ highI _ _ ≤ m)
      dsimp only
      omega
    · show (lowI _ _ ≤ _ ∧ _ ≤ highI _ _) ∧ (lowI _ _ ≤ _ ∧ _ ≤ highI _ _) ∧ (lowI _ _ ≤ _ ∧ _ ≤ highI _ _)
      dsimp only
      by_cases e : i = k
      · subst e; omega
      · have := h.pts i (by omega); omega
/-- What the law asks of a point and the span. -/
structure InSpan (b : Bx) (p : Pt) (r : Int) : Prop where
  x0 : decide (IntKind.i64.wrap (p.x - r) < b.lo.x) = false
  x1 : decide (IntKind.i64.wrap (p.x + r) > b.hi.x) = false
  y0 : decide (IntKind.i64.wrap (p.y - r) < b.lo.y) = false
  y1 : decide (IntKind.i64.wrap (p.y + r) > b.hi.y) = false
  z0 : decide (IntKind.i64.wrap (p.z - r) < b.lo.z) = false
  z1 : decide (IntKind.i64.wrap (p.z + r) > b.hi.z) = false
  meet : b.meet ⟨p, p⟩ = true
  join : b.join ⟨p, p⟩ = b
theorem span_in {P : List Pt} {r : Int} (h0 : 0 < P.length) (hP : ∀ p ∈ P, p.inB 8388608 = true) (hr : 1 ≤ r ∧ r ≤ 16384) {i : Nat} (hi : i < P.length) : InSpan (spanP P r) (pt P i) r := by
  have h := span_has h0 hP P.length (Nat.le_refl _)
  have hp := (Pt.inB_iff _ _).1 (hP _ (pt_mem hi))
  have hl := (Pt.inB_iff _ _).1 h.lo
  have hh := (Pt.inB_iff _ _).1 h.hi
  have hq := h.pts i hi
  have e : spanP P r = (spanK P P.length).grown r := by unfold spanP; rw [if_neg (fun e => by rw [e] at h0; simp at h0)]
  rw [e]
  generalize spanK P P.length = b at *
  generalize pt P i = p at *
  have g : b.grown r = ⟨⟨b.lo.x - r, b.lo.y - r, b.lo.z - r⟩, ⟨b.hi.x + r, b.hi.y + r, b.hi.z + r⟩⟩ := by
    unfold Bx.grown Pt.plus
    dsimp only
    simp only [IntKind.wrap_i64, Bx.mk.injEq, Pt.mk.injEq]
    omega
  rw [g]
  refine ⟨?_, ?_, ?_, ?_, ?_, ?_, ?_, ?_⟩
  · rw [decide_eq_false_iff_not, IntKind.wrap_i64]; dsimp only; omega
  · rw [decide_eq_false_iff_not, IntKind.wrap_i64]; dsimp only; omega
  · rw [decide_eq_false_iff_not, IntKind.wrap_i64]; dsimp only; omega
  · rw [decide_eq_false_iff_not, IntKind.wrap_i64]; dsimp only; omega
  · rw [decide_eq_false_iff_not, IntKind.wrap_i64]; dsimp only; omega
  · rw [decide_eq_false_iff_not, IntKind.wrap_i64]; dsimp only; omega
  · unfold Bx.meet Pt.le
    simp only [Bool.and_eq_true, decide_eq_true_eq]
    omega
  · unfold Bx.join Pt.lesser Pt.greater lowI highI
    simp only [Bx.mk.injEq, Pt.mk.injEq]
    refine ⟨⟨?_, ?_, ?_⟩, ⟨?_, ?_, ?_⟩⟩ <;> split <;> omega
/-- A right core at a right pose. -/
structure Came (t : Pt) (q : Q4) (P A E P2 A2 E2 : List Pt) : Prop where
  p : P2 = P.map ((rowsM q).ptV t)
  a : A2 = (rowsM q).dirs A
  e : E2 = (rowsM q).dirs E
  len : P2.length = P.length
  near : ∀ p ∈ P2, p.inB 8388608 = true
theorem place_right (t : Pt) (q : Q4) (ht : t.inB 5497558138880 = true) (hw : WM.Whole q.w q.x q.y q.z) (P A E : List Pt) (h0 : 0 < P.length) (hP : ∀ p ∈ P, p.inB 65536 = true) (hA : ∀ p ∈ A, p ≠ Pt.O ∧ p.short = p) (hE : ∀ p ∈ E, p ≠ Pt.O ∧ p.short = p) (nP : P.length < 1099511627776) (nA : A.length < 1099511627776) (nE : E.length < 1099511627776)
    (r : Int) (o o2 o3 : Option Addr) (c c2 c3 : Nat) (W : World) (l1 : Lies W (.slice o P.length c) P) (l2 : Lies W (.slice o2 A.length c2) A) (l3 : Lies W (.slice o3 E.length c3) E) :
    Calls Tryz.prog 8 #[.agg #[.slice o P.length c, .slice o2 A.length c2, .slice o3 E.length c3, .int .i64 r], poseV t q] W fun e W' => ∃ (P2 A2 E2 : List Pt) (vp va ve : Value), e = .returned (.tuple #[.agg #[vp, va, ve, .int .i64 r], .bool true]) ∧ Three W W' vp va ve P2 A2 E2 ∧ Came t q P A E P2 A2 E2 := by
  have hc := place_any t q P A E r _ _ _ W l1 l2 l3 nP nA nE
  rw [place_ok hw ht h0 hP (fun p hp => (short_g (hA p hp).1 (hA p hp).2).2) (fun p hp => (short_g (hE p hp).1 (hE p hp).2).2)] at hc
  refine Calls.mono hc ?_
  rintro e W' ⟨vp, va, ve, _, h⟩
  obtain ⟨rfl, h3⟩ := h rfl
  refine ⟨_, _, _, vp, va, ve, rfl, h3, rfl, rfl, rfl, List.length_map _, fun p hp => ?_⟩
  obtain ⟨x, hx, rfl⟩ := List.mem_map.1 hp
  obtain ⟨_, _, _, _, _, e9⟩ := point_some (rows_fit hw).2 ht (hP x hx)
  exact e9
theorem Three.fill {w0 W : World} {vp va ve : Value} {P A E : List Pt} {b : Nat} {cs : Array Value} (h : Three w0 W vp va ve P A E) (hb : w0.heap.size ≤ b) (hx : W.heap[b]? = some (.cells cs 24 (0, 0))) (v0 v1 v2 v3 : Value) : Three w0 (set4 W b v0 v1 v2 v3) vp va ve P A E := by
  have hr : ∀ {u : Value} {n : Nat} {xs : List Value}, W.ownsRow w0.heap.size 31 3 u n xs → u.ownBlock ≠ some b := fun h9 e => by
    rcases h9.2 with ⟨rfl, _⟩ | ⟨g, cap, cur, rfl, _, hgb, _⟩
    · cases e
    · have : g = b := by simpa [Value.ownBlock] using e
      subst this
      rw [hx] at hgb
      simp at hgb
  exact h.set hb (hr h.rp) (hr h.ra) (hr h.re) _ _ _ _
theorem Three.up {w0 w1 W : World} {vp va ve : Value} {P A E : List Pt} (h : Three w1 W vp va ve P A E) (hb : Below w0.heap.size w0 w1) : Three w0 W vp va ve P A E :=
  ⟨own_le h.rp hb.size, own_le h.ra hb.size, own_le h.re hb.size, h.pa, h.pe, h.ae, hb.trans (h.below.mono hb.size)⟩
def cp0 : Value → Value
  | .tuple vs => vs.getD 0 undef
  | _ => undef
/-- While a right core is placed at a right pose, and laid into a box. -/
structure SG (X : World) (sr : Int) (Ps As Es : List Pt) (g2 g3 g4 g5 g7 : Value) (l2 l3 l4 l5 l7 l8 : Bool) (w : World) : Prop where
  be : Below X.heap.size X w
  t3 : l3 = true → ∃ (P2 A2 E2 : List Pt) (vp va ve : Value) (t : Pt) (q : Q4), g3 = .tuple #[.agg #[vp, va, ve, .int .i64 sr], .bool true] ∧ Three X w vp va ve P2 A2 E2 ∧ Came t q Ps As Es P2 A2 E2
  m4 : l4 = true → g4 = g3
  m5 : l5 = true → g5 = cp0 g3
  pd : l7 = true → ∃ b cs, g7 = .pointer (some ⟨b, 0, none⟩) ∧ X.heap.size ≤ b ∧ w.heap[b]? = some (.cells cs 24 (0, 0)) ∧ cs.size = 4 ∧ (l8 = true → l3 = true ∧ ∀ vp va ve, g3 = .tuple #[.agg #[vp, va, ve, .int .i64 sr], .bool true] → cs = #[vp, va, ve, .int .i64 sr])
section
variable {X w w' : World} {sr : Int} {Ps As Es : List Pt} {g2 g3 g4 g5 g7 : Value} {l2 l3 l4 l5 l7 l8 : Bool}
theorem SG.step (h : SG X sr Ps As Es g2 g3 g4 g5 g7 l2 l3 l4 l5 l7 l8 w) (hb : Below w.heap.size w w') : SG X sr Ps As Es g2 g3 g4 g5 g7 l2 l3 l4 l5 l7 l8 w' := by
  refine ⟨b_step h.be hb, fun e => ?_, h.m4, h.m5, fun e => ?_⟩
  · obtain ⟨P2, A2, E2, vp, va, ve, t, q, x1, x2, x3⟩ := h.t3 e
    exact ⟨P2, A2, E2, vp, va, ve, t, q, x1, x2.step hb, x3⟩
  · obtain ⟨b, cs, x1, x2, x3, x4, x5⟩ := h.pd e
    exact ⟨b, cs, x1, x2, (hb.block b (Array.getElem?_eq_some_iff.1 x3).1).trans x3, x4, x5⟩
theorem SG.got (h : SG X sr Ps As Es g2 g3 g4 g5 g7 l2 l3 l4 l5 l7 l8 w) (h4 : l4 = false) (h5 : l5 = false) (h8 : l8 = false) {P2 A2 E2 : List Pt} {vp va ve : Value} {t : Pt} {q : Q4} (hT : Three w w' vp va ve P2 A2 E2) (hC : Came t q Ps As Es P2 A2 E2) :
    SG X sr Ps As Es g2 (.tuple #[.agg #[vp, va, ve, .int .i64 sr], .bool true]) g4 g5 g7 l2 true l4 l5 l7 l8 w' := by
  have h9 := h.step hT.below
  refine ⟨h9.be, fun _ => ⟨P2, A2, E2, vp, va, ve, t, q, rfl, hT.up h.be, hC⟩, fun e => (by rw [h4] at e; cases e), fun e => (by rw [h5] at e; cases e), fun e => ?_⟩
  obtain ⟨b, cs, x1, x2, x3, x4, _⟩ := h9.pd e
  exact ⟨b, cs, x1, x2, x3, x4, fun e => (by rw [h8] at e; cases e)⟩
theorem SG.made (h : SG X sr Ps As Es g2 g3 g4 g5 g7 l2 l3 l4 l5 l7 l8 w) (h8 : l8 = false) : SG X sr Ps As Es g2 g3 g4 g5 (.pointer (some ⟨w.heap.size, 0, none⟩)) l2 l3 l4 l5 true l8 (w.alloc (.cells #[.slice none 0 0, .slice none 0 0, .slice none 0 0, .int .i64 0] 24)) := by
  have h9 := h.step (n_after w (.cells #[.slice none 0 0, .slice none 0 0, .slice none 0 0, .int .i64 0] 24))
  exact ⟨h9.be, h9.t3, h9.m4, h9.m5, fun _ => ⟨w.heap.size, _, rfl, h.be.size, heap_alloc_new _ _, rfl, fun e => (by rw [h8] at e; cases e)⟩⟩
theorem SG.fill (h : SG X sr Ps As Es g2 g3 g4 g5 g7 l2 true l4 l5 true l8 w) {b : Nat} {cs : Array Value} (e7 : g7 = .pointer (some ⟨b, 0, none⟩)) (hb : X.heap.size ≤ b) (hx : w.heap[b]? = some (.cells cs 24 (0, 0))) (hcs : cs.size = 4) {vp va ve : Value} (e3 : g3 = .tuple #[.agg #[vp, va, ve, .int .i64 sr], .bool true]) :
    SG X sr Ps As Es g2 g3 g4 g5 g7 l2 true l4 l5 true true (set4 w b vp va ve (.int .i64 sr)) := by
  obtain ⟨q0, q1, q2, q3, rfl⟩ := arr4' hcs
  refine ⟨set4_below h.be hb _ _ _ _, fun _ => ?_, h.m4, h.m5, fun _ => ⟨b, #[vp, va, ve, .int .i64 sr], e7, hb, ?_, rfl, fun _ => ⟨rfl, fun vp' va' ve' e' => ?_⟩⟩⟩
  · obtain ⟨P2, A2, E2, vp, va, ve, t, q, x1, x2, x3⟩ := h.t3 rfl
    exact ⟨P2, A2, E2, vp, va, ve, t, q, x1, x2.fill hb hx _ _ _ _, x3⟩
  · have y0 := Go.heap_setCell_same w b 0 _ _ vp hx
    have y1 := Go.heap_setCell_same _ b 1 _ _ va y0
    have y2 := Go.heap_setCell_same _ b 2 _ _ ve y1
    have y3 := Go.heap_setCell_same _ b 3 _ _ (.int .i64 sr) y2
    simpa [set4] using y3
  · rw [e3] at e'
    simp only [Value.tuple.injEq, Array.mk.injEq, List.cons.injEq, Value.agg.injEq, and_true] at e'
    obtain ⟨rfl, rfl, rfl⟩ := e'
    rfl
end
end Go.Proofs.YtocdompopadanaaGreat
