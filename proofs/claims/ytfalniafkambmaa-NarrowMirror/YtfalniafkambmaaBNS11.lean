/- A right core at a right pose: what it lies within; laid into a box. -/
import Derived.Test.YtfalniafkambmaaBNS7
import Derived.Test.YtfalniafkambmaaBNS10
import Derived.Test.YtfalniafkambmaaBNS2
import Derived.Test.YtfalniafkambmaaBNS0
import Derived.Test.YtfalniafkambmaaBNS4
import Derived.Laws.OwnMore
import Derived.Maps.AppendAt
namespace Go.Proofs.Ytfalniafkambmaa
open Go.RowKit Go.Shelf
set_option linter.unusedVariables false

/-- A right core at a right pose. -/
structure Came (t : Pt) (q : Q4) (P A E P2 A2 E2 : List Pt) : Prop where
  p : P2 = P.map ((rowsM q).ptV t)
  a : A2 = (rowsM q).dirs A
  e : E2 = (rowsM q).dirs E
  len : P2.length = P.length
  near : ∀ p ∈ P2, p.inB 8388608 = true
  wh : WM.Whole q.w q.x q.y q.z
theorem Three.fill {w0 W : World} {vp va ve : Value} {P A E : List Pt} {b : Nat} {cs : Array Value} (h : Three w0 W vp va ve P A E) (hb : w0.heap.size ≤ b) (hx : W.heap[b]? = some (.cells cs 36 (0, 0))) (v0 v1 v2 v3 : Value) : Three w0 (set4 W b v0 v1 v2 v3) vp va ve P A E := by
  have hr : ∀ {u : Value} {n : Nat} {xs : List Value}, W.ownsRow w0.heap.size 23 3 u n xs → u.ownBlock ≠ some b := fun h9 e => by
    rcases h9.2 with ⟨rfl, _⟩ | ⟨g, cap, cur, rfl, _, hgb, _⟩
    · cases e
    · have : g = b := by simpa [Value.ownBlock] using e
      subst this
      rw [hx] at hgb
      simp at hgb
  exact h.set hb (hr h.rp) (hr h.ra) (hr h.re) _ _ _ _
theorem Three.up {w0 w1 W : World} {vp va ve : Value} {P A E : List Pt} (h : Three w1 W vp va ve P A E) (hb : Below w0.heap.size w0 w1) : Three w0 W vp va ve P A E :=
  ⟨own_le h.rp hb.size, own_le h.ra hb.size, own_le h.re hb.size, h.pa, h.pe, h.ae, hb.trans (h.below.mono hb.size)⟩
def cp0 : Value → Value
  | .tuple vs => vs.getD 0 undef
  | _ => undef
/-- While a right core is placed at a right pose, and laid into a box. -/
structure SG (X : World) (sr : Int) (Ps As Es : List Pt) (g2 g3 g4 g5 g7 : Value) (l2 l3 l4 l5 l7 l8 : Bool) (w : World) : Prop where
  be : Below X.heap.size X w
  t3 : l3 = true → ∃ (P2 A2 E2 : List Pt) (vp va ve : Value) (t : Pt) (q : Q4), g3 = .tuple #[.agg #[vp, va, ve, .int .i64 sr], .bool true] ∧ Three X w vp va ve P2 A2 E2 ∧ Came t q Ps As Es P2 A2 E2
  m4 : l4 = true → g4 = g3
  m5 : l5 = true → g5 = cp0 g3
  pd : l7 = true → ∃ b cs, g7 = .pointer (some ⟨b, 0, none⟩) ∧ X.heap.size ≤ b ∧ w.heap[b]? = some (.cells cs 36 (0, 0)) ∧ cs.size = 4 ∧ (l8 = true → l3 = true ∧ ∀ vp va ve, g3 = .tuple #[.agg #[vp, va, ve, .int .i64 sr], .bool true] → cs = #[vp, va, ve, .int .i64 sr])
section
variable {X w w' : World} {sr : Int} {Ps As Es : List Pt} {g2 g3 g4 g5 g7 : Value} {l2 l3 l4 l5 l7 l8 : Bool}
theorem SG.step (h : SG X sr Ps As Es g2 g3 g4 g5 g7 l2 l3 l4 l5 l7 l8 w) (hb : Below w.heap.size w w') : SG X sr Ps As Es g2 g3 g4 g5 g7 l2 l3 l4 l5 l7 l8 w' := by
  refine ⟨b_step h.be hb, fun e => ?_, h.m4, h.m5, fun e => ?_⟩
  · obtain ⟨P2, A2, E2, vp, va, ve, t, q, x1, x2, x3⟩ := h.t3 e
    exact ⟨P2, A2, E2, vp, va, ve, t, q, x1, x2.step hb, x3⟩
  · obtain ⟨b, cs, x1, x2, x3, x4, x5⟩ := h.pd e
    exact ⟨b, cs, x1, x2, (hb.block b (Array.getElem?_eq_some_iff.1 x3).1).trans x3, x4, x5⟩
theorem SG.got (h : SG X sr Ps As Es g2 g3 g4 g5 g7 l2 l3 l4 l5 l7 l8 w) (h4 : l4 = false) (h5 : l5 = false) (h8 : l8 = false) {P2 A2 E2 : List Pt} {vp va ve : Value} {t : Pt} {q : Q4} (hT : Three w w' vp va ve P2 A2 E2) (hC : Came t q Ps As Es P2 A2 E2) :
    SG X sr Ps As Es g2 (.tuple #[.agg #[vp, va, ve, .int .i64 sr], .bool true]) g4 g5 g7 l2 true l4 l5 l7 l8 w' := by
  have h9 := h.step hT.below
  refine ⟨h9.be, fun _ => ⟨P2, A2, E2, vp, va, ve, t, q, rfl, hT.up h.be, hC⟩, fun e => (by rw [h4] at e; cases e), fun e => (by rw [h5] at e; cases e), fun e => ?_⟩
  obtain ⟨b, cs, x1, x2, x3, x4, _⟩ := h9.pd e
  exact ⟨b, cs, x1, x2, x3, x4, fun e => (by rw [h8] at e; cases e)⟩
theorem SG.made (h : SG X sr Ps As Es g2 g3 g4 g5 g7 l2 l3 l4 l5 l7 l8 w) (h8 : l8 = false) : SG X sr Ps As Es g2 g3 g4 g5 (.pointer (some ⟨w.heap.size, 0, none⟩)) l2 l3 l4 l5 true l8 (w.alloc (.cells #[.slice none 0 0, .slice none 0 0, .slice none 0 0, .int .i64 0] 36)) := by
  have h9 := h.step (n_after w (.cells #[.slice none 0 0, .slice none 0 0, .slice none 0 0, .int .i64 0] 36))
  exact ⟨h9.be, h9.t3, h9.m4, h9.m5, fun _ => ⟨w.heap.size, _, rfl, h.be.size, heap_alloc_new _ _, rfl, fun e => (by rw [h8] at e; cases e)⟩⟩
theorem SG.fill (h : SG X sr Ps As Es g2 g3 g4 g5 g7 l2 true l4 l5 true l8 w) {b : Nat} {cs : Array Value} (e7 : g7 = .pointer (some ⟨b, 0, none⟩)) (hb : X.heap.size ≤ b) (hx : w.heap[b]? = some (.cells cs 36 (0, 0))) (hcs : cs.size = 4) {vp va ve : Value} (e3 : g3 = .tuple #[.agg #[vp, va, ve, .int .i64 sr], .bool true]) :
    SG X sr Ps As Es g2 g3 g4 g5 g7 l2 true l4 l5 true true (set4 w b vp va ve (.int .i64 sr)) := by
  obtain ⟨q0, q1, q2, q3, rfl⟩ := arr4' hcs
  refine ⟨set4_below h.be hb _ _ _ _, fun _ => ?_, h.m4, h.m5, fun _ => ⟨b, #[vp, va, ve, .int .i64 sr], e7, hb, ?_, rfl, fun _ => ⟨rfl, fun vp' va' ve' e' => ?_⟩⟩⟩
  · obtain ⟨P2, A2, E2, vp, va, ve, t, q, x1, x2, x3⟩ := h.t3 rfl
    exact ⟨P2, A2, E2, vp, va, ve, t, q, x1, x2.fill hb hx _ _ _ _, x3⟩
  · have y0 := Go.heap_setCell_same w b 0 _ _ vp hx
    have y1 := Go.heap_setCell_same _ b 1 _ _ va y0
    have y2 := Go.heap_setCell_same _ b 2 _ _ ve y1
    have y3 := Go.heap_setCell_same _ b 3 _ _ (.int .i64 sr) y2
    simpa [set4] using y3
  · rw [e3] at e'
    simp only [Value.tuple.injEq, Array.mk.injEq, List.cons.injEq, Value.agg.injEq, and_true] at e'
    obtain ⟨rfl, rfl, rfl⟩ := e'
    rfl
end
end Go.Proofs.Ytfalniafkambmaa
namespace Go.Proofs.Ytfalniafkambmaa
open Go.RowKit Go.Shelf
set_option linter.unusedVariables false

set_option maxHeartbeats 2000000 in
theorem rin6_any (p : Pt) (m : Int) (w : World) (hm : 0 ≤ m ∧ m ≤ 4611686018427387903) :
    Calls Try.prog 38 #[p.v, .int .i64 m] w fun e W => e = .returned (.bool (p.inB m)) ∧ Below w.heap.size w W := by
  have HI : Hid (p.inB m = decide ((-m ≤ p.x ∧ p.x ≤ m) ∧ (-m ≤ p.y ∧ p.y ≤ m) ∧ (-m ≤ p.z ∧ p.z ≤ m))) := rfl
  obtain ⟨R9, hR9⟩ : ∃ R9, p.inB m = R9 := ⟨_, rfl⟩
  rw [hR9] at HI ⊢
  clear hR9
  obtain ⟨x, y, z⟩ := p
  unfold Pt.v
  dsimp only at *
  obtain ⟨mm, hmm⟩ : ∃ mm, IntKind.i64.wrap (-m) = mm := ⟨_, rfl⟩
  have hm9 : mm = -m := by rw [← hmm, IntKind.wrap_i64]; omega
  rw [← hm9] at HI
  have HM : Hid _ := hm
  clear hm9 hm
  by_cases h1 : mm ≤ x
  · by_cases h2 : x ≤ m
    · by_cases h3 : mm ≤ y
      · by_cases h4 : y ≤ m
        · by_cases h5 : mm ≤ z
          · by_cases h6 : z ≤ m
            · have e9 : R9 = true := by rw [HI.out]; simp [h1, h2, h3, h4, h5, h6]
              subst e9
              go_enter Try.func38, Try.ntmps38
              go_wp2
              go_ret
              exact ⟨rfl, n_after _ _⟩
            · have e9 : R9 = false := by rw [HI.out]; simp [h6]
              subst e9
              go_enter Try.func38, Try.ntmps38
              go_wp2
              go_ret
              exact ⟨rfl, n_after _ _⟩
          · have e9 : R9 = false := by rw [HI.out]; simp [h5]
            subst e9
            go_enter Try.func38, Try.ntmps38
            go_wp2
            go_ret
            exact ⟨rfl, n_after _ _⟩
        · have e9 : R9 = false := by rw [HI.out]; simp [h4]
          subst e9
          go_enter Try.func38, Try.ntmps38
          go_wp2
          go_ret
          exact ⟨rfl, n_after _ _⟩
      · have e9 : R9 = false := by rw [HI.out]; simp [h3]
        subst e9
        go_enter Try.func38, Try.ntmps38
        go_wp2
        go_ret
        exact ⟨rfl, n_after _ _⟩
    · have e9 : R9 = false := by rw [HI.out]; simp [h2]
      subst e9
      go_enter Try.func38, Try.ntmps38
      go_wp2
      go_ret
      exact ⟨rfl, n_after _ _⟩
  · have e9 : R9 = false := by rw [HI.out]; simp [h1]
    subst e9
    go_enter Try.func38, Try.ntmps38
    go_wp2
    go_ret
    exact ⟨rfl, n_after _ _⟩
set_option maxHeartbeats 1000000 in
theorem rtimes6_any (p : Pt) (n : Int) (w : World) :
    Calls Try.prog 41 #[p.v, .int .i64 n] w fun e W => e = .returned (p.times n).v ∧ Below w.heap.size w W := by
  obtain ⟨x, y, z⟩ := p
  unfold Pt.v Pt.times
  dsimp only at *
  obtain ⟨s1, h1⟩ : ∃ s, IntKind.i64.wrap (x * n) = s := ⟨_, rfl⟩
  obtain ⟨s2, h2⟩ : ∃ s, IntKind.i64.wrap (y * n) = s := ⟨_, rfl⟩
  obtain ⟨s3, h3⟩ : ∃ s, IntKind.i64.wrap (z * n) = s := ⟨_, rfl⟩
  rw [h1, h2, h3]
  go_enter Try.func41, Try.ntmps41
  go_wp2
  exact bodyPost_ret (v := .agg #[.int .i64 s1, .int .i64 s2, .int .i64 s3]) (by simp [results, Try.results41, go_sem]) rfl ⟨rfl, b_step (n_after _ _) (n_after _ _)⟩
theorem down_is {n : Int} (hn : -4611686018427387904 ≤ n ∧ n ≤ 4611686018427387903) : (n.tmod 1048576 < 0 → n.tdiv 1048576 - 1 = n / 1048576) ∧ (¬ n.tmod 1048576 < 0 → n.tdiv 1048576 = n / 1048576) := by
  have h1 := Int.tmod_add_mul_tdiv n 1048576
  have h2 := Int.tmod_lt_of_pos n (b := 1048576) (by decide)
  have h3 : -1048576 < n.tmod 1048576 := by
    have := Int.tmod_lt_of_pos (-n) (b := 1048576) (by decide)
    rw [Int.neg_tmod] at this
    omega
  omega
set_option maxHeartbeats 1000000 in
theorem rdown6_any (n : Int) (w : World) (hn : -4611686018427387904 ≤ n ∧ n ≤ 4611686018427387903) :
    Calls Try.prog 42 #[.int .i64 n] w fun e W => e = .returned (.int .i64 (n / 1048576)) ∧ W = w := by
  obtain ⟨d1, d2⟩ := down_is hn
  obtain ⟨r, hr⟩ : ∃ r, n / 1048576 = r := ⟨_, rfl⟩
  rw [hr] at d1 d2 ⊢
  have b1 : -4611686018427387904 ≤ n.tdiv 1048576 ∧ n.tdiv 1048576 ≤ 4611686018427387903 := by
    have e : (n.tdiv 1048576).natAbs = n.natAbs / 1048576 := Int.natAbs_tdiv n 1048576
    omega
  clear hr
  obtain ⟨t, ht⟩ : ∃ t, n.tdiv 1048576 = t := ⟨_, rfl⟩
  obtain ⟨u, hu⟩ : ∃ u, n.tmod 1048576 = u := ⟨_, rfl⟩
  have e1 : wrap64 (n.tdiv 1048576) = t := by rw [w64 (by omega) (by omega)]; exact ht
  rw [ht] at d1 d2 b1
  rw [hu] at d1 d2
  have e2 : wrap64 (t - 1) = t - 1 := w64 (by omega) (by omega)
  by_cases h : u < 0
  · have e3 : t - 1 = r := d1 h
    subst e3
    clear d1 d2 b1 hn ht
    go_enter Try.func42, Try.ntmps42
    go_wp2
    go_ret
    exact ⟨by simp [e1, e2], rfl⟩
  · have e3 : t = r := d2 h
    subst e3
    clear d1 d2 b1 hn ht
    go_enter Try.func42, Try.ntmps42
    go_wp2
    go_ret
    exact ⟨by simp, rfl⟩
end Go.Proofs.Ytfalniafkambmaa
namespace Go.Proofs.Ytfalniafkambmaa
open Go.RowKit Go.Shelf
set_option linter.unusedVariables false

theorem rvturn_pt (b off : Nat) (f : Bool) (m : M9) (x : Pt) (W : World) (hc : W.cell? ⟨b, off, none⟩ = some (.bool f)) (hf : W.frozen? ⟨b, off, none⟩ = false) :
    Calls Try.prog 40 #[.pointer (some ⟨b, off, none⟩), m.v, x.v] W fun e W' => e = .returned ((m.turn x).getD Pt.O).v ∧ Hid (After ⟨b, off, none⟩ (f || (m.turn x).isNone) W W') := by
  refine Calls.mono (rvturn_law b off f m.a0 m.a1 m.a2 m.a3 m.a4 m.a5 m.a6 m.a7 m.a8 x.x x.y x.z W hc hf) ?_
  rintro e W' ⟨v0, v1, v2, g, rfl, S3, A⟩
  obtain ⟨e1, e2⟩ := step3_pt S3.out
  unfold M9.turn
  rw [← e1, ← e2]
  exact ⟨rfl, A⟩
/-- A flag at work, and a list of the call's own beside it. -/
structure WS (w : World) (n0 : Nat) (V : World) (wb : Nat) (g : Bool) (u : Value) (M : List Pt) : Prop where
  lv : Leaves ⟨wb, 0, none⟩ w V
  fl : V.cell? ⟨wb, 0, none⟩ = some (.bool g)
  ff : V.frozen? ⟨wb, 0, none⟩ = false
  own : V.ownsRow n0 23 3 u M.length (fl3 M)
  hw : wb < w.heap.size
  hn : w.heap.size ≤ n0
section
variable {w V X : World} {wb n0 : Nat} {g g' : Bool} {u : Value} {M : List Pt}
theorem WS.step (h : WS w n0 V wb g u M) (hb : Below V.heap.size V X) : WS w n0 X wb g u M :=
  ⟨h.lv.step (hb.mono h.lv.size), c_after hb h.fl, f_after hb h.fl h.ff, own_below h.own hb, h.hw, h.hn⟩
theorem WS.after (h : WS w n0 V wb g u M) (A : After ⟨wb, 0, none⟩ g' V X) : WS w n0 X wb g' u M :=
  ⟨h.lv.same A, A.cell, A.frozen, row_turn h.own (after_grown A) (fun r e => by cases e; have := h.hw; have := h.hn; omega), h.hw, h.hn⟩
theorem WS.set3 (h : WS w n0 V wb g u M) {b : Nat} (hb : w.heap.size ≤ b) (hu : u.ownBlock ≠ some b) (x y z : Int) : WS w n0 (set3 V b x y z) wb g u M := by
  have hne : wb ≠ b := by have := h.hw; omega
  have hk : (Go.Proofs.Ytfalniafkambmaa.set3 V b x y z).heap[wb]? = V.heap[wb]? := by
    unfold Go.Proofs.Ytfalniafkambmaa.set3
    rw [Below.heap_setCell _ _ _ _ hne, Below.heap_setCell _ _ _ _ hne, Below.heap_setCell _ _ _ _ hne]
  exact ⟨((h.lv.set hb _).set hb _).set hb _, (World.cell?_of_block (w := V) (a := ⟨wb, 0, none⟩) hk).trans h.fl, (World.frozen?_of_block (w := V) (a := ⟨wb, 0, none⟩) hk).trans h.ff, ownsRow_setCell_other (ownsRow_setCell_other (ownsRow_setCell_other h.own hu _) hu _) hu _, h.hw, h.hn⟩
theorem WS.app {u' : Value} {p : Pt} (h : WS w n0 V wb g u M) (hr : X.ownsRow n0 23 3 u' (M.length + 1) (fl3 M ++ [.int .i64 p.x, .int .i64 p.y, .int .i64 p.z])) (hg : V.grownBy X u.ownBlock) : WS w n0 X wb g u' (M ++ [p]) := by
  have hne : ∀ k, u.ownBlock = some k → k ≠ wb := fun k e => by have := (h.own.lt k e).1; have := h.hw; have := h.hn; omega
  have hbl : X.heap[wb]? = V.heap[wb]? := hg.block wb (World.block_lt_of_cell? _ _ h.fl) (fun e => hne wb e.symm rfl)
  have hB : Below w.heap.size V X := by
    refine ⟨hg.os, hg.tape, hg.output, hg.size, fun k hk => ?_⟩
    by_cases hkV : k < V.heap.size
    · exact hg.block k hkV (fun e => by have := (h.own.lt k e.symm).1; have := h.hn; omega)
    · have := h.lv.size; omega
  refine ⟨h.lv.step hB, (World.cell?_of_block (w := V) (a := ⟨wb, 0, none⟩) hbl).trans h.fl, (World.frozen?_of_block (w := V) (a := ⟨wb, 0, none⟩) hbl).trans h.ff, ?_, h.hw, h.hn⟩
  rw [fl3_append, List.length_append]; exact hr
theorem WS.le (h : WS w n0 V wb g u M) : WS w w.heap.size V wb g u M := ⟨h.lv, h.fl, h.ff, own_le h.own h.hn, h.hw, Nat.le_refl _⟩
theorem big_nz {q : Pt} {n : Nat} (h : q.big n) : q.x = 0 → q.y = 0 → ¬ q.z = 0 := by
  intro a b c
  unfold Pt.big at h
  rw [a, b, c] at h
  have : 0 < 2 ^ n := Nat.pow_pos (by decide)
  simp only [Int.natAbs_zero] at h
  omega
theorem plus_two (q : Pt) : ∃ x2 y2 z2, q.plus q = ⟨x2, y2, z2⟩ ∧ IntKind.wrap .i64 (2 * q.x) = x2 ∧ IntKind.wrap .i64 (2 * q.y) = y2 ∧ IntKind.wrap .i64 (2 * q.z) = z2 := by
  refine ⟨_, _, _, ?_, rfl, rfl, rfl⟩
  unfold Pt.plus
  simp only [Int.two_mul]
theorem Cells.put3w {W : World} {b c : Nat} {vs : List Value} (h : Cells W b vs) (hn : b ≠ c) (x y z : Int) : Cells (set3 W c x y z) b vs := ((Cells.apart h hn 0 _).apart hn 1 _).apart hn 2 _
end

set_option maxHeartbeats 8000000 in
set_option maxRecDepth 100000 in
theorem rways_any (wb : Nat) (f : Bool) (m : M9) (Ls : List Pt) (v : Value) (w : World) (hc : w.cell? ⟨wb, 0, none⟩ = some (.bool f)) (hf : w.frozen? ⟨wb, 0, none⟩ = false) (hv : Lies w v Ls) (hne : ∀ q n c, v = .slice (some q) n c → Ls ≠ [] → q.block ≠ wb) (hN : Ls.length < 1099511627776) :
    Calls Try.prog 43 #[.pointer (some ⟨wb, 0, none⟩), m.v, v] w fun e W => (∃ u, (∀ p ∈ Ls, p.inB 1048576 = true) ∧ e = .returned (.tuple #[u, .bool true]) ∧ WS w w.heap.size W wb (f || Ls.any m.dirB) u (m.dirs Ls)) ∨ (∃ g, (∃ p ∈ Ls, p.inB 1048576 = false) ∧ e = .returned (.tuple #[.slice none 0 0, .bool false]) ∧ WS w w.heap.size W wb g (.slice none 0 0) []) := by
  obtain ⟨o, cap, rfl, hlc, hcm, hcell⟩ := hv.form
  have hwb : wb < w.heap.size := World.block_lt_of_cell? _ _ hc
  have HCL : Hid _ := hcell
  have HNE : Hid _ := hne
  have HIN : Hid (∀ p : Pt, ∀ mm : Int, (0 ≤ mm ∧ mm ≤ 4611686018427387903) → ∀ w', Calls Try.prog 38 #[p.v, .int .i64 mm] w' fun e W => e = .returned (.bool (p.inB mm)) ∧ Below w'.heap.size w' W) := fun p mm h w' => rin6_any p mm w' h
  obtain ⟨i0, hii, hiz, hisz, hib⟩ := info_parts point_info
  have HI : Hid _ := And.intro hii (And.intro hiz (And.intro hisz hib))
  clear hii hiz hisz hib hv hcell hne
  have HTU0 : Hid _ := fun (x : Pt) (w' : World) (g : Bool) => rvturn_pt wb 0 g m x w'
  have HDV : Hid (∀ p, m.dirV p = ((m.dirT p).quo 4096).short) := fun p => rfl
  have HDT : Hid (∀ p, m.dirT p = (m.turn (p.long.times 4096)).getD Pt.O ∧ m.dirB p = (m.turn (p.long.times 4096)).isNone) := fun p => ⟨rfl, rfl⟩
  have W0 : Hid (WS w (w.heap.size + 1) (w.alloc (.cells #[.int .i64 m.a0, .int .i64 m.a1, .int .i64 m.a2, .int .i64 m.a3, .int .i64 m.a4, .int .i64 m.a5, .int .i64 m.a6, .int .i64 m.a7, .int .i64 m.a8] 80)) wb f (.slice none 0 0) []) := ⟨(Leaves.refl _ _).alloc _, c_after (n_after _ _) hc, f_after (n_after _ _) hc hf, World.ownsRow_nil _ _ _ _, hwb, by omega⟩
  have M0 : Hid (Cells (w.alloc (.cells #[.int .i64 m.a0, .int .i64 m.a1, .int .i64 m.a2, .int .i64 m.a3, .int .i64 m.a4, .int .i64 m.a5, .int .i64 m.a6, .int .i64 m.a7, .int .i64 m.a8] 80)) w.heap.size [.int .i64 m.a0, .int .i64 m.a1, .int .i64 m.a2, .int .i64 m.a3, .int .i64 m.a4, .int .i64 m.a5, .int .i64 m.a6, .int .i64 m.a7, .int .i64 m.a8]) := Cells.new _ _ _
  clear hc hf
  obtain ⟨mb, hmb⟩ : ∃ b, b = w.heap.size := ⟨_, rfl⟩
  obtain ⟨w1, hw1⟩ : ∃ w1, w1 = w.alloc (.cells #[.int .i64 m.a0, .int .i64 m.a1, .int .i64 m.a2, .int .i64 m.a3, .int .i64 m.a4, .int .i64 m.a5, .int .i64 m.a6, .int .i64 m.a7, .int .i64 m.a8] 80) := ⟨_, rfl⟩
  rw [← hw1] at W0 M0
  rw [← hmb] at M0 W0
  have hmw : mb ≠ wb := by omega
  have hwm : w.heap.size ≤ mb := by omega
  unfold M9.v
  go_enter Try.func43, Try.ntmps43
  go_wp2_with (fail)
  rw [← hw1, ← hmb]
  clear hw1 hmb
  go_loopg [8, 9] Ls.length (fun gm s8 s9 wr => ∃ (i : Nat) (g : Bool) (u : Value), s9 = .int .i64 (i : Int) ∧ s8 = u ∧ i ≤ Ls.length ∧ gm = Ls.length - i ∧ Hid (WS w (mb + 1) wr wb g u (dirsK (fun k => m.dirV (pt Ls k)) i)) ∧ Hid (Cells wr mb [.int .i64 m.a0, .int .i64 m.a1, .int .i64 m.a2, .int .i64 m.a3, .int .i64 m.a4, .int .i64 m.a5, .int .i64 m.a6, .int .i64 m.a7, .int .i64 m.a8]) ∧ Hid (g = (f || anyK (fun k => m.dirB (pt Ls k)) i)) ∧ Hid (∀ j, j < i → (pt Ls j).inB 1048576 = true))
  case atStart => exact ⟨0, f, _, rfl, rfl, Nat.zero_le _, rfl, W0, M0, by show _ = _; simp [anyK], fun j hj => absurd hj (by omega)⟩
  case round =>
    clear W0 M0
    obtain ⟨i, g, u, rfl, rfl, hi, hgm, HWS, HMB, HGB, HAL⟩ := hrel
    have HG1 : Hid _ := hgm
    clear hgm
    obtain ⟨uo, uc, hu⟩ := rowp_form HWS.out.own
    subst hu
    by_cases hit : i < Ls.length
    · obtain ⟨g7, f7, rfl, x0, x1, x2⟩ := HCL.out i hit
      have hg7 : g7 ≠ wb := HNE.out ⟨g7, f7, none⟩ _ _ rfl (fun e => by rw [e] at hit; simp at hit)
      have x0 := (HWS.out.lv.other ⟨g7, f7 + i * 3, none⟩ (World.block_lt_of_cell? _ _ x0) hg7).1.trans x0
      have x1 := (HWS.out.lv.other ⟨g7, f7 + i * 3 + 1, none⟩ (World.block_lt_of_cell? _ _ x1) hg7).1.trans x1
      have x2 := (HWS.out.lv.other ⟨g7, f7 + i * 3 + 2, none⟩ (World.block_lt_of_cell? _ _ x2) hg7).1.trans x2
      have HMEM : Hid _ := pt_mem hit
      have HK1 : Hid (dirsK (fun k => m.dirV (pt Ls k)) (i + 1) = if m.dirV (pt Ls i) = Pt.O then dirsK (fun k => m.dirV (pt Ls k)) i else dirsK (fun k => m.dirV (pt Ls k)) i ++ [m.dirV (pt Ls i)]) := by
        show _ = _
        by_cases h : m.dirV (pt Ls i) = Pt.O
        · rw [if_pos h]; exact dirsK_no _ _ h
        · rw [if_neg h]; exact dirsK_yes _ _ h
      have HK2 : Hid (anyK (fun k => m.dirB (pt Ls k)) (i + 1) = (anyK (fun k => m.dirB (pt Ls k)) i || m.dirB (pt Ls i))) := rfl
      have hlm : (dirsK (fun k => m.dirV (pt Ls k)) i).length < 1099511627776 := by have := dirsK_length (fun k => m.dirV (pt Ls k)) i; omega
      have HAL1 : Hid ((pt Ls i).inB 1048576 = true → ∀ j, j < i + 1 → (pt Ls j).inB 1048576 = true) := fun h j hj => by
        by_cases e : j = i
        · subst e; exact h
        · exact HAL.out j (by omega)
      generalize hp : pt Ls i = p at *
      have HP : Hid _ := hp
      clear hp
      have HI1 : Hid _ := HIN.out p 1048576 (by decide)
      have HI2 : Hid _ := HIN.out p 524288 (by decide)
      obtain ⟨px, py, pz⟩ := p
      unfold Pt.v at HI1 HI2
      dsimp only at x0 x1 x2 HI1 HI2
      go_wp2_with (fail)
      refine Calls.mono (HI1.out _) ?_
      clear HI1
      rintro e V1 ⟨rfl, hb⟩
      have x0 := c_after hb x0
      have x1 := c_after hb x1
      have x2 := c_after hb x2
      have HWS : Hid _ := HWS.out.step hb
      have HMB : Hid _ := Cells.step HMB.out hb
      clear hb
      cases hin : Pt.inB ⟨px, py, pz⟩ 1048576 with
      | false =>
        clear HI2
        go_wp2_with (fail)
        refine bodyPost_ret (v := .tuple #[.slice none 0 0, .bool false]) (by simp [results, Try.results43, go_sem]) rfl ?_
        refine Or.inr ⟨g, ⟨_, HMEM.out, hin⟩, rfl, ?_⟩
        exact ⟨HWS.out.lv, HWS.out.fl, HWS.out.ff, World.ownsRow_nil _ _ _ _, HWS.out.hw, Nat.le_refl _⟩
      | true =>
        go_wp2_with (fail)
        refine Calls.mono (HI2.out _) ?_
        clear HI2 x0 x1 x2
        rintro e V2 ⟨rfl, hb⟩
        obtain ⟨pb, hpb⟩ : ∃ b, b = V1.heap.size := ⟨_, rfl⟩
        have HUP : Hid ((Value.slice uo (dirsK (fun k => m.dirV (pt Ls k)) i).length uc).ownBlock ≠ some pb) := fun e => by have := (HWS.out.own.lt pb e).2; omega
        have hpw : w.heap.size ≤ pb := by have := HWS.out.lv.size; omega
        have hpm : mb ≠ pb := by have := Cells.lt HMB.out; omega
        have hb9 := b_step (n_after V1 (.cells #[.int .i64 px, .int .i64 py, .int .i64 pz] 23)) hb
        have HWS : Hid _ := HWS.out.step hb9
        have HMB : Hid _ := Cells.step HMB.out hb9
        have HBX : Hid (Box3 V2 pb ⟨px, py, pz⟩) := by show Box3 _ _ _; rw [hpb]; exact (Box3.new V1 px py pz _).step hb
        rw [← hpb]
        clear hb hb9 hpb
        go_upto_block 2 with fail
        go_cut [12] from 34 to 51 (fun s12 wx => ∃ q : Pt, q = Pt.long ⟨px, py, pz⟩ ∧ Hid (Box3 wx pb q) ∧ Hid (WS w (mb + 1) wx wb g (.slice uo (dirsK (fun k => m.dirV (pt Ls k)) i).length uc) (dirsK (fun k => m.dirV (pt Ls k)) i)) ∧ Hid (Cells wx mb [.int .i64 m.a0, .int .i64 m.a1, .int .i64 m.a2, .int .i64 m.a3, .int .i64 m.a4, .int .i64 m.a5, .int .i64 m.a6, .int .i64 m.a7, .int .i64 m.a8]))
        case first =>
          by_cases hz : (⟨px, py, pz⟩ : Pt) = Pt.O
          · simp only [Pt.O, Pt.mk.injEq] at hz
            obtain ⟨rfl, rfl, rfl⟩ := hz
            obtain ⟨c0, c1, c2, f0, f1, f2⟩ := HBX.out
            dsimp only at c0 c1 c2
            have e5 : Pt.inB ⟨0, 0, 0⟩ 524288 = true := by decide
            rw [e5]
            go_wp2_with (fail)
            go_loopg [12] 1 (fun gk2 s12 wr2 => s12 = .bool true ∧ wr2 = V2)
            case atStart => exact ⟨rfl, rfl⟩
            case round =>
              obtain ⟨rfl, rfl⟩ := hrel
              go_wp2_with (fail)
              go_meet
              case rel => exact ⟨_, by decide, HBX, HWS, HMB⟩
          · have HB0 : Hid (Pt.big ⟨px, py, pz⟩ (20 - 20)) := big_zero hz
            have HLO : Hid (Pt.long ⟨px, py, pz⟩ = longF 20 ⟨px, py, pz⟩) := by show _ = _; unfold Pt.long; rw [if_neg hz]
            go_wp2_with (fail)
            go_loopg [12] 20 (fun gk s12 wr2 => ∃ q : Pt, s12 = .bool (q.inB 524288) ∧ Hid (Box3 wr2 pb q) ∧ Hid (WS w (mb + 1) wr2 wb g (.slice uo (dirsK (fun k => m.dirV (pt Ls k)) i).length uc) (dirsK (fun k => m.dirV (pt Ls k)) i)) ∧ Hid (Cells wr2 mb [.int .i64 m.a0, .int .i64 m.a1, .int .i64 m.a2, .int .i64 m.a3, .int .i64 m.a4, .int .i64 m.a5, .int .i64 m.a6, .int .i64 m.a7, .int .i64 m.a8]) ∧ gk ≤ 20 ∧ Hid (longF gk q = Pt.long ⟨px, py, pz⟩) ∧ Hid (q.big (20 - gk)))
            case atStart => exact ⟨⟨px, py, pz⟩, rfl, HBX, HWS, HMB, Nat.le_refl _, HLO.out.symm, HB0⟩
            case round =>
              clear HBX HWS HMB HB0 HLO
              obtain ⟨q, rfl, b0, hW, hM, hg, HF, HI⟩ := hrel
              have hG : Hid _ := hg
              clear hg
              cases hq : q.inB 524288 with
              | false =>
                have E9 : Hid (q = Pt.long ⟨px, py, pz⟩) := by show _ = _; rw [← HF.out]; cases gk <;> simp [longF, hq]
                clear HF HI
                go_wp2_with (fail)
                go_meet
                case rel => exact ⟨q, E9.out, b0, hW, hM⟩
              | true =>
                have h1g := big_lt hq HI.out
                obtain ⟨g', hg'⟩ : ∃ g', gk = g' + 1 := ⟨gk - 1, by omega⟩
                subst hg'
                obtain ⟨s1, s2, s3⟩ := long_step hq HI.out hG.out
                obtain ⟨x2, y2, z2, e1, e2, e3, e4⟩ := plus_two q
                have HJ : Hid (longF g' ⟨x2, y2, z2⟩ = Pt.long ⟨px, py, pz⟩ ∧ Pt.big ⟨x2, y2, z2⟩ (20 - g')) := by show _ ∧ _; rw [← e1, ← s1]; exact ⟨HF.out, s2⟩
                have hnz := big_nz HI.out
                have HI2 : Hid _ := HIN.out ⟨x2, y2, z2⟩ 524288 (by decide)
                unfold Pt.v at HI2
                dsimp only at HI2
                clear HF HI s1 s2 s3 e1 h1g hq
                obtain ⟨c0, c1, c2, f0, f1, f2⟩ := b0.out
                go_upto_region 10 with fail
                go_cut [39] from 34 to 39 (fun s39 wx => s39 = .bool true ∧ wx = wr)
                case first =>
                  clear HI2 hW hM b0 HJ e2 e3 e4
                  go_wp2_with (fail)
                  all_goals first
                    | (exfalso; exact hnz (by assumption) (by assumption) (by assumption))
                    | (go_meet; case rel => exact ⟨rfl, rfl⟩)
                case rest =>
                  obtain ⟨rfl, e9⟩ := hcut
                  subst e9
                  clear hnz
                  have hM9 : Hid _ := Cells.put3w hM.out hpm x2 y2 z2
                  have hW9 : Hid _ := hW.out.set3 hpw HUP.out x2 y2 z2
                  have b9 : Hid _ := b0.out.set x2 y2 z2
                  clear b0 hM hW
                  go_wp2_with (fail)
                  refine Calls.mono (HI2.out _) ?_
                  clear c0 c1 c2 f0 f1 f2
                  clear HI2
                  rintro e V4 ⟨rfl, hb⟩
                  have b9 : Hid _ := b9.out.step hb
                  have hW9 : Hid _ := hW9.out.step hb
                  have hM9 : Hid _ := Cells.step hM9.out hb
                  clear hb
                  go_wp2_with (fail)
                  go_roundg g'
                  case rel => exact ⟨⟨x2, y2, z2⟩, rfl, b9, hW9, hM9, by have := hG.out; omega, HJ.out.1, HJ.out.2⟩
                  case measure => omega
        case rest =>
          obtain ⟨q, e9, HPB, HWS, HMB⟩ := hcut
          obtain ⟨V, hV⟩ : ∃ V, V = wc := ⟨_, rfl⟩
          rw [← hV] at HPB HWS HMB ⊢
          clear hV
          have HLM : Hid (∀ {X : World} {u : Value} {g2 : Bool} {M2 : List Pt}, WS w (mb + 1) X wb g2 u M2 → dirsK (fun k => m.dirV (pt Ls k)) (i + 1) = M2 → Cells X mb [.int .i64 m.a0, .int .i64 m.a1, .int .i64 m.a2, .int .i64 m.a3, .int .i64 m.a4, .int .i64 m.a5, .int .i64 m.a6, .int .i64 m.a7, .int .i64 m.a8] → g2 = (f || anyK (fun k => m.dirB (pt Ls k)) (i + 1)) → ∃ (i2 : Nat) (g : Bool) (u2 : Value), (Value.int .i64 ((i + 1 : Nat) : Int)) = .int .i64 (i2 : Int) ∧ u = u2 ∧ i2 ≤ Ls.length ∧ Ls.length - (i + 1) = Ls.length - i2 ∧ Hid (WS w (mb + 1) X wb g u2 (dirsK (fun k => m.dirV (pt Ls k)) i2)) ∧ Hid (Cells X mb [.int .i64 m.a0, .int .i64 m.a1, .int .i64 m.a2, .int .i64 m.a3, .int .i64 m.a4, .int .i64 m.a5, .int .i64 m.a6, .int .i64 m.a7, .int .i64 m.a8]) ∧ Hid (g = (f || anyK (fun k => m.dirB (pt Ls k)) i2)) ∧ Hid (∀ j, j < i2 → (pt Ls j).inB 1048576 = true)) := by
            intro X u g2 M2 h1 h2 h3 h4
            exact ⟨i + 1, g2, u, rfl, rfl, by omega, rfl, by rw [h2]; exact h1, h3, h4, HAL1.out hin⟩
          obtain ⟨M, hM⟩ : ∃ M, M = dirsK (fun k => m.dirV (pt Ls k)) i := ⟨_, rfl⟩
          rw [← hM] at HWS HUP HK1 hlm ⊢
          clear hM
          obtain ⟨u, hu⟩ : ∃ u, u = Value.slice uo M.length uc := ⟨_, rfl⟩
          rw [← hu] at HWS HUP ⊢
          have HU : Hid _ := hu
          clear hu
          obtain ⟨nq, hn⟩ : ∃ n, n = q.times 4096 := ⟨_, rfl⟩
          obtain ⟨vq, hvq⟩ : ∃ v, v = (m.turn nq).getD Pt.O := ⟨_, rfl⟩
          obtain ⟨bd, hbd⟩ : ∃ b, b = (m.turn nq).isNone := ⟨_, rfl⟩
          have HDP : Hid (m.dirV ⟨px, py, pz⟩ = (vq.quo 4096).short ∧ m.dirB ⟨px, py, pz⟩ = bd) := by
            show _ ∧ _
            rw [HDV.out, (HDT.out _).1, (HDT.out _).2, ← e9, ← hn, ← hvq, ← hbd]; exact ⟨rfl, rfl⟩
          have HTI : Hid _ := fun w' => rtimes6_any q 4096 w'
          have HTU : Hid _ := fun (w' : World) (g : Bool) => HTU0.out nq w' g
          rw [← hn] at HTI
          rw [← hvq, ← hbd] at HTU
          have HSH : Hid _ := fun w' => rshort_any (vq.quo 4096) w'
          rw [← HDP.out.1] at HSH
          have hwV : wb < V.heap.size := World.block_lt_of_cell? _ _ HWS.out.fl
          have hpn : pb ≠ wb := by omega
          have HUV : Hid (∀ b, u.ownBlock = some b → b < V.heap.size) := fun b e => (HWS.out.own.lt b e).2
          have hmV : mb < V.heap.size := Cells.lt HMB.out
          have hpV : pb < V.heap.size := HPB.out.lt
          have hsV : w.heap.size ≤ V.heap.size := HWS.out.lv.size
          clear hn hvq hbd e9
          obtain ⟨sp, hsp⟩ : ∃ s, s = m.dirV ⟨px, py, pz⟩ := ⟨_, rfl⟩
          rw [← hsp] at HSH HK1
          rw [HDP.out.2] at HK2
          clear HDP hsp HDV HDT HTU0 HIN HCL HNE
          rw [show vq.quo 4096 = ⟨wrap64 (vq.x.tdiv 4096), wrap64 (vq.y.tdiv 4096), wrap64 (vq.z.tdiv 4096)⟩ from rfl] at HSH
          obtain ⟨qx, qy, qz⟩ := q
          obtain ⟨nx, ny, nz⟩ := nq
          obtain ⟨vx, vy, vz⟩ := vq
          unfold Pt.v at HTI HTU HSH
          unfold M9.v at HTU
          dsimp only at HTI HTU HSH
          go_upto_region 13 with fail
          go_cut [13] from 52 to 56 (fun s13 wx => ∃ b3, s13 = .pointer (some ⟨b3, 0, none⟩) ∧ Hid (WS w (mb + 1) wx wb (g || bd) u M) ∧ Hid (Cells wx mb [.int .i64 m.a0, .int .i64 m.a1, .int .i64 m.a2, .int .i64 m.a3, .int .i64 m.a4, .int .i64 m.a5, .int .i64 m.a6, .int .i64 m.a7, .int .i64 m.a8]) ∧ Cells wx b3 [.int .i64 vx, .int .i64 vy, .int .i64 vz])
          case first =>
            obtain ⟨wO, rfl⟩ : ∃ wO, wO = w := ⟨_, rfl⟩
            refine RV.region_is [.some (.pointer (some ⟨wb, 0, none⟩)), .some (.agg #[.int .i64 m.a0, .int .i64 m.a1, .int .i64 m.a2, .int .i64 m.a3, .int .i64 m.a4, .int .i64 m.a5, .int .i64 m.a6, .int .i64 m.a7, .int .i64 m.a8]), .some (.agg #[.int .i64 qx, .int .i64 qy, .int .i64 qz]), .some (.agg #[.int .i64 nx, .int .i64 ny, .int .i64 nz]), .some (.agg #[.int .i64 vx, .int .i64 vy, .int .i64 vz]), none, none] [53, 54, 55, 56, 57, 14, 0] [(0, .pointer (some ⟨wb, 0, none⟩)), (4, .pointer (some ⟨mb, 0, none⟩)), (11, .pointer (some ⟨pb, 0, none⟩))] (fun γ L w9 => WS wO (mb + 1) w9 wb (g || (L 4 && bd)) u M ∧ Cells w9 mb [.int .i64 m.a0, .int .i64 m.a1, .int .i64 m.a2, .int .i64 m.a3, .int .i64 m.a4, .int .i64 m.a5, .int .i64 m.a6, .int .i64 m.a7, .int .i64 m.a8] ∧ Box3 w9 pb ⟨qx, qy, qz⟩ ∧ RV.Pend V 27 5 6 #[.int .i64 vx, .int .i64 vy, .int .i64 vz] γ L w9 ∧ V.heap.size ≤ w9.heap.size) (by kernel_rfl) (by kernel_rfl) (by kernel_rfl) (by kernel_rfl) (by kernel_rfl) (by kernel_rfl) (by kernel_rfl) ⟨rfl, rfl, rfl, trivial⟩ ?_ ?_ ?_
            · have b9 : Below V.heap.size V V.drew := (Below.refl _ _).drew; simp only [Bool.false_and, Bool.or_false]; exact ⟨HWS.out.step b9, HMB.out.step b9, HPB.out.step b9, RV.Pend.start rfl, Nat.le_refl _⟩
            · intro D WA Z hD hWA hZ T
              simp only [RV.Outs, RV.Slots, Nat.reduceAdd] at T
              iterate 3 first
                | (refine RV.AllDo.cons _ (RV.pu T (fun γ v L w hl h => ⟨by rw [RV.more_ne (L := L) (i := _) (j := 4) (by decide)]; exact h.1, h.2.1, h.2.2.1, h.2.2.2.1.other v (by decide) (by decide), h.2.2.2.2⟩) (fun γ L a w hH hl h9 k9 => ⟨_, ?_, rfl⟩)) ?_; · simp [execOp, go_sem, h9])
                | (refine RV.AllDo.cons _ (RV.pu T (fun γ v L w hl h => ⟨by rw [RV.more_ne (L := L) (i := _) (j := 4) (by decide)]; exact h.1, h.2.1, h.2.2.1, h.2.2.2.1.other v (by decide) (by decide), h.2.2.2.2⟩) (fun γ L a w hH hl h9 k9 => ⟨_, ?_, rfl⟩)) ?_; · have wz0 := (hH.glob.2.1 0 _ rfl).1; have wz1 := (hH.glob.2.1 1 _ rfl).1; have wz2 := (hH.glob.2.1 2 _ rfl).1; have wz3 := (hH.glob.2.1 3 _ rfl).1; have wz4 := (hH.glob.2.1 4 _ rfl).1; have wz5 := (hH.glob.2.1 5 _ rfl).1; have wz6 := (hH.glob.2.1 6 _ rfl).1; have wz7 := (hH.glob.2.1 7 _ rfl).1; have wz8 := (hH.glob.2.1 8 _ rfl).1; simp [execOp, go_sem, h9, wz0, wz1, wz2, wz3, wz4, wz5, wz6, wz7, wz8])
                | (refine RV.AllDo.cons _ (RV.pu T (fun γ v L w hl h => ⟨by rw [RV.more_ne (L := L) (i := _) (j := 4) (by decide)]; exact h.1, h.2.1, h.2.2.1, h.2.2.2.1.other v (by decide) (by decide), h.2.2.2.2⟩) (fun γ L a w hH hl h9 k9 => ⟨_, ?_, rfl⟩)) ?_; · have wz0 := hH.glob.2.2.1.c0; have wz1 := hH.glob.2.2.1.c1; have wz2 := hH.glob.2.2.1.c2; simp [execOp, go_sem, h9, wz0, wz1, wz2])
              refine RV.AllDo.cons _ (RV.does_call (fun γ L a w hH hl hA => by have h9 := T γ L a w hH; have k9 := hA; simp [Region.binds] at k9; refine ⟨41, #[.agg #[.int .i64 qx, .int .i64 qy, .int .i64 qz], .int .i64 4096], by simp [go_sem, h9, k9], Calls.mono (HTI.out w) ?_⟩; rintro e w2 ⟨rfl, hb⟩; have hG := hH.glob; exact ⟨_, rfl, rfl, fun j v _ h => h.keep _, by rw [RV.more_ne (L := L) (i := 3) (j := 4) (by decide)]; exact hG.1.step hb, hG.2.1.step hb, hG.2.2.1.step hb, (hG.2.2.2.1.below hb).other _ (by decide) (by decide), Nat.le_trans hG.2.2.2.2 hb.size⟩)) ?_
              refine RV.AllDo.cons _ (RV.does_call (fun γ L a w hH hl hA => by have h9 := T γ L a w hH; have k9 := hA; simp [Region.binds] at k9; have hG := hH.glob; rw [hl] at hG; refine ⟨40, #[.pointer (some ⟨wb, 0, none⟩), .agg #[.int .i64 m.a0, .int .i64 m.a1, .int .i64 m.a2, .int .i64 m.a3, .int .i64 m.a4, .int .i64 m.a5, .int .i64 m.a6, .int .i64 m.a7, .int .i64 m.a8], .agg #[.int .i64 nx, .int .i64 ny, .int .i64 nz]], by simp [go_sem, h9, k9], Calls.mono (HTU.out w _ hG.1.fl hG.1.ff) ?_⟩; rintro e w2 ⟨rfl, A⟩; have A9 := A.out; exact ⟨_, rfl, rfl, fun j v _ h => h.keep _, by rw [RV.more_self]; have h8 := hG.1.after A9; simpa using h8, hG.2.1.beside A9 hmw, hG.2.2.1.after A9 hpn, (hG.2.2.2.1.after A9 hwV).other _ (by decide) (by decide), Nat.le_trans hG.2.2.2.2 A9.size⟩)) ?_
              refine RV.AllDo.cons _ (RV.does_step (fun γ L a w hH hl hA => by have hG := hH.glob; have h12 : L 6 = false := RV.not_yet hH (RV.wt (j := 6) (i := 5) hWA (by kernel_rfl)) hl; exact ⟨.pointer (some ⟨w.heap.size, 0, none⟩), w.alloc (.cells #[.int .i64 0, .int .i64 0, .int .i64 0] 27), by simp [execOp, go_sem], trivial, fun j v _ h => h.keep _, by rw [RV.more_ne (L := L) (i := 5) (j := 4) (by decide)]; exact hG.1.step (n_after _ _), hG.2.1.step (n_after _ _), hG.2.2.1.step (n_after _ _), RV.Pend.made _ rfl hG.2.2.2.2 h12 (by decide), by rw [World.size_alloc]; have h8 := hG.2.2.2.2; omega⟩)) ?_
              refine RV.AllDo.cons _ (RV.does_store (fun γ L a w hH hl hA => by have h9 := T γ L a w hH; have k9 := hA; simp [Region.binds] at k9; have l0 : L 5 = true := hA ⟨5, .data⟩ (by simp) rfl; have e0 := hH.slot 5 13 (by rw [← hD]; rfl) l0; have hG := hH.glob; obtain ⟨b, cs, hb1, hb2, hb3, hb4, _⟩ := hG.2.2.2.1 l0; rw [hb1] at e0; obtain ⟨u0, u1, u2, rfl⟩ := arr3' hb4; have wz0 : w.cell? ⟨b, 0, none⟩ = some u0 := (by simp [World.cell?, hb3]); have wz1 : w.cell? ⟨b, 1, none⟩ = some u1 := (by simp [World.cell?, hb3]); have wz2 : w.cell? ⟨b, 2, none⟩ = some u2 := (by simp [World.cell?, hb3]); have zf : ∀ o, w.frozen? ⟨b, o, none⟩ = false := fun o => (by simp [World.frozen?, hb3]); have n1 : mb ≠ b := (by omega); have n2 : b ≠ pb := (by omega); have n5 : u.ownBlock ≠ some b := (fun e => by have h7 := HUV.out b e; omega); exact ⟨(((w.setCell ⟨b, 0, none⟩ (.int .i64 vx)).setCell ⟨b, 1, none⟩ (.int .i64 vy)).setCell ⟨b, 2, none⟩ (.int .i64 vz)), by simp [execOp, go_sem, e0, wz0, wz1, wz2, zf, h9, k9], trivial, fun j v _ h => h.keep _, by rw [RV.more_ne (L := L) (i := 6) (j := 4) (by decide)]; exact hG.1.set3 (by omega) n5 vx vy vz, ((Cells.apart hG.2.1 n1 0 _).apart n1 1 _).apart n1 2 _, hG.2.2.1.other n2 vx vy vz, RV.Pend.filled hb1 hb2 (by have q0 := Go.heap_setCell_same w b 0 _ _ (.int .i64 vx) hb3; have q1 := Go.heap_setCell_same _ b 1 _ _ (.int .i64 vy) q0; have q2 := Go.heap_setCell_same _ b 2 _ _ (.int .i64 vz) q1; simpa using q2) (by decide) _, by have h8 := hG.2.2.2.2; simpa [World.setCell] using h8⟩)) ?_
              exact RV.AllDo.nil
            · intro γ w5 L9 hL hI9 hG9
              have hG := hG9
              rw [hL 4 (by decide)] at hG
              obtain ⟨b3, cs, hb1, hb2, hb3, _, hb5⟩ := hG.2.2.2.1 (hL 5 (by decide))
              rw [hb5 (hL 6 (by decide))] at hb3
              clear hL hb5 hI9 hG9
              simp only [RV.putL, Act.put, List.setIfInBounds_toArray, List.set_cons_zero, List.set_cons_succ, Nat.reduceAdd]
              rw [hb1]
              have C3 : Cells w5 b3 [.int .i64 vx, .int .i64 vy, .int .i64 vz] := fun i v e => ⟨by simp [World.cell?, hb3]; exact e, by simp [World.frozen?, hb3]⟩
              have HW9 : Hid (WS wO (mb + 1) w5 wb (g || bd) u M) := by show WS _ _ _ _ _ _ _; have h9 := hG.1; simpa using h9
              have HM9 : Hid (Cells w5 mb [.int .i64 m.a0, .int .i64 m.a1, .int .i64 m.a2, .int .i64 m.a3, .int .i64 m.a4, .int .i64 m.a5, .int .i64 m.a6, .int .i64 m.a7, .int .i64 m.a8]) := hG.2.1
              clear hG hb1 hb3
              go_wp2_with (fail)
              go_meet
              case rel => exact ⟨b3, rfl, HW9, HM9, C3⟩
          case rest =>
            clear HWS HMB HPB HTI HTU HUV
            obtain ⟨b3, rfl, HWS, HMB, C3⟩ := hcut
            obtain ⟨c0, d0⟩ := C3 0 _ rfl
            obtain ⟨c1, d1⟩ := C3 1 _ rfl
            obtain ⟨c2, d2⟩ := C3 2 _ rfl
            clear C3
            go_wp2_with (fail)
            refine Calls.mono (HSH.out _) ?_
            rintro e V5 ⟨rfl, hb⟩
            have HWS : Hid _ := HWS.out.step hb
            have HMB : Hid _ := Cells.step HMB.out hb
            clear hb HSH c0 d0 c1 d1 c2 d2
            obtain ⟨sx, sy, sz⟩ := sp
            dsimp only
            go_upto_region 15 with fail
            obtain ⟨V6, hV6⟩ : ∃ X, X = V5.alloc (.cells #[.int .i64 sx, .int .i64 sy, .int .i64 sz] 23) := ⟨_, rfl⟩
            obtain ⟨nb, hnb⟩ : ∃ b, b = V5.heap.size := ⟨_, rfl⟩
            have HB6 : Hid (Box3 V6 nb ⟨sx, sy, sz⟩) := by show Box3 _ _ _; rw [hV6, hnb]; exact Box3.new V5 sx sy sz _
            have HWS : Hid (WS w (mb + 1) V6 wb (g || bd) u M) := by show WS _ _ _ _ _ _ _; rw [hV6]; exact HWS.out.step (n_after _ _)
            have HMB : Hid (Cells V6 mb [.int .i64 m.a0, .int .i64 m.a1, .int .i64 m.a2, .int .i64 m.a3, .int .i64 m.a4, .int .i64 m.a5, .int .i64 m.a6, .int .i64 m.a7, .int .i64 m.a8]) := by show Cells _ _ _; rw [hV6]; exact Cells.step HMB.out (n_after _ _)
            rw [← hV6, ← hnb]
            clear hV6 hnb
            have HGD : Hid ((g || bd) = (f || anyK (fun k => m.dirB (pt Ls k)) (i + 1))) := by show _ = _; rw [HK2.out, HGB.out, Bool.or_assoc]
            have hu := HU.out
            subst hu
            obtain ⟨c0, c1, c2, f0, f1, f2⟩ := HB6.out
            dsimp only at c0 c1 c2
            by_cases hz : (⟨sx, sy, sz⟩ : Pt) = Pt.O
            · have HK : Hid (dirsK (fun k => m.dirV (pt Ls k)) (i + 1) = M) := by show _ = _; rw [HK1.out, if_pos hz]
              simp only [Pt.O, Pt.mk.injEq] at hz
              obtain ⟨rfl, rfl, rfl⟩ := hz
              go_wp2_with (fail)
              go_roundg (Ls.length - (i + 1))
              case rel => exact HLM.out HWS.out HK.out HMB.out HGD.out
              case measure => have := HG1.out; omega
            · have HK : Hid (dirsK (fun k => m.dirV (pt Ls k)) (i + 1) = M ++ [⟨sx, sy, sz⟩]) := by show _ = _; rw [HK1.out, if_neg hz]
              have hnz : sx = 0 → sy = 0 → ¬ sz = 0 := fun a b c => hz (by rw [a, b, c]; rfl)
              clear hz
              go_cut [70] from 67 to 70 (fun s70 wx => s70 = .bool true ∧ wx = V6)
              case first =>
                clear HWS HMB HB6 HK HGD HLM HK1 HK2
                go_wp2_with (fail)
                all_goals first
                  | (exfalso; exact hnz (by assumption) (by assumption) (by assumption))
                  | (go_meet; case rel => exact ⟨rfl, rfl⟩)
              case rest =>
                obtain ⟨rfl, e9⟩ := hcut
                subst e9
                clear hnz
                have HUM : Hid (∀ r, (Value.slice uo M.length uc).ownBlock = some r → r ≠ mb) := fun r e => by have := (HWS.out.own.lt r e).1; omega
                have hs6 : mb + 1 ≤ wc.heap.size := by have := Cells.lt HMB.out; omega
                go_wp2_with (at_builtin; refine wpList_append_own _ rfl _ _ 24 rfl (mb + 1) 23 i0 _ 3 24 Try.underlying24 HI.out.1 HI.out.2.1 HI.out.2.2.1 HI.out.2.2.2 rfl (by decide) _ _ _ rfl (HWS.out.step (n_after _ (.cells #[.int .i64 sx, .int .i64 sy, .int .i64 sz] 23))).own ⟨wc.heap.size, 0, none⟩ 1 1 [.int .i64 sx, .int .i64 sy, .int .i64 sz] rfl rfl (news_at (heap_alloc_new wc _)) (by intro u hu; simp at hu; rcases hu with rfl | rfl | rfl <;> rfl) (by unfold maxLen; omega) (by omega) (by simp; omega) ?_; intro u9 V2 r8 g8 _; obtain ⟨gg8, kk8, rfl⟩ := ownsRow_succ r8; have HWS2 : Hid _ := (HWS.out.step (n_after _ _)).app (p := ⟨sx, sy, sz⟩) r8 g8; have HMB2 : Hid _ := (Cells.step HMB.out (n_after _ _)).grew g8 HUM.out; clear r8 g8 c0 c1 c2 f0 f1 f2 HWS HMB HB6)
                go_roundg (Ls.length - (i + 1))
                case rel => exact HLM.out HWS2.out HK.out HMB2.out HGD.out
                case measure => have := HG1.out; omega
    · obtain rfl : i = Ls.length := by omega
      have e9 : dirsK (fun k => m.dirV (pt Ls k)) Ls.length = m.dirs Ls := by unfold dirsK M9.dirs; rw [firsts_map]
      go_wp2_with (fail)
      refine bodyPost_ret (v := .tuple #[.slice uo (dirsK (fun k => m.dirV (pt Ls k)) Ls.length).length uc, .bool true]) (by simp [results, Try.results43, go_sem]) rfl ?_
      refine Or.inl ⟨_, fun q hq => ?_, rfl, ?_⟩
      · obtain ⟨j, hj, e⟩ := pt_of_mem hq
        rw [← e]; exact HAL.out j hj
      · have h9 := HWS.out
        rw [HGB.out, anyK_any] at h9
        rw [← e9]
        exact h9.le
end Go.Proofs.Ytfalniafkambmaa
namespace Go.Proofs.Ytfalniafkambmaa
open Go.RowKit Go.Shelf
set_option linter.unusedVariables false

/-- Boxes that stay, and one that is written, all below n0. -/
structure KB (w0 X : World) (n0 : Nat) (bs : List (Nat × List Value)) (b : Nat) (cs : List Value) : Prop where
  below : Below w0.heap.size w0 X
  fix : ∀ p ∈ bs, p.1 < n0 ∧ p.1 ≠ b ∧ Cells X p.1 p.2
  box : Cells X b cs
  lt : b < n0
  ge : w0.heap.size ≤ b
  hn : w0.heap.size ≤ n0
  hx : n0 ≤ X.heap.size
section
variable {w0 X Y : World} {n0 b : Nat} {bs : List (Nat × List Value)} {cs : List Value}
theorem KB.step (h : KB w0 X n0 bs b cs) (hb : Below X.heap.size X Y) : KB w0 Y n0 bs b cs :=
  ⟨b_step h.below hb, fun p hp => ⟨(h.fix p hp).1, (h.fix p hp).2.1, (h.fix p hp).2.2.step hb⟩, h.box.step hb, h.lt, h.ge, h.hn, Nat.le_trans h.hx hb.size⟩
theorem KB.grew (h : KB w0 X n0 bs b cs) {row : Option Nat} (hg : X.grownBy Y row) (hr : ∀ r, row = some r → n0 ≤ r) : KB w0 Y n0 bs b cs := by
  have hB : Below w0.heap.size X Y := ⟨hg.os, hg.tape, hg.output, hg.size, fun k hk => hg.block k (by have := h.hx; have := h.hn; omega) (fun e => by have := hr k e.symm; have := h.hn; omega)⟩
  refine ⟨h.below.trans hB, fun p hp => ⟨(h.fix p hp).1, (h.fix p hp).2.1, (h.fix p hp).2.2.grew hg (fun r e => by have := hr r e; have := (h.fix p hp).1; omega)⟩, h.box.grew hg (fun r e => by have := hr r e; have := h.lt; omega), h.lt, h.ge, h.hn, Nat.le_trans h.hx hg.size⟩
theorem KB.put (h : KB w0 X n0 bs b cs) (k : Nat) (v : Value) (hk : k < cs.length) : KB w0 (X.setCell ⟨b, k, none⟩ v) n0 bs b (cs.set k v) :=
  ⟨h.below.setCell h.ge _, fun p hp => ⟨(h.fix p hp).1, (h.fix p hp).2.1, (h.fix p hp).2.2.apart (h.fix p hp).2.1 _ _⟩, h.box.set k v hk, h.lt, h.ge, h.hn, by simpa [World.setCell] using h.hx⟩
theorem KB.at (h : KB w0 X n0 bs b cs) {c : Nat} {vs : List Value} (hm : (c, vs) ∈ bs) : Cells X c vs := (h.fix _ hm).2.2
end
theorem KB.start4 (w0 : World) (l1 l2 l3 l4 : List Value) (t1 t2 t3 t4 : TypeId) :
    KB w0 ((((w0.alloc (.cells l1.toArray t1)).alloc (.cells l2.toArray t2)).alloc (.cells l3.toArray t3)).alloc (.cells l4.toArray t4)) (w0.heap.size + 4) [(w0.heap.size, l1), (w0.heap.size + 1, l2), (w0.heap.size + 1 + 1, l3)] (w0.heap.size + 1 + 1 + 1) l4 := by
  have c1 := (((Cells.new w0 l1 t1).step (n_after _ (.cells l2.toArray t2))).step (n_after _ (.cells l3.toArray t3))).step (n_after _ (.cells l4.toArray t4))
  have c2 := ((Cells.new (w0.alloc (.cells l1.toArray t1)) l2 t2).step (n_after _ (.cells l3.toArray t3))).step (n_after _ (.cells l4.toArray t4))
  have c3 := (Cells.new ((w0.alloc (.cells l1.toArray t1)).alloc (.cells l2.toArray t2)) l3 t3).step (n_after _ (.cells l4.toArray t4))
  have c4 := Cells.new (((w0.alloc (.cells l1.toArray t1)).alloc (.cells l2.toArray t2)).alloc (.cells l3.toArray t3)) l4 t4
  simp only [World.size_alloc] at c2 c3 c4
  refine ⟨b_step (b_step (b_step (n_after _ _) (n_after _ _)) (n_after _ _)) (n_after _ _), fun p hp => ?_, c4, by omega, by omega, by omega, by simp⟩
  simp only [List.mem_cons, List.not_mem_nil, or_false] at hp
  rcases hp with rfl | rfl | rfl
  · exact ⟨by show _ < _; omega, by show _ ≠ _; omega, c1⟩
  · exact ⟨by show _ < _; omega, by show _ ≠ _; omega, c2⟩
  · exact ⟨by show _ < _; omega, by show _ ≠ _; omega, c3⟩
end Go.Proofs.Ytfalniafkambmaa
namespace Go.Proofs.Ytfalniafkambmaa
open Go.RowKit Ref Fx
set_option linter.unusedVariables false

theorem Ho.lay {W V : World} {p : Addr} {po : Nat} {f g : Bool} {l : List (Addr × Value)} (h : Ho W V p po f g l) (cs : Array Value) (t : TypeId) (k : List (Addr × Value)) (hk : ∀ c ∈ k, ∃ i : Nat, c.1 = ⟨V.heap.size, i, none⟩ ∧ cs[i]? = some c.2) : Ho W (V.alloc (.cells cs t)) p po f g (k ++ l) := by
  have h2 := h.alloc (.cells cs t)
  have hlt := World.block_lt_of_cell? _ _ h.own
  dsimp only at hlt
  refine ⟨h2.leaves, h2.flag, h2.flagf, h2.own, h2.ownf, fun c hc => ?_, fun c hc => ?_, h2.hp, h2.ho⟩
  · rcases List.mem_append.1 hc with hc | hc
    · obtain ⟨i, e, hi⟩ := hk c hc
      rw [e]
      exact ⟨by rw [World.cell?_alloc_at _ _ _ _ rfl]; exact hi, by simp [go_sem]⟩
    · exact h2.fix c hc
  · rcases List.mem_append.1 hc with hc | hc
    · obtain ⟨i, e, hi⟩ := hk c hc
      rw [e]; show V.heap.size ≠ po; omega
    · exact h2.far c hc
end Go.Proofs.Ytfalniafkambmaa
