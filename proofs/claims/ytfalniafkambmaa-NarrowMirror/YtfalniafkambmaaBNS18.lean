/- A long direction that is turned is not noughts: no program in sight. -/
import Derived.Test.YtfalniafkambmaaBNS3
import Derived.Test.YtfalniafkambmaaBNS17
import Derived.RangeFuncNested
import Derived.RangeFuncBound
import Derived.RangeFuncCalls
import Derived.RangeFuncLeaves
import Derived.RangeFuncBox
import Derived.Shelf.Abstract
import Derived.WalkKit
import Derived.OwnWalkIn
import Derived.TacticsInMore
import Derived.LoopNIn
import Derived.LoopIn
import Derived.LoopTactic
import Derived.ProofKit
import Derived.Handy
import Derived.Test.YtfalniafkambmaaBNS1
import Derived.Test.YtfalniafkambmaaBNS0
namespace Go.Proofs.Ytfalniafkambmaa
open Go.RowKit Go.Shelf Fx
set_option linter.unusedVariables false

/-- What is turned to nearly nothing was nearly nothing. -/
theorem turned_far {w x y z a0 a1 a2 t0 t1 t2 : Int} (h : WM.Whole w x y z) (h0 : -17592186044416 ≤ a0 ∧ a0 ≤ 17592186044416) (h1 : -17592186044416 ≤ a1 ∧ a1 ≤ 17592186044416) (h2 : -17592186044416 ≤ a2 ∧ a2 ≤ 17592186044416)
    (d0 : dot [rowsAt0 w x y z, rowsAt1 w x y z, rowsAt2 w x y z] [a0, a1, a2] = some t0) (d1 : dot [rowsAt3 w x y z, rowsAt4 w x y z, rowsAt5 w x y z] [a0, a1, a2] = some t1) (d2 : dot [rowsAt6 w x y z, rowsAt7 w x y z, rowsAt8 w x y z] [a0, a1, a2] = some t2)
    (k0 : -4096 ≤ t0 ∧ t0 ≤ 4096) (k1 : -4096 ≤ t1 ∧ t1 ≤ 4096) (k2 : -4096 ≤ t2 ∧ t2 ≤ 4096) : (-8388608 ≤ a0 ∧ a0 ≤ 8388608) ∧ (-8388608 ≤ a1 ∧ a1 ≤ 8388608) ∧ (-8388608 ≤ a2 ∧ a2 ≤ 8388608) := by
  obtain ⟨hw, hx, hy, hz, hN1, hN2⟩ := id h
  obtain ⟨hbad, n0, n1, n2, n3, n4, n5, n6, n7, n8⟩ := WM.rows_near hw hx hy hz hN2
  obtain ⟨_, m0, m1, m2, m3, m4, m5, m6, m7, m8, s0, s1, s2, b0, b1, b2, L, ⟨e0, e1, e2, e3, e4, e5, e6, e7, e8⟩, ⟨g0, g1, g2⟩, ⟨f0, f1, f2⟩, hn, hL, c0, c1, c2⟩ := WM.turned_back h h0 h1 h2
  subst e0 e1 e2 e3 e4 e5 e6 e7 e8
  rw [d0] at g0
  rw [d1] at g1
  rw [d2] at g2
  cases g0
  cases g1
  cases g2
  obtain ⟨r0, q0, _, u0⟩ := WM.dot3 (B := 4096) n0.2.2 n3.2.2 n6.2.2 k0 k1 k2 (by decide)
  obtain ⟨r1, q1, _, u1⟩ := WM.dot3 (B := 4096) n1.2.2 n4.2.2 n7.2.2 k0 k1 k2 (by decide)
  obtain ⟨r2, q2, _, u2⟩ := WM.dot3 (B := 4096) n2.2.2 n5.2.2 n8.2.2 k0 k1 k2 (by decide)
  rw [f0] at q0
  rw [f1] at q1
  rw [f2] at q2
  cases q0
  cases q1
  cases q2
  omega
theorem longF_far : ∀ (g : Nat) (q : Pt), g ≤ 20 → q.big (20 - g) → (longF g q).inB 524288 = false
  | 0, q, _, hb => by
    cases hq : q.inB 524288 with
    | false => exact hq
    | true => exact absurd (big_lt hq hb) (by omega)
  | g + 1, q, hg, hb => by
    cases hq : q.inB 524288 with
    | false => unfold longF; rw [hq]; exact hq
    | true =>
      obtain ⟨e1, e2, _⟩ := long_step hq hb hg
      rw [e1]
      exact longF_far g _ (by omega) e2
theorem long_far {p : Pt} (h : p ≠ Pt.O) : p.long.inB 524288 = false := by
  unfold Pt.long
  rw [if_neg h]
  exact longF_far 20 p (Nat.le_refl _) (big_zero h)
theorem tdiv_small {a : Int} (h : a.tdiv 4096 = 0) : -4096 ≤ a ∧ a ≤ 4096 := by
  have e : (a.tdiv 4096).natAbs = a.natAbs / 4096 := by rw [Int.natAbs_tdiv]; rfl
  omega
/-- A direction that is turned is none that is noughts. -/
theorem dir_ne {q : Q4} (hq : WM.Whole q.w q.x q.y q.z) {p : Pt} (hp : p.inB 1048576 = true) (h : p ≠ Pt.O) : (rowsM q).dirV p ≠ Pt.O := by
  obtain ⟨hb, hF⟩ := rows_fit hq
  have l1 := (long_is p hp).1
  have l2 := long_far h
  obtain ⟨t1, t2⟩ := times_in (n := 4096) l1 (by decide) (by decide)
  obtain ⟨r, hr, hri⟩ := turn_some hF t2 (by decide)
  have hri' := (Pt.inB_iff _ _).1 hri
  have eT : (rowsM q).dirT p = r := by unfold M9.dirT; rw [hr]; rfl
  have eQ : r.quo 4096 = ⟨r.x.tdiv 4096, r.y.tdiv 4096, r.z.tdiv 4096⟩ := by
    have k : ∀ a : Int, -(6 * (1048576 * 4096) + 1) ≤ a ∧ a ≤ 6 * (1048576 * 4096) + 1 → wrap64 (a.tdiv 4096) = a.tdiv 4096 := fun a ha => by
      have e : (a.tdiv 4096).natAbs = a.natAbs / 4096 := by rw [Int.natAbs_tdiv]; rfl
      exact w64 (by omega) (by omega)
    unfold Pt.quo
    rw [k _ hri'.1, k _ hri'.2.1, k _ hri'.2.2]
  unfold M9.dirV
  rw [eT, eQ]
  refine short_ne ?_ ?_
  · have e : ∀ a : Int, (a.tdiv 4096).natAbs = a.natAbs / 4096 := fun a => by rw [Int.natAbs_tdiv]; rfl
    have e1 := e r.x
    have e2 := e r.y
    have e3 := e r.z
    rw [Pt.inB_iff]
    dsimp only
    omega
  · intro e
    have e1 := tdiv_small (congrArg Pt.x e)
    have e2 := tdiv_small (congrArg Pt.y e)
    have e3 := tdiv_small (congrArg Pt.z e)
    rw [t1] at hr
    have l3 := (Pt.inB_iff _ _).1 l1
    have l4 := (Pt.inB_no _ _).1 l2
    unfold M9.turn at hr
    unfold rowsM at hr
    rw [hb] at hr
    dsimp only [cond] at hr
    unfold opt3 at hr
    split at hr
    · rename_i u0 u1 u2 d0 d1 d2
      cases hr
      have := turned_far hq (by omega) (by omega) (by omega) d0 d1 d2 e1 e2 e3
      omega
    · cases hr
end Go.Proofs.Ytfalniafkambmaa
namespace Go.Proofs.Ytfalniafkambmaa
set_option linter.unusedVariables false

/-- A core of more than two points has a direction to try. -/
def mayS (c : Cr) : Prop := 2 < c.P.length → ∃ n ∈ c.A, n ≠ Pt.O ∧ n.inB 1048576 = true
theorem good_axis {s : Sh} (h : Good s) (h2 : 2 < (ptsP s).length) : ∃ n ∈ axesP s, n ≠ Pt.O ∧ n.inB 1048576 = true := by
  have key : ∀ n ∈ axesP s, n ≠ Pt.O ∧ n.inB 1048576 = true := fun n hn => by
    have t := (gd_axes h).1 n hn
    exact ⟨t.1, (short_g t.1 t.2).2⟩
  have hne : axesP s ≠ [] := by
    unfold axesP
    by_cases k3 : s.kind = 3
    · rw [if_pos k3]; decide
    · rw [if_neg k3]
      by_cases k4 : s.kind = 4
      · rw [if_pos k4]
        have hk := h.ok
        unfold checkP at hk
        cases hf : formP s with
        | false => rw [hf] at hk; simp at hk
        | true =>
          rw [hf] at hk
          obtain ⟨l4, l12, hin, hnd⟩ := may_parts (form_hull hf k4)
          have nf : ¬ flatAll s.pts := by
            intro hfl
            have hne := nodup_ne (by omega) hnd
            have := (flatP_iff (by omega) hne).2 hfl
            simp [k4, this] at hk
          have := axes_two (L := s.pts) (fun e => by rw [e] at l4; simp at l4) nf hin
          intro e
          rw [e] at this
          simp at this
      · exfalso
        unfold ptsP at h2
        have hk := h.k
        by_cases k1 : s.kind = 1
        · rw [if_pos k1] at h2; simp at h2
        · rw [if_neg k1] at h2
          have k2 : s.kind = 2 := by omega
          rw [if_pos k2] at h2
          simp at h2
  match he : axesP s, hne with
  | n :: r, _ => exact ⟨n, List.mem_cons_self, key n (by rw [he]; exact List.mem_cons_self)⟩
theorem came_side {s : Sh} {t : Pt} {q : Q4} {P2 A2 E2 : List Pt} (h : Good s) (hc : Came t q (ptsP s) (axesP s) (edgesP s) P2 A2 E2) (r : Int) : mayS ⟨P2, A2, E2, r⟩ := fun h2 => by
  obtain ⟨n, hn, hn0, hnb⟩ := good_axis h (by have := hc.len; dsimp only at h2; omega)
  refine ⟨(rowsM q).dirV n, ?_, dir_ne hc.wh hnb hn0, short_in _⟩
  show _ ∈ A2
  rw [hc.a]
  unfold M9.dirs
  exact List.mem_filter.2 ⟨List.mem_map.2 ⟨n, hn, rfl⟩, by simpa using dir_ne hc.wh hnb hn0⟩
/-- A core of a shape that may be: few points, near the middle, and a direction to try. -/
def mayN (c : Cr) : Prop := mayC c = true ∧ (c.P.length ≤ 12 ∧ mayS c) ∧ ∀ p ∈ c.P, p.inB 8388608 = true
theorem came_near {s : Sh} {t : Pt} {q : Q4} {P2 A2 E2 : List Pt} (h : Good s) (hc : Came t q (ptsP s) (axesP s) (edgesP s) P2 A2 E2) : mayN ⟨P2, A2, E2, s.radius⟩ :=
  ⟨came_may h hc, ⟨by have := gd_len h; have := hc.len; show P2.length ≤ 12; omega, came_side h hc _⟩, hc.near⟩
end Go.Proofs.Ytfalniafkambmaa
namespace Go.Proofs.Ytfalniafkambmaa
open Go.RowKit Go.Shelf
set_option linter.unusedVariables false

/-- The cells that are there of the blocks S are as they were. -/
structure KeepC (S : Nat → Prop) (V V' : World) : Prop where
  size : V.heap.size ≤ V'.heap.size
  cell : ∀ (q : Addr) (v : Value), S q.block → V.cell? q = some v → V'.cell? q = some v
theorem KeepC.refl (S : Nat → Prop) (V : World) : KeepC S V V := ⟨Nat.le_refl _, fun _ _ _ h => h⟩
theorem KeepC.trans {S : Nat → Prop} {A B C : World} (h : KeepC S A B) (k : KeepC S B C) : KeepC S A C := ⟨Nat.le_trans h.size k.size, fun q v hq hv => k.cell q v hq (h.cell q v hq hv)⟩
theorem KeepC.mono {S T : Nat → Prop} {A B : World} (h : KeepC S A B) (hT : ∀ b, T b → S b) : KeepC T A B := ⟨h.size, fun q v hq hv => h.cell q v (hT _ hq) hv⟩
theorem KeepC.below {S : Nat → Prop} {A B : World} (h : Below A.heap.size A B) : KeepC S A B := ⟨h.size, fun _ _ _ hv => c_after h hv⟩
theorem KeepC.grown {S : Nat → Prop} {A B : World} (h : A.grownBy B none) : KeepC S A B := ⟨h.size, fun q v _ hv => h.cell hv (fun e => by cases e)⟩
theorem KeepC.put {S : Nat → Prop} {W : World} {l : Nat} {o : Obj} (o' : Obj) (hl : W.heap[l]? = some o) (hc : o.isCells = false) : KeepC S W (W.putObj l o') :=
  ⟨by simp, fun q v _ hv => by
    have hne : q.block ≠ l := fun e => by
      unfold World.cell? at hv
      rw [e, hl] at hv
      cases o <;> simp_all [Obj.isCells]
    exact (World.cell?_of_block (w := W) (World.putObj_heap_other hne)).trans hv⟩
theorem Lies.keepC {S : Nat → Prop} {A B : World} {v : Value} {L : List Pt} (h : Lies A v L) (k : KeepC S A B) (hS : ∀ q n c, v = .slice (some q) n c → L ≠ [] → S q.block) : Lies B v L := by
  obtain ⟨o, cap, rfl, h1, h2, h3⟩ := h.form
  refine ⟨⟨o, cap, rfl, h1, h2, fun i hi => ?_⟩⟩
  obtain ⟨g, off, rfl, x0, x1, x2⟩ := h3 i hi
  have hs : S g := hS _ _ _ rfl (fun e => by rw [e] at hi; simp at hi)
  exact ⟨g, off, rfl, k.cell _ _ hs x0, k.cell _ _ hs x1, k.cell _ _ hs x2⟩
theorem own_step {n : Nat} {J : Nat → World → Prop} (hJ : OwnFrom n J) {k : Nat} {A B : World} (h : J k A) (hb : Below A.heap.size A B) : J k B :=
  hJ k A B none h (below_grown hb none) (fun r e => by cases e)

/-- An iterator's contract, under the wide fence: it tells the points of T, one after the other, to somebody who never stops it. -/
def TellsT (n : Nat) (P : Program) (g : Nat) (lb : Array Value) (T : List Pt) (S : Nat → Prop) (w : World) : Prop :=
  ∀ (l : Nat) (J : Nat → World → Prop) (W : World), Below w.heap.size w W → OwnFrom W.heap.size J →
    (∀ k V, k < T.length → J k V → YieldAt Fence.wide (n - 1) P l #[(pt T k).v] V fun e V' => e = .returned (.bool true) ∧ J (k + 1) V' ∧ KeepC S V V' ∧ KeepsFrom (w.heap.size + 2) V V') →
    J 0 W → CallsIn Fence.wide n P g (#[.func (.yield l) #[] #[]] ++ lb) W fun e W' => (∃ v, e = .returned v) ∧ J T.length W'

/-- What a round's body leaves. -/
def postT (B : Nat) (S : Nat → Prop) (I : Nat → World → Prop) (k : Nat) (W : World) : Exit → Act → World → Prop
  | .normal, _, W' => KeepsFrom B W W' ∧ KeepC S W W' ∧ I k W'
  | _, _, _ => False

/-- THE CALLER'S LAW. -/
theorem range_t {n : Nat} {P : Program} (h1 : 1 ≤ n) {g : Operand} {ps : Array Tmp} {assign body : Code} {Q : Exit → Act → World → Prop} {a : Act} {w : World} {gf : Nat} {lb : Array Value}
    (hg : a.eval g = .func (.func gf) #[] lb) (eg : ∀ args w, (callFunc gf args).run P w = .ok (.enter gf args) w)
    {T : List Pt} {S : Nat → Prop} (hseq : TellsT (n - 1) P gf lb T S w) (hps : ps.size = 1)
    (I : Nat → World → Prop) (hI : OwnFrom w.heap.size I) (h0 : I 0 w) (a₁ : Nat → Nat → Act) (tp : TypeId)
    (hassign : ∀ (l k : Nat) (W : World) (nb : Nat) (K : Act → World → Prop), k < T.length → nb = W.heap.size → K (a₁ k nb) (W.alloc (.cells #[.int .i64 (pt T k).x, .int .i64 (pt T k).y, .int .i64 (pt T k).z] tp)) →
      assign.wpIn (Fence.wide.inRound l) (n - 1 - 1) P (Exit.then K (fun _ _ _ => False)) { tmps := (ps.zip #[(pt T k).v]).foldl (fun t (p, v) => t.setIfInBounds p v) a.tmps, defers := [] } W)
    (hbody : ∀ (l k : Nat) (W : World) (nb : Nat), k < T.length → (∀ Z : World, W.grownBy Z (some nb) → I k Z) → w.heap.size ≤ nb → W.heap[nb]? = some (.cells #[.int .i64 (pt T k).x, .int .i64 (pt T k).y, .int .i64 (pt T k).z] tp) → body.wpIn (Fence.wide.inRound l) (n - 1 - 1) P (postT w.heap.size (fun b => S b ∧ b ≠ nb) I (k + 1) W) (a₁ k nb) W)
    (hdone : ∀ (D : Nat) (W : World), w.heap.size ≤ D → I T.length W → W.heap[D]? = some (.deferred (some [])) → Q .normal { a with defers := { target := .collected D, args := #[] } :: a.defers } W) :
    (Code.rangeFunc g ps assign body).wpIn Fence.wide n P Q a w := by
  refine wpIn_rangeFunc fun fn hfn => ?_
  show ∃ _, _
  generalize hD : w.heap.size = D at *
  let R (st : LoopState) (pe : Option Code) : Loop := ⟨st, pe, fn, a.tmps, ps, assign, body, D⟩
  let V : World := (w.alloc (.deferred (some []))).alloc (.loop (R .ready none))
  have sV : V.heap.size = D + 2 := by simp [V, hD]
  have rV : V.heap[D + 1]? = some (.loop (R .ready none)) := by
    have := World.alloc_heap_new (w.alloc (.deferred (some []))) (.loop (R .ready none))
    rwa [World.size_alloc, hD] at this
  have dV : V.heap[D]? = some (.deferred (some [])) := by
    have := World.alloc_heap_new w (.deferred (some []))
    rw [hD] at this
    exact (Below.heap_alloc _ _ _ (by simp; omega)).trans this
  have iV : I 0 V := hI.alloc _ (hI.alloc _ h0)
  have bV : Below w.heap.size w V := ((Below.refl _ w).alloc (Nat.le_refl _) _).alloc (by simp) _
  have keep : ∀ {X Y : World} {row : Option Nat} {k : Nat} {o : Obj}, X.grownBy Y row → (∀ r, row = some r → V.heap.size ≤ r ∧ ∃ o : Obj, X.heap[r]? = some o ∧ o.isCells = false) → k < D + 2 → X.heap[k]? = some o → Y.heap[k]? = some o := by
    intro X Y row k o hXY hr hk hX
    refine (hXY.block k (Array.getElem?_eq_some_iff.1 hX).1 fun e => ?_).trans hX
    have := (hr k e.symm).1
    omega
  have wide : ∀ {X : World} {row : Option Nat}, (∀ r, row = some r → V.heap.size ≤ r ∧ ∃ o : Obj, X.heap[r]? = some o ∧ o.isCells = false) → ∀ r, row = some r → D ≤ r ∧ ∃ o : Obj, X.heap[r]? = some o ∧ o.isCells = false :=
    fun hr r e => ⟨by have := (hr r e).1; omega, (hr r e).2⟩
  refine ⟨D + 1, [{ target := .collected D, args := #[] }], V, { target := .fn (.func gf) lb, args := #[.func (.yield (D + 1)) #[] #[]] }, V, gf, #[.func (.yield (D + 1)) #[] #[]] ++ lb, V, ?_, ?_, fun _ _ => trivial, ?_, fun _ => h1, ?_⟩
  · have := run_enterLoop_outer (P := P) (w := w) fn a.tmps ps assign body
    rw [hD] at this
    exact this
  · simp only [resolve, hg]
    simp [go_sem]
  · simp [invoke, go_sem, eg]
  refine (hseq (D + 1) (fun k W => I k W ∧ W.heap[D + 1]? = some (.loop (R .ready none)) ∧ W.heap[D]? = some (.deferred (some []))) V (hD ▸ bV)
    (fun s A B row hs hAB hr => ⟨hI s A B row hs.1 hAB (wide hr), keep hAB hr (by omega) hs.2.1, keep hAB hr (by omega) hs.2.2⟩) ?_ ⟨iV, rV, dV⟩).mono ?_
  · -- a round
    rintro k X hk ⟨iX, rX, dX⟩
    have ltX : D + 1 < X.heap.size := (Array.getElem?_eq_some_iff.1 rX).1
    obtain ⟨X1, hX1⟩ : ∃ X1, X1 = X.alloc (.cells #[.int .i64 (pt T k).x, .int .i64 (pt T k).y, .int .i64 (pt T k).z] tp) := ⟨_, rfl⟩
    have gX : X.grownBy X1 none := by rw [hX1]; exact World.grownBy_alloc X _ none
    have up : ∀ {j : Nat} {o : Obj}, X.heap[j]? = some o → X1.heap[j]? = some o := fun hX => (gX.block _ (Array.getElem?_eq_some_iff.1 hX).1 (fun e => by cases e)).trans hX
    have rX1 := up rX
    have dX1 := up dX
    have iX1 : I k X1 := hI k X X1 none iX gX (fun r e => by cases e)
    have ltX1 : D + 1 < X1.heap.size := (Array.getElem?_eq_some_iff.1 rX1).1
    have oX1 : X1.heap[X.heap.size]? = some (.cells #[.int .i64 (pt T k).x, .int .i64 (pt T k).y, .int .i64 (pt T k).z] tp) := by rw [hX1]; exact World.alloc_heap_new X _
    refine ⟨fn, _, assign, body, run_yield (P := P) (args := #[(pt T k).v]) rX (by simp [R, hps]), roundIn_of_wpIn hfn (hassign _ k X _ _ hk rfl ?_)⟩
    rw [← hX1]
    refine ⟨_, run_beginRound rX1 rfl, ?_⟩
    let Y : World := X1.putObj (D + 1) (.loop { R .ready none with state := .busy })
    have rY : Y.heap[D + 1]? = some (.loop { R .ready none with state := .busy }) := World.putObj_heap_same ltX1
    have dY : Y.heap[D]? = some (.deferred (some [])) := (World.putObj_heap_other (by omega)).trans dX1
    have gY : X1.grownBy Y (some (D + 1)) := grownBy_putObj' X1 (D + 1) _
    have iZ0 : ∀ Z : World, Y.grownBy Z (some X.heap.size) → I k Z := fun Z hZ => by
      refine hI k X Z (some (D + 1)) iX ⟨hZ.os.trans (gY.os.trans gX.os), hZ.tape.trans (gY.tape.trans gX.tape), hZ.output.trans (gY.output.trans gX.output), Nat.le_trans gX.size (Nat.le_trans gY.size hZ.size), fun j hj hn => ?_⟩ (fun r e => by cases e; exact ⟨by omega, _, rX, rfl⟩)
      have hs1 := gX.size
      have hs2 := gY.size
      exact (hZ.block j (by omega) (fun e => by cases e; omega)).trans ((gY.block j (by omega) hn).trans (gX.block j hj (fun e => by cases e)))
    refine wpIn_mono (hbody _ k Y X.heap.size hk iZ0 (by omega) ((World.putObj_heap_other (by omega)).trans oX1)) ?_
    have far : ∀ (o : Obj) (Z : World), KeepsFrom D Y Z → KeepsFrom (D + 2) X (Z.putObj (D + 1) o) := fun o Z hZ =>
      ⟨by have h9 := hZ.size; have h8 := gX.size; simp [Y] at h9 ⊢; omega, fun j o' hj hX ho => (World.putObj_heap_other (by omega)).trans (hZ.same j o' (by omega) ((World.putObj_heap_other (by omega)).trans (up hX)) ho)⟩
    have ends : ∀ (jump : Option Code) (Z : World), KeepsFrom D Y Z → (Instr.endRound (D + 1) jump).run P Z = .ok (.bool jump.isNone) (Z.putObj (D + 1) (.loop (R (if jump.isNone then .ready else .done) jump))) ∧ Z.heap[D + 1]? = some (.loop { R .ready none with state := .busy }) ∧
        (Z.putObj (D + 1) (.loop (R (if jump.isNone then .ready else .done) jump))).heap[D + 1]? = some (.loop (R (if jump.isNone then .ready else .done) jump)) ∧ (Z.putObj (D + 1) (.loop (R (if jump.isNone then .ready else .done) jump))).heap[D]? = some (.deferred (some [])) := by
      intro jump Z hZ
      have rZ := hZ.same _ _ (by omega) rY rfl
      exact ⟨run_endRound (P := P) jump rZ, rZ, World.putObj_heap_same (Array.getElem?_eq_some_iff.1 rZ).1, (World.putObj_heap_other (by omega)).trans (hZ.same _ _ (Nat.le_refl _) dY rfl)⟩
    intro e a3 Z hp
    cases e with
    | normal =>
      obtain ⟨hZ, kZ, iZ⟩ := hp
      obtain ⟨e1, e2, e3, e4⟩ := ends none Z hZ
      exact ⟨_, _, e1, rfl, ⟨hI.putObj _ iZ (by omega) e2 rfl, e3, e4⟩, (⟨Nat.le_trans gX.size (Nat.le_trans gY.size kZ.size), fun q v hq hv => kZ.cell q v ⟨hq, fun e => by have := World.block_lt_of_cell? _ _ hv; omega⟩ (((KeepC.grown (S := S) gX).trans (KeepC.put _ rX1 rfl)).cell q v hq hv)⟩ : KeepC S X Z).trans (KeepC.put _ e2 rfl), hD ▸ far _ Z hZ⟩
    | ret => exact hp.elim
    | exit id => exact hp.elim
    | goto t => exact hp.elim
    | panic ch => exact hp.elim
    | outgrown => exact hp.elim
  · rintro e X ⟨⟨v, rfl⟩, iX, rX, dX⟩
    exact ⟨none, _, run_endLoop (P := P) rX (by simp [R]), hdone D _ (Nat.le_refl _) (hI.putObj _ iX (by omega) rX rfl) ((World.putObj_heap_other (by omega)).trans dX)⟩
end Go.Proofs.Ytfalniafkambmaa
namespace Go.Proofs.Ytfalniafkambmaa
open Go.RowKit Go.Shelf
set_option linter.unusedVariables false

theorem nbetween_any (n a b : Int) (w : World) :
    Calls Try.prog 44 #[.int .i64 n, .int .i64 a, .int .i64 b] w fun e w' => e = .returned (.bool (decide (a ≤ n ∧ n ≤ b))) ∧ w' = w := by
  by_cases h1 : a ≤ n
  · go_enter Try.func44, Try.ntmps44
    go_wp2
    go_ret
    exact ⟨by simp [h1], rfl⟩
  · go_enter Try.func44, Try.ntmps44
    go_wp2
    go_ret
    exact ⟨by simp; omega, rfl⟩

set_option maxHeartbeats 1000000 in
theorem nless_any (p q : Pt) (w : World) (hp : p.inB 1152921504606846976 = true) (hq : q.inB 1152921504606846976 = true) :
    Calls Try.prog 76 #[p.v, q.v] w fun e W => e = .returned (p.sub q).v ∧ Below w.heap.size w W := by
  obtain ⟨x, y, z⟩ := p
  obtain ⟨x', y', z'⟩ := q
  rw [Pt.inB_iff] at hp hq
  unfold Pt.v Pt.sub
  dsimp only at *
  go_enter Try.func76, Try.ntmps76
  go_wp2
  exact bodyPost_ret (v := .agg #[.int .i64 (x - x'), .int .i64 (y - y'), .int .i64 (z - z')]) (by simp [results, Try.results76, go_sem]) rfl ⟨rfl, (((Below.refl _ w).alloc (Nat.le_refl _) _).alloc (by simp) _).alloc (by simp; omega) _⟩
set_option maxHeartbeats 1000000 in
theorem nback_any (p : Pt) (w : World) (hp : p.inB 1152921504606846976 = true) :
    Calls Try.prog 52 #[p.v] w fun e W => e = .returned p.neg.v ∧ Below w.heap.size w W := by
  obtain ⟨x, y, z⟩ := p
  rw [Pt.inB_iff] at hp
  unfold Pt.v Pt.neg
  dsimp only at *
  go_enter Try.func52, Try.ntmps52
  go_wp2
  exact bodyPost_ret (v := .agg #[.int .i64 (-x), .int .i64 (-y), .int .i64 (-z)]) (by simp [results, Try.results52, go_sem]) rfl ⟨rfl, (((((Below.refl _ w).alloc (Nat.le_refl _) _).alloc (by simp) _).alloc (by simp; omega) _).alloc (by simp; omega) _).alloc (by simp; omega) _⟩
set_option maxHeartbeats 1000000 in
theorem ndot_any (p q : Pt) (w : World) (hp : p.inB 536870912 = true) (hq : q.inB 536870912 = true) :
    Calls Try.prog 29 #[p.v, q.v] w fun e W => e = .returned (.int .i64 (p.dot q)) ∧ Below w.heap.size w W := by
  obtain ⟨x, y, z⟩ := p
  obtain ⟨x', y', z'⟩ := q
  rw [Pt.inB_iff] at hp hq
  unfold Pt.v Pt.dot
  dsimp only at *
  have h1 := prod_in hp.1 hq.1 (by decide)
  have h2 := prod_in hp.2.1 hq.2.1 (by decide)
  have h3 := prod_in hp.2.2 hq.2.2 (by decide)
  clear hp hq
  go_enter Try.func29, Try.ntmps29
  go_wp2
  go_ret
  exact ⟨rfl, ((Below.refl _ w).alloc (Nat.le_refl _) _).alloc (by simp) _⟩
set_option maxHeartbeats 1000000 in
theorem ncross_any (p q : Pt) (w : World) (hp : p.inB 536870912 = true) (hq : q.inB 536870912 = true) :
    Calls Try.prog 73 #[p.v, q.v] w fun e W => e = .returned (p.cross q).v ∧ Below w.heap.size w W := by
  obtain ⟨x, y, z⟩ := p
  obtain ⟨x', y', z'⟩ := q
  rw [Pt.inB_iff] at hp hq
  unfold Pt.v Pt.cross
  dsimp only at *
  have h1 := prod_in hp.2.1 hq.2.2 (by decide)
  have h2 := prod_in hp.2.2 hq.2.1 (by decide)
  have h3 := prod_in hp.2.2 hq.1 (by decide)
  have h4 := prod_in hp.1 hq.2.2 (by decide)
  have h5 := prod_in hp.1 hq.2.1 (by decide)
  have h6 := prod_in hp.2.1 hq.1 (by decide)
  clear hp hq
  go_enter Try.func73, Try.ntmps73
  go_wp2
  refine bodyPost_ret (v := .agg #[.int .i64 (y * z' - z * y'), .int .i64 (z * x' - x * z'), .int .i64 (x * y' - y * x')]) ?_ rfl ⟨rfl, (((Below.refl _ w).alloc (Nat.le_refl _) _).alloc (by simp) _).alloc (by simp; omega) _⟩
  simp [results, Try.results73, go_sem]
set_option maxHeartbeats 1000000 in
theorem nwithin_any (p : Pt) (m : Int) (w : World) (hm : 0 ≤ m) (hm' : m ≤ 1152921504606846976) :
    Calls Try.prog 28 #[p.v, .int .i64 m] w fun e W => e = .returned (.bool (p.inB m)) ∧ Below w.heap.size w W := by
  obtain ⟨x, y, z⟩ := p
  have HE : Hid (∀ b : Bool, (b = true ↔ (-m ≤ x ∧ x ≤ m) ∧ (-m ≤ y ∧ y ≤ m) ∧ (-m ≤ z ∧ z ≤ m)) → Pt.inB ⟨x, y, z⟩ m = b) := fun b h => by
    rw [Bool.eq_iff_iff, h, Pt.inB_iff]
  unfold Pt.v
  go_enter Try.func28, Try.ntmps28
  go_wp2
  all_goals
    go_ret
    exact ⟨congrArg (fun b => Ending.returned (.bool b)) (HE.out _ ⟨fun h => by first | (cases h; done) | omega | (have h' := of_decide_eq_true h; omega), fun h => by first | rfl | (exfalso; omega) | exact decide_eq_true (by omega)⟩).symm, n_after w _⟩
set_option maxHeartbeats 1000000 in
theorem nplus_any (p : Pt) (w : World) (hp : p.inB 1152921504606846976 = true) :
    Calls Try.prog 77 #[p.v, p.v] w fun e W => e = .returned p.dbl.v ∧ Below w.heap.size w W := by
  obtain ⟨x, y, z⟩ := p
  rw [Pt.inB_iff] at hp
  unfold Pt.v Pt.dbl
  dsimp only at *
  have e1 : x + x = 2 * x := by omega
  have e2 : y + y = 2 * y := by omega
  have e3 : z + z = 2 * z := by omega
  have HE : Hid _ := And.intro e1 (And.intro e2 e3)
  clear e1 e2 e3
  go_enter Try.func77, Try.ntmps77
  go_wp2
  exact bodyPost_ret (v := .agg #[.int .i64 (x + x), .int .i64 (y + y), .int .i64 (z + z)]) (by simp [results, Try.results77, go_sem]) rfl ⟨by rw [HE.out.1, HE.out.2.1, HE.out.2.2], (((Below.refl _ w).alloc (Nat.le_refl _) _).alloc (by simp) _).alloc (by simp; omega) _⟩

set_option maxHeartbeats 2000000 in
set_option maxRecDepth 100000 in
theorem nall_any (Ls : List Pt) (m : Int) (v : Value) (w : World) (hv : Lies w v Ls) (hm : 0 ≤ m) (hm' : m ≤ 1152921504606846976) :
    Calls Try.prog 45 #[v, .int .i64 m] w fun e W => e = .returned (.bool (Ls.all (·.inB m))) ∧ Below w.heap.size w W := by
  obtain ⟨o, cap, rfl, hlc, hcm, hcell⟩ := hv.form
  have HC : Hid _ := hcell
  have HW : Hid _ := fun (p : Pt) (w' : World) => nwithin_any p m w' hm hm'
  clear hv hcell
  go_enter Try.func45, Try.ntmps45
  go_wp2_with (fail)
  go_loopg [9] Ls.length (fun gm s wr => ∃ i : Nat, s = .int .i64 (i : Int) ∧ i ≤ Ls.length ∧ gm = Ls.length - i ∧ Hid (∀ p ∈ Ls.take i, p.inB m = true) ∧ Hid (Below w.heap.size w wr))
  case atStart => exact ⟨0, rfl, Nat.zero_le _, rfl, by simp [Hid], Below.refl _ _⟩
  case round =>
    obtain ⟨i, rfl, hi, hgm, HT, HB⟩ := hrel
    have HG1 : Hid _ := hgm
    clear hgm
    by_cases hit : i < Ls.length
    · obtain ⟨g, f, rfl, x0, x1, x2⟩ := HC.out i hit
      have y0 := c_after HB.out x0
      have y1 := c_after HB.out x1
      have y2 := c_after HB.out x2
      have HWp : Hid _ := fun w' => HW.out (pt Ls i) w'
      have HTK : Hid (Ls.take (i + 1) = Ls.take i ++ [pt Ls i]) := take_pt hit
      have HM : Hid (pt Ls i ∈ Ls) := pt_mem hit
      generalize pt Ls i = q at *
      obtain ⟨qx, qy, qz⟩ := q
      unfold Pt.v at HWp
      dsimp only at *
      clear x0 x1 x2 HC HW
      go_wp2_with (fail)
      refine Calls.mono (HWp.out _) ?_
      rintro e V ⟨rfl, hb⟩
      have HB2 : Hid _ := b_step HB.out (b_step (n_after _ _) hb)
      clear hb y0 y1 y2
      cases hin : Pt.inB ⟨qx, qy, qz⟩ m with
      | true =>
        have HIN : Hid _ := hin
        clear hin
        go_wp2_with (fail)
        go_roundg (Ls.length - (i + 1))
        case rel =>
          refine ⟨i + 1, by simp, by omega, rfl, fun p hp => ?_, HB2⟩
          rw [HTK.out, List.mem_append] at hp
          rcases hp with hp | hp
          · exact HT.out p hp
          · rw [List.mem_singleton.1 hp]; exact HIN.out
        case measure => have := HG1.out; omega
      | false =>
        have HAL : Hid (Ls.all (·.inB m) = false) := by
          show _ = _
          rw [List.all_eq_false]
          exact ⟨_, HM.out, by rw [hin]; decide⟩
        clear hin
        go_wp2_with (fail)
        go_ret
        exact ⟨by rw [HAL.out]; rfl, HB2.out⟩
    · obtain rfl : i = Ls.length := by omega
      have HAL : Hid (Ls.all (·.inB m) = true) := by
        show _ = _
        rw [List.all_eq_true]
        intro p hp
        exact HT.out p (by rw [List.take_length]; exact hp)
      go_wp2_with (fail)
      go_ret
      exact ⟨by rw [HAL.out]; rfl, HB.out⟩
end Go.Proofs.Ytfalniafkambmaa
namespace Go.Proofs.Ytfalniafkambmaa
open Go.RowKit Go.Shelf
open Fx (isq isq_is isq_of)
set_option linter.unusedVariables false

set_option maxHeartbeats 2000000 in
set_option maxRecDepth 100000 in
theorem ndir_any (Ls : List Pt) (v : Value) (w : World) (hv : Lies w v Ls) :
    Calls Try.prog 46 #[v] w fun e W => e = .returned (.bool (decide (Ls.length ≤ 128) && Ls.all (·.inB 1048576))) ∧ Below w.heap.size w W := by
  have HA : Hid _ := fun (w' : World) (h : Lies w' v Ls) => nall_any Ls 1048576 v w' h (by decide) (by decide)
  obtain ⟨o, cap, rfl, hlc, hcm, _⟩ := hv.form
  have HV : Hid _ := hv
  clear hv
  by_cases h : Ls.length ≤ 128
  · have h' : (Ls.length : Int) ≤ 128 := by omega
    have HD : Hid (decide (Ls.length ≤ 128) = true) := decide_eq_true h
    clear h
    go_enter Try.func46, Try.ntmps46
    go_wp2_with (fail)
    refine Calls.mono (HA.out _ HV.out) ?_
    rintro e V ⟨rfl, hb⟩
    go_wp2_with (fail)
    go_ret
    exact ⟨by rw [HD.out]; rfl, hb⟩
  · have h' : ¬ (Ls.length : Int) ≤ 128 := by omega
    have HD : Hid (decide (Ls.length ≤ 128) = false) := decide_eq_false h
    clear h
    go_enter Try.func46, Try.ntmps46
    go_wp2_with (fail)
    go_ret
    exact ⟨by rw [HD.out]; rfl, Below.refl _ _⟩

theorem pow_rng : ∀ {g : Nat}, g < 25 → (1 : Int) ≤ 2 ^ g ∧ (2 : Int) ^ g ≤ 16777216 := by decide
set_option maxHeartbeats 2000000 in
set_option maxRecDepth 100000 in
theorem nroot_any (n : Int) (w : World) (h0 : 0 ≤ n) (h1 : n < 1125899906842624) :
    Calls Try.prog 30 #[.int .i64 n] w fun e W => e = .returned (.int .i64 (isq n.toNat : Int)) ∧ W = w := by
  go_enter Try.func30, Try.ntmps30
  go_wp2_with (fail)
  go_loopg [3, 4] 25 (fun gm s3 s4 wr => ∃ (r b : Int), s3 = .int .i64 r ∧ s4 = .int .i64 b ∧ wr = w ∧ 0 ≤ r ∧ r ≤ 33554432 ∧ Hid (r * r ≤ n) ∧ ((gm = 0 ∧ b = 0 ∧ Hid (n < (r + 1) * (r + 1))) ∨ ∃ g : Nat, gm = g + 1 ∧ g < 25 ∧ b = 2 ^ g ∧ Hid (n < (r + 2 * 2 ^ g) * (r + 2 * 2 ^ g))))
  case atStart => exact ⟨0, 16777216, rfl, rfl, rfl, by omega, by omega, by show _ ≤ _; omega, Or.inr ⟨24, rfl, by omega, by decide, by show _ < _; omega⟩⟩
  case round =>
    obtain ⟨r, b, rfl, rfl, rfl, hr0, hr1, HR, hc⟩ := hrel
    rcases hc with ⟨hg, rfl, HN⟩ | ⟨g, hg, hg2, hb, HN⟩
    · go_wp2_with (fail)
      go_ret
      exact ⟨by rw [isq_of hr0 HR.out HN.out]; rfl, rfl⟩
    · have hb1 : 1 ≤ b ∧ b ≤ 16777216 := by
        have := pow_rng hg2
        omega
      have hb0 : 0 < b := hb1.1
      have hm := mul_in (a := r + b) (b := r + b) (A := 67108864) (B := 67108864) (by omega) (by omega)
      have HP : Hid _ := hg
      have HB : Hid _ := hb
      have HG2 : Hid _ := hg2
      obtain ⟨c, hc⟩ : ∃ c, b.tdiv 2 = c := ⟨_, rfl⟩
      have HC : Hid _ := hc
      have hcw : wrap64 c = c := by
        have h3 : 0 ≤ c ∧ c ≤ b := by
          rw [← hc]
          have := Int.tdiv_eq_ediv_of_nonneg (a := b) (b := 2) (by omega)
          omega
        exact w64 (by omega) (by omega)
      obtain ⟨m, hm1⟩ : ∃ m, r + b = m := ⟨_, rfl⟩
      rw [hm1] at hm
      have HM1 : Hid _ := hm1
      have hmw : IntKind.i64.wrap (r + b) = m := by rw [hm1, IntKind.wrap_i64]; omega
      obtain ⟨q, hq⟩ : ∃ q, m * m = q := ⟨_, rfl⟩
      have hqw : IntKind.i64.wrap (m * m) = q := by rw [hq, IntKind.wrap_i64]; omega
      have HQ : Hid _ := hq
      clear hg hb hg2 hm hm1 hq
      have fin : Hid (∀ r2 : Int, 0 ≤ r2 → r2 ≤ 33554432 → r2 * r2 ≤ n → n < (r2 + b) * (r2 + b) → ∃ (r b : Int), Value.int .i64 r2 = .int .i64 r ∧ Value.int .i64 c = .int .i64 b ∧ 0 ≤ r ∧ r ≤ 33554432 ∧ Hid (r * r ≤ n) ∧ ((g = 0 ∧ b = 0 ∧ Hid (n < (r + 1) * (r + 1))) ∨ ∃ g' : Nat, g = g' + 1 ∧ g' < 25 ∧ b = 2 ^ g' ∧ Hid (n < (r + 2 * 2 ^ g') * (r + 2 * 2 ^ g')))) := fun r2 k0 k1 k2 k3 => by
        refine ⟨r2, c, rfl, rfl, k0, k1, k2, ?_⟩
        have hb := HB.out
        have hcc := HC.out
        cases g with
        | zero =>
          rw [hb] at hcc k3
          exact Or.inl ⟨rfl, hcc.symm.trans (by decide), k3⟩
        | succ g' =>
          have e2 : (2 : Int) ^ (g' + 1) = 2 * 2 ^ g' := by rw [Int.pow_succ, Int.mul_comm]
          rw [hb, e2] at hcc k3
          refine Or.inr ⟨g', rfl, by have := HG2.out; omega, ?_, k3⟩
          rw [← hcc, Int.mul_tdiv_cancel_left _ (by decide)]
      by_cases hle : q ≤ n
      · have HR2 : Hid (m * m ≤ n) := by show _ ≤ _; rw [HQ.out]; exact hle
        have HF : Hid _ := fin.out m (by have := HM1.out; omega) (by
          have h7 := HR2.out
          have h8 : m < 33554432 := by
            apply Int.not_le.1
            intro h9
            have := Int.mul_le_mul h9 h9 (by decide) (by omega)
            omega
          omega) HR2.out (by
            have h9 := HN.out
            rw [← HB.out] at h9
            rw [← HM1.out, show r + b + b = r + 2 * b by omega]
            exact h9)
        go_wp2_with (fail)
        go_roundg g
        case rel => obtain ⟨r9, b9, k1, k2, k3⟩ := HF.out; exact ⟨r9, b9, k1, (by first | exact k2 | (rw [hcw]; exact k2)), rfl, k3⟩
        case measure => have := HP.out; omega
      · have HF : Hid _ := fin.out r hr0 hr1 HR.out (by rw [HM1.out, HQ.out]; omega)
        go_wp2_with (fail)
        go_roundg g
        case rel => obtain ⟨r9, b9, k1, k2, k3⟩ := HF.out; exact ⟨r9, b9, k1, (by first | exact k2 | (rw [hcw]; exact k2)), rfl, k3⟩
        case measure => have := HP.out; omega

/-- A direction's sizes, as they are told. -/
def dnT (n : Pt) : Int := if n.inB 16777216 then dn n else 0
def upT (n : Pt) : Int := if n.inB 16777216 then up n else 0
theorem dot_rng {n : Pt} (h : n.inB 16777216 = true) : 0 ≤ n.dot n ∧ n.dot n < 1125899906842624 := ⟨dot_self n, by have := dot_inC h h (C := 844424930131968) (by decide); omega⟩
theorem dn_rng {n : Pt} (h : n.inB 16777216 = true) : 0 ≤ dn n ∧ dn n < 33554432 := by
  obtain ⟨h0, h1, _⟩ := dn_is n
  refine ⟨h0, ?_⟩
  apply Int.not_le.1
  intro h9
  have := Int.mul_le_mul h9 h9 (by decide) (by omega)
  have := (dot_rng h).2
  omega
set_option maxHeartbeats 2000000 in
set_option maxRecDepth 100000 in
theorem nsizes_any (n : Pt) (w : World) :
    Calls Try.prog 11 #[n.v] w fun e W => e = .returned (.tuple #[.int .i64 (dnT n), .int .i64 (upT n)]) ∧ Below w.heap.size w W := by
  have HW : Hid _ := fun w' => nwithin_any n 16777216 w' (by decide) (by decide)
  have HD : Hid _ := fun w' (h : n.inB 16777216 = true) => ndot_any n n w' (inB_mono h (by decide)) (inB_mono h (by decide))
  have HRT : Hid _ := fun w' (h : n.inB 16777216 = true) => nroot_any (n.dot n) w' (dot_rng h).1 (dot_rng h).2
  have HDN : Hid ((isq (n.dot n).toNat : Int) = dn n) := rfl
  rw [HDN.out] at HRT
  cases hin : n.inB 16777216 with
  | true =>
    obtain ⟨d0, d1⟩ := dn_rng hin
    have hm := mul_in (a := dn n) (b := dn n) (A := 33554432) (B := 33554432) (by omega) (by omega)
    have HT1 : Hid (dnT n = dn n) := by show _ = _; simp [dnT, hin]
    have HT2 : Hid (upT n = if dn n * dn n = n.dot n then dn n else dn n + 1) := by show _ = _; simp [upT, up, hin]
    have HW1 : Hid _ := fun w' => HW.out w'
    simp only [hin] at HW1
    have HD1 : Hid _ := fun w' => HD.out w' hin
    have HRT1 : Hid _ := fun w' => HRT.out w' hin
    clear hin HDN HW HD HRT
    generalize dn n = d at *
    generalize n.dot n = q at *
    obtain ⟨sq, hsq⟩ : ∃ sq, d * d = sq := ⟨_, rfl⟩
    have hsw : IntKind.i64.wrap (d * d) = sq := by rw [hsq, IntKind.wrap_i64]; omega
    rw [hsq] at HT2
    clear hm hsq
    obtain ⟨x, y, z⟩ := n
    unfold Pt.v at *
    dsimp only at *
    go_enter Try.func11, Try.ntmps11
    go_wp2_with (fail)
    refine Calls.mono (HW1.out _) ?_
    rintro e V ⟨rfl, hb⟩
    have B3 : Hid _ := (Box3.new w x y z 23).step hb
    have hB : Hid _ := b_step (n_after w _) hb
    clear hb
    obtain ⟨c0, c1, c2, _, _, _⟩ := B3.out
    go_wp2_with (fail)
    refine Calls.mono (HD1.out _) ?_
    rintro e V2 ⟨rfl, hb⟩
    have hB : Hid _ := b_step hB.out hb
    clear hb c0 c1 c2 B3
    go_wp2_with (fail)
    refine Calls.mono (HRT1.out _) ?_
    rintro e V3 ⟨rfl, rfl⟩
    by_cases he : sq = q
    · rw [if_pos he] at HT2
      go_wp2_with (fail)
      exact bodyPost_ret (v := .tuple #[.int .i64 d, .int .i64 d]) (by simp [results, Try.results11, go_sem]) rfl ⟨by rw [HT1.out, HT2.out], hB.out⟩
    · rw [if_neg he] at HT2
      have hw1 : IntKind.i64.wrap (d + 1) = d + 1 := by rw [IntKind.wrap_i64]; omega
      go_wp2_with (fail)
      exact bodyPost_ret (v := .tuple #[.int .i64 d, .int .i64 (d + 1)]) (by simp [results, Try.results11, go_sem]) rfl ⟨by rw [HT1.out, HT2.out], hB.out⟩
  | false =>
    have HT1 : Hid (dnT n = 0) := by show _ = _; simp [dnT, hin]
    have HT2 : Hid (upT n = 0) := by show _ = _; simp [upT, hin]
    have HW1 : Hid _ := fun w' => HW.out w'
    simp only [hin] at HW1
    clear hin HDN HD HRT HW
    obtain ⟨x, y, z⟩ := n
    unfold Pt.v at *
    dsimp only at *
    go_enter Try.func11, Try.ntmps11
    go_wp2_with (fail)
    refine Calls.mono (HW1.out _) ?_
    rintro e V ⟨rfl, hb⟩
    have hB : Hid _ := b_step (n_after w _) hb
    clear hb
    go_wp2_with (fail)
    exact bodyPost_ret (v := .tuple #[.int .i64 0, .int .i64 0]) (by simp [results, Try.results11, go_sem]) rfl ⟨by rw [HT1.out, HT2.out], hB.out⟩


set_option maxHeartbeats 4000000 in
set_option maxRecDepth 100000 in
theorem nends_any (n : Pt) (P : List Pt) (v : Value) (w0 : World) (hv : Lies w0 v P) (h0 : 0 < P.length) (hn : n.inB 67108864 = true) (hP : ∀ p ∈ P, p.inB 67108864 = true) :
    Calls Try.prog 53 #[v, n.v] w0 fun e W => e = .returned (.tuple #[.int .i64 (loP n P), .int .i64 (hiP n P)]) ∧ Below w0.heap.size w0 W := by
  have HV : Hid _ := hv
  obtain ⟨o, cap, rfl, hlc, hcm, hcell⟩ := hv.form
  have HD : Hid _ := fun (i : Nat) (hi : i < P.length) w' => ndot_any n (pt P i) w' (inB_mono hn (by decide)) (inB_mono (hP _ (pt_mem hi)) (by decide))
  obtain ⟨g, off, rfl, x0, x1, x2⟩ := hcell 0 h0
  have hne : ¬ P = [] := fun e => by rw [e] at h0; simp at h0
  have HD0 : Hid _ := fun w' => HD.out 0 h0 w'
  have HLO : Hid (∀ k, loK n P (k + 1) = if n.dot (pt P (k + 1)) < loK n P k then n.dot (pt P (k + 1)) else loK n P k) := fun k => by show min _ _ = _; omega
  have HHI : Hid (∀ k, hiK n P (k + 1) = if hiK n P k < n.dot (pt P (k + 1)) then n.dot (pt P (k + 1)) else hiK n P k) := fun k => by show max _ _ = _; omega
  have HLF : Hid (loP n P = loK n P (P.length - 1)) := rfl
  have HHF : Hid (hiP n P = hiK n P (P.length - 1)) := rfl
  have HL0 : Hid (n.dot (pt P 0) = loK n P 0) := rfl
  have HH0 : Hid (hiK n P 0 = loK n P 0) := rfl
  clear hv hn hP
  rw [show off + 0 * 3 = off by omega] at x0 x1 x2
  obtain ⟨nx, ny, nz⟩ := n
  obtain ⟨V, hV⟩ : ∃ V, V = w0.alloc (.cells #[.int .i64 nx, .int .i64 ny, .int .i64 nz] 23) := ⟨_, rfl⟩
  obtain ⟨nb, hnb⟩ : ∃ b, b = w0.heap.size := ⟨_, rfl⟩
  have B3 : Hid (Box3 V nb ⟨nx, ny, nz⟩) := by show Box3 _ _ _; rw [hV, hnb]; exact Box3.new _ _ _ _ _
  have hB : Hid (Below w0.heap.size w0 V) := by show Below _ _ _; rw [hV]; exact n_after _ _
  have c0 := c_after hB.out x0
  have c1 := c_after hB.out x1
  have c2 := c_after hB.out x2
  have HV : Hid _ := HV.out.below hB.out
  clear x0 x1 x2 hcell
  rw [HL0.out] at HD0
  obtain ⟨dq0, hd0⟩ : ∃ d, d = loK ⟨nx, ny, nz⟩ P 0 := ⟨_, rfl⟩
  rw [← hd0] at HD0 HH0
  have HE0 : Hid _ := hd0
  clear hd0 HL0
  unfold Pt.v at *
  generalize (pt P 0).x = ax at *
  generalize (pt P 0).y = ay at *
  generalize (pt P 0).z = az at *
  dsimp only at *
  go_enter Try.func53, Try.ntmps53
  go_upto_region 1 with fail
  rw [← hV, ← hnb]
  clear hV hnb
  obtain ⟨b0_, b1_, b2_, _, _, _⟩ := B3.out
  go_cut [4] from 9 to 13 (fun s4 wx => s4 = .int .i64 dq0 ∧ Hid (Below V.heap.size V wx))
  case first =>
    refine RV.region_is [.some (.agg #[.int .i64 (nx), .int .i64 (ny), .int .i64 (nz)]), .some (.slice (some ⟨g, off, none⟩) P.length cap), .some (.pointer (some ⟨g, off, none⟩)), .some (.agg #[.int .i64 (ax), .int .i64 (ay), .int .i64 (az)]), .some (.int .i64 (dq0)), .some (.int .i64 (dq0))] [10, 11, 12, 13, 14, 5] [(0, .slice (some ⟨g, off, none⟩) P.length cap), (3, .pointer (some ⟨nb, 0, none⟩))] (fun γ L w9 => Below V.heap.size V w9) (by kernel_rfl) (by kernel_rfl) (by kernel_rfl) (by kernel_rfl) (by kernel_rfl) (by kernel_rfl) (by kernel_rfl) ⟨rfl, rfl, trivial⟩ ?_ ?_ ?_
    · exact (Below.refl _ V).drew
    · intro D WA Z hD hWA hZ T
      simp only [RV.Outs, RV.Slots, Nat.reduceAdd] at T
      iterate 4 first
        | (refine RV.AllDo.cons _ (RV.pu T (fun γ v L w hl h => h) (fun γ L a w hH hl h9 k9 => ⟨_, ?_, rfl⟩)) ?_; · simp [execOp, go_sem, h9])
        | (refine RV.AllDo.cons _ (RV.pu T (fun γ v L w hl h => h) (fun γ L a w hH hl h9 k9 => ⟨_, ?_, rfl⟩)) ?_; · simp [Region.binds] at k9; simp [execOp, go_sem, h9, k9, hne])
        | (refine RV.AllDo.cons _ (RV.pu T (fun γ v L w hl h => h) (fun γ L a w hH hl h9 k9 => ⟨_, ?_, rfl⟩)) ?_; · have hB9 := hH.glob; have q0 := c_after hB9 b0_; have q1 := c_after hB9 b1_; have q2 := c_after hB9 b2_; simp [execOp, go_sem, h9, q0, q1, q2])
        | (refine RV.AllDo.cons _ (RV.pu T (fun γ v L w hl h => h) (fun γ L a w hH hl h9 k9 => ⟨_, ?_, rfl⟩)) ?_; · have hB9 := hH.glob; have q0 := c_after hB9 c0; have q1 := c_after hB9 c1; have q2 := c_after hB9 c2; simp [Region.binds] at k9; simp [execOp, go_sem, h9, k9, q0, q1, q2])
      refine RV.AllDo.cons _ (RV.does_call (fun γ L a w hH hl hA => by have h9 := T γ L a w hH; have k9 := hA; simp [Region.binds] at k9; have hB9 := hH.glob; exact ⟨29, #[.agg #[.int .i64 (nx), .int .i64 (ny), .int .i64 (nz)], .agg #[.int .i64 (ax), .int .i64 (ay), .int .i64 (az)]], by simp [go_sem, h9, k9], Calls.mono (HD0.out w) (by rintro e w2 ⟨rfl, hb⟩; exact ⟨_, rfl, rfl, fun j v _ h => h.keep _, hB9.trans (hb.mono hB9.size)⟩)⟩)) ?_
      (refine RV.AllDo.cons _ (RV.pu T (fun γ v L w hl h => h) (fun γ L a w hH hl h9 k9 => ⟨_, ?_, rfl⟩)) ?_; · simp [Region.binds] at k9; simp [execOp, go_sem, h9, k9])
      exact RV.AllDo.nil
    · intro γ w5 L9 hL hI9 hG9
      have hb8 := hG9
      clear hL hI9 hG9
      simp only [RV.putL, Act.put, List.setIfInBounds_toArray, List.set_cons_zero, List.set_cons_succ]
      have HZ : Hid _ := hb8
      go_wp2_with (fail)
      go_meet
      case rel => exact ⟨rfl, HZ⟩
  case rest =>
    obtain ⟨rfl, HZ⟩ := hcut
    have B3 : Hid _ := Box3.step B3.out HZ.out
    have HV : Hid _ := Lies.below HV.out HZ.out
    have hB : Hid _ := b_step hB.out HZ.out
    clear HZ c0 c1 c2 b0_ b1_ b2_ HD0
    obtain ⟨X, hX⟩ : ∃ X : World, X = wc := ⟨_, rfl⟩
    rw [← hX] at B3 HV hB ⊢
    clear hX
    by_cases hc1 : cap = 1
    · have hl1 : P.length = 1 := by omega
      have HK : Hid (P.length - 1 = 0) := by show _ = _; omega
      rw [HK.out] at HLF HHF
      have HL1 : Hid _ := hl1
      subst hc1
      clear hne
      obtain ⟨pl, hpl⟩ : ∃ n, n = P.length := ⟨_, rfl⟩
      have e1 : pl = 1 := by rw [hpl]; exact hl1
      rw [← hpl]
      subst e1
      clear hl1
      go_wp2_with (fail)
      go_loopg [4, 5, 18] 1 (fun gm s4 s5 s18 wr => s4 = .int .i64 dq0 ∧ s5 = .int .i64 dq0 ∧ s18 = .int .i64 0 ∧ wr = X)
      case atStart => exact ⟨rfl, rfl, rfl, rfl⟩
      case round =>
        obtain ⟨rfl, rfl, rfl, rfl⟩ := hrel
        go_wp2_with (fail)
        exact bodyPost_ret (v := .tuple #[.int .i64 dq0, .int .i64 dq0]) (by simp [results, Try.results53, go_sem]) rfl ⟨by rw [HLF.out, HHF.out, HH0.out, ← HE0.out], hB.out⟩
    · have hw : IntKind.i64.wrap ((P.length : Int) - 1) = ((P.length - 1 : Nat) : Int) := by rw [IntKind.wrap_i64]; omega
      have hpl : P.length - 1 ≤ cap - 1 := by omega
      have hcc : cap - 1 ≤ 9223372036854775807 := by omega
      obtain ⟨m, hm⟩ : ∃ m, m = P.length - 1 := ⟨_, rfl⟩
      have HM : Hid _ := hm
      have HCE : Hid (∀ i, i < m → ∃ x y z, pt P (i + 1) = ⟨x, y, z⟩ ∧ X.cell? ⟨g, off + 3 + i * 3, none⟩ = some (.int .i64 x) ∧ X.cell? ⟨g, off + 3 + i * 3 + 1, none⟩ = some (.int .i64 y) ∧ X.cell? ⟨g, off + 3 + i * 3 + 2, none⟩ = some (.int .i64 z)) := fun i hi => by
        obtain ⟨o5, c5, e5, _, _, h5⟩ := HV.out.form
        simp only [Value.slice.injEq, true_and] at e5
        obtain ⟨e6, _⟩ := e5
        obtain ⟨g9, o9, e9, y0, y1, y2⟩ := h5 (i + 1) (by omega)
        rw [← e6] at e9
        cases e9
        rw [show off + (i + 1) * 3 = off + 3 + i * 3 by omega] at y0 y1 y2
        exact ⟨_, _, _, rfl, y0, y1, y2⟩
      go_upto_region 4 with fail
      rw [← hm] at hpl ⊢
      clear hm hw hne
      go_loopg [4, 5, 18] m (fun gm s4 s5 s18 wr => ∃ (i : Nat) (lo hi : Int), s4 = .int .i64 lo ∧ s5 = .int .i64 hi ∧ s18 = .int .i64 (i : Int) ∧ i ≤ m ∧ gm = m - i ∧ Hid (lo = loK ⟨nx, ny, nz⟩ P i) ∧ Hid (hi = hiK ⟨nx, ny, nz⟩ P i) ∧ Hid (Below X.heap.size X wr))
      case atStart => exact ⟨0, dq0, dq0, rfl, rfl, rfl, Nat.zero_le _, rfl, HE0, HH0.out.symm, Below.refl _ _⟩
      case round =>
        obtain ⟨i, lo, hi, rfl, rfl, rfl, hi9, hgm, HLK, HHK, HB⟩ := hrel
        have HG1 : Hid _ := hgm
        clear hgm
        by_cases hit : i < m
        · obtain ⟨ex, ey, ez, hpt, y0, y1, y2⟩ := HCE.out i hit
          have y0 := c_after HB.out y0
          have y1 := c_after HB.out y1
          have y2 := c_after HB.out y2
          have HDi : Hid _ := fun w' => HD.out (i + 1) (by have := HM.out; omega) w'
          have HL1 : Hid _ := HLO.out i
          have HH1 : Hid _ := HHI.out i
          rw [← HLK.out] at HL1
          rw [← HHK.out] at HH1
          rw [hpt] at HDi HL1 HH1
          clear hpt
          dsimp only at HDi
          generalize Pt.dot ⟨nx, ny, nz⟩ ⟨ex, ey, ez⟩ = dt at *
          have b0_ := (Box3.step B3.out HB.out).c0
          have b1_ := (Box3.step B3.out HB.out).c1
          have b2_ := (Box3.step B3.out HB.out).c2
          dsimp only at b0_ b1_ b2_
          obtain ⟨l2, hl2⟩ : ∃ v, (if dt < lo then dt else lo) = v := ⟨_, rfl⟩
          obtain ⟨h2, hh2⟩ : ∃ v, (if hi < dt then dt else hi) = v := ⟨_, rfl⟩
          rw [hl2] at HL1
          rw [hh2] at HH1
          have hnr : nb < wr.heap.size := World.block_lt_of_cell? _ _ b0_
          go_wp2_with (fail)
          refine Calls.mono (HDi.out _) ?_
          rintro e V5 ⟨rfl, hb⟩
          have HB2 : Hid _ := b_step HB.out (b_step (n_after _ _) hb)
          clear hb y0 y1 y2 b0_ b1_ b2_
          go_wp2_with (fail)
          go_roundg (m - (i + 1))
          case rel => exact ⟨i + 1, _, _, rfl, rfl, by simp, by omega, rfl, HL1.out.symm, HH1.out.symm, HB2⟩
          case measure => have := HG1.out; omega
        · obtain rfl : i = m := by omega
          have HF1 : Hid (loP ⟨nx, ny, nz⟩ P = lo) := by show _ = _; rw [HLF.out, HLK.out, HM.out]
          have HF2 : Hid (hiP ⟨nx, ny, nz⟩ P = hi) := by show _ = _; rw [HHF.out, HHK.out, HM.out]
          go_wp2_with (fail)
          exact bodyPost_ret (v := .tuple #[.int .i64 lo, .int .i64 hi]) (by simp [results, Try.results53, go_sem]) rfl ⟨by rw [HF1.out, HF2.out], b_step hB.out HB.out⟩
end Go.Proofs.Ytfalniafkambmaa
namespace Go.Proofs.Ytfalniafkambmaa
open Go.RowKit Go.Shelf
open Fx (isq isq_is isq_of)
set_option linter.unusedVariables false

theorem lng_far {p : Pt} (h : p.lng ≠ Pt.O) : p.lng.inB 1048576 = true ∧ 524288 ≤ dn p.lng := by
  rcases lng_is p with e | ⟨h1, h2⟩
  · exact absurd e h
  · refine ⟨h1, ?_⟩
    generalize p.lng = n at *
    have h9 := (Pt.inB_no n 524288).1 h2
    obtain ⟨k0, k1, k2⟩ := dn_is n
    apply Int.not_lt.1
    intro hlt
    have hs : (dn n + 1) * (dn n + 1) ≤ 524288 * 524288 := Int.mul_le_mul (by omega) (by omega) (by omega) (by decide)
    have q1 := sq0 n.x
    have q2 := sq0 n.y
    have q3 := sq0 n.z
    have big : ∀ x : Int, ¬ (-524288 ≤ x ∧ x ≤ 524288) → 524288 * 524288 < x * x := fun x hx => by
      rcases Int.lt_or_le 0 x with h | h
      · have := Int.mul_le_mul (show (524289 : Int) ≤ x by omega) (show (524289 : Int) ≤ x by omega) (by decide) (by omega)
        omega
      · have := Int.mul_le_mul (show (524289 : Int) ≤ -x by omega) (show (524289 : Int) ≤ -x by omega) (by decide) (by omega)
        rw [Int.neg_mul_neg] at this
        omega
    unfold Pt.dot at k2
    by_cases hx : -524288 ≤ n.x ∧ n.x ≤ 524288
    · by_cases hy : -524288 ≤ n.y ∧ n.y ≤ 524288
      · have := big n.z (fun hz => h9 ⟨hx, hy, hz⟩); omega
      · have := big n.y hy; omega
    · have := big n.x hx; omega

set_option maxHeartbeats 2000000 in
set_option maxRecDepth 100000 in
theorem nlong_any (p0 : Pt) (w0 : World) :
    Calls Try.prog 51 #[p0.v] w0 fun e W => e = .returned p0.lng.v ∧ Below w0.heap.size w0 W := by
  have HS : Hid _ := fun w' => short_any p0 w'
  have HX : Hid (∀ q : Pt, ∀ w', Calls Try.prog 28 #[q.v, .int .i64 524288] w' fun e W => e = .returned (.bool (q.inB 524288)) ∧ Below w'.heap.size w' W) := fun q w' => nwithin_any q 524288 w' (by decide) (by decide)
  have HP : Hid (∀ q : Pt, q.inB 524288 = true → ∀ w', Calls Try.prog 77 #[q.v, q.v] w' fun e W => e = .returned q.dbl.v ∧ Below w'.heap.size w' W) := fun q h w' => nplus_any q w' (inB_mono h (by decide))
  have HL : Hid (p0.lng = if p0.short = Pt.O then Pt.O else lngF 20 p0.short) := rfl
  have HI0 := short_in p0
  have bx0 : Hid (Box3 ((w0.alloc (.cells #[.int .i64 p0.x, .int .i64 p0.y, .int .i64 p0.z] 23)).alloc (.cells #[.int .i64 0, .int .i64 0, .int .i64 0] 23)) w0.heap.size p0) := (Box3.new w0 p0.x p0.y p0.z _).step (n_after _ _)
  have bx1 : Hid (Box3 ((w0.alloc (.cells #[.int .i64 p0.x, .int .i64 p0.y, .int .i64 p0.z] 23)).alloc (.cells #[.int .i64 0, .int .i64 0, .int .i64 0] 23)) (w0.heap.size + 1) Pt.O) := by have := Box3.new (w0.alloc (.cells #[.int .i64 p0.x, .int .i64 p0.y, .int .i64 p0.z] 23)) 0 0 0 23; rwa [World.size_alloc] at this
  have hB0 : Hid (Below w0.heap.size w0 ((w0.alloc (.cells #[.int .i64 p0.x, .int .i64 p0.y, .int .i64 p0.z] 23)).alloc (.cells #[.int .i64 0, .int .i64 0, .int .i64 0] 23))) := b_step (n_after w0 _) (n_after _ _)
  generalize p0.short = p at *
  generalize p0.lng = r at *
  obtain ⟨px, py, pz⟩ := p0
  obtain ⟨W0, hW0⟩ : ∃ W0, W0 = ((w0.alloc (.cells #[.int .i64 px, .int .i64 py, .int .i64 pz] 23)).alloc (.cells #[.int .i64 0, .int .i64 0, .int .i64 0] 23)) := ⟨_, rfl⟩
  dsimp only at bx0 bx1 hB0
  rw [← hW0] at bx0 bx1 hB0
  obtain ⟨c0, c1, c2, _, _, _⟩ := bx0.out
  unfold Pt.v at *
  dsimp only at *
  go_enter Try.func51, Try.ntmps51
  go_upto_region 1 with fail
  rw [← hW0]
  clear hW0
  go_wp2_with (fail)
  refine Calls.mono (HS.out _) ?_
  clear HS
  rintro e V ⟨rfl, hb⟩
  have bx0 : Hid (Box3 V w0.heap.size ⟨px, py, pz⟩) := bx0.out.step hb
  have bx2 : Hid (Box3 V (w0.heap.size + 1) Pt.O) := bx1.out.step hb
  have hB2 : Hid _ := b_step hB0.out hb
  clear hb c0 c1 c2 bx1 hB0
  obtain ⟨c0, c1, c2, f0, f1, f2⟩ := bx0.out
  dsimp only at c0 c1 c2
  obtain ⟨sx, sy, sz⟩ := p
  dsimp only at *
  go_upto_region 2 with fail
  have bx1 : Hid (Box3 (set3 V w0.heap.size sx sy sz) w0.heap.size ⟨sx, sy, sz⟩) := bx0.out.set _ _ _
  have bx2 : Hid (Box3 (set3 V w0.heap.size sx sy sz) (w0.heap.size + 1) Pt.O) := bx2.out.other (by omega) _ _ _
  have hB2 : Hid (Below w0.heap.size w0 (set3 V w0.heap.size sx sy sz)) := set3_below hB2.out (Nat.le_refl _) _ _ _
  unfold set3 at bx1 bx2 hB2
  generalize ((V.setCell ⟨w0.heap.size, 0, none⟩ (.int .i64 sx)).setCell ⟨w0.heap.size, 1, none⟩ (.int .i64 sy)).setCell ⟨w0.heap.size, 2, none⟩ (.int .i64 sz) = W1 at *
  clear c0 c1 c2 f0 f1 f2 bx0
  obtain ⟨c0, c1, c2, f0, f1, f2⟩ := bx1.out
  dsimp only at c0 c1 c2
  by_cases hz : (⟨sx, sy, sz⟩ : Pt) = Pt.O
  · have e9 : r = Pt.O := by rw [HL.out, if_pos hz]
    subst e9
    have e3 : sx = 0 ∧ sy = 0 ∧ sz = 0 := by simpa [Pt.O] using hz
    obtain ⟨rfl, rfl, rfl⟩ := e3
    clear HL hz
    obtain ⟨c3, c4, c5, f3, f4, f5⟩ := bx2.out
    simp only [Pt.O] at c3 c4 c5
    go_wp2_with (fail)
    refine bodyPost_ret (v := .agg #[.int .i64 0, .int .i64 0, .int .i64 0]) (by simp [results, Try.results51, go_sem, c3, c4, c5]) rfl ⟨rfl, ?_⟩
    exact set3_below hB2.out (by omega) 0 0 0
  · have HR : Hid (r = lngF 20 ⟨sx, sy, sz⟩) := by show _ = _; rw [HL.out, if_neg hz]
    have HB0 : Hid (Pt.far ⟨sx, sy, sz⟩ (20 - 20)) := far_zero hz
    have hz3 : sx = 0 → sy = 0 → ¬ sz = 0 := fun a b c => hz (by rw [a, b, c]; rfl)
    clear HL hz HI0
    go_cut [7] from 4 (fun s7 wx => s7 = .bool false ∧ wx = W1)
    case first =>
      go_wp2_with (fail)
      all_goals first
        | (exfalso; exact hz3 (by assumption) (by assumption) (by assumption))
        | (go_meet; case rel => exact ⟨rfl, rfl⟩)
    case rest =>
      obtain ⟨rfl, e9⟩ := hcut
      subst e9
      clear hz3 c0 c1 c2 f0 f1 f2
      go_wp2_with (fail)
      go_loopg [] 20 (fun g wr => ∃ q : Pt, Hid (Box3 wr w0.heap.size q) ∧ Hid (Box3 wr (w0.heap.size + 1) Pt.O) ∧ Hid (Below w0.heap.size w0 wr) ∧ g ≤ 20 ∧ Hid (lngF g q = lngF 20 ⟨sx, sy, sz⟩) ∧ Hid (q.far (20 - g)))
      case atStart => exact ⟨_, bx1, bx2, hB2, Nat.le_refl _, rfl, HB0⟩
      case round =>
        clear bx1 bx2 hB2 HB0
        obtain ⟨q, b0, b1, hB, hg, HF, HI⟩ := hrel
        have hG : Hid _ := hg
        clear hg
        obtain ⟨c0, c1, c2, f0, f1, f2⟩ := b0.out
        go_wp2_with (fail)
        refine Calls.mono (HX.out q _) ?_
        rintro e V3 ⟨rfl, hb⟩
        clear c0 c1 c2 f0 f1 f2
        have b0 : Hid _ := b0.out.step hb
        have b1 : Hid _ := b1.out.step hb
        have hB : Hid _ := b_step hB.out hb
        clear hb
        cases hq : q.inB 524288 with
        | true =>
          have h1g := far_lt hq HI.out
          obtain ⟨g', hg'⟩ : ∃ g', gk = g' + 1 := ⟨gk - 1, by omega⟩
          subst hg'
          have HJ1 : Hid _ := lngF_step (g := g') hq
          have HJ2 : Hid (q.dbl.far (20 - g')) := by have h5 := far_dbl HI.out; rwa [show 20 - (g' + 1) + 1 = 20 - g' by have := hG.out; omega] at h5
          have HP2 : Hid _ := HP.out q hq
          clear h1g
          obtain ⟨c0, c1, c2, f0, f1, f2⟩ := b0.out
          go_wp2_with (fail)
          refine Calls.mono (HP2.out _) ?_
          rintro e V4 ⟨rfl, hb⟩
          clear HP2
          have b9 : Hid (Box3 (set3 V4 w0.heap.size q.dbl.x q.dbl.y q.dbl.z) w0.heap.size q.dbl) := (b0.out.step hb).set _ _ _
          have b8 : Hid (Box3 (set3 V4 w0.heap.size q.dbl.x q.dbl.y q.dbl.z) (w0.heap.size + 1) Pt.O) := (b1.out.step hb).other (by omega) _ _ _
          have hB9 : Hid (Below w0.heap.size w0 (set3 V4 w0.heap.size q.dbl.x q.dbl.y q.dbl.z)) := set3_below (b_step hB.out hb) (Nat.le_refl _) _ _ _
          have d0 := c_after hb c0
          have d1 := c_after hb c1
          have d2 := c_after hb c2
          have f0 := f_after hb c0 f0
          have f1 := f_after hb c1 f1
          have f2 := f_after hb c2 f2
          unfold set3 at b9 b8 hB9
          clear hb c0 c1 c2 b0 b1 hB
          go_wp2_with (fail)
          go_roundg g'
          case rel => exact ⟨q.dbl, b9, b8, hB9, by have := hG.out; omega, by show _ = _; rw [← HJ1.out]; exact HF.out, HJ2⟩
          case measure => omega
        | false =>
          have e9 : r = q := by rw [HR.out, ← HF.out, lngF_stop hq]
          subst e9
          obtain ⟨c0, c1, c2, f0, f1, f2⟩ := b0.out
          obtain ⟨c3, c4, c5, f3, f4, f5⟩ := b1.out
          simp only [Pt.O] at c3 c4 c5
          go_wp2_with (fail)
          refine bodyPost_ret (v := .agg #[.int .i64 r.x, .int .i64 r.y, .int .i64 r.z]) (by simp [results, Try.results51, go_sem, c3, c4, c5]) rfl ⟨rfl, ?_⟩
          exact set3_below hB.out (by omega) r.x r.y r.z
end Go.Proofs.Ytfalniafkambmaa
