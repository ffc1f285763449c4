/- A range over a function that tells a list of points and is never told to stop; what goes through it keeps the cells of the blocks S. -/
import Derived.RangeFuncNested
import Derived.RangeFuncBound
import Derived.RangeFuncCalls
import Derived.RangeFuncLeaves
import Derived.RangeFuncBox
import Derived.Shelf.Abstract
import Derived.WalkKit
import Derived.OwnWalkIn
import Derived.TacticsInMore
import Derived.LoopNIn
import Derived.LoopIn
import Derived.LoopTactic
import Derived.ProofKit
import Derived.Handy
import Derived.Test.YtccdgpijjgeedaaKSMath
namespace Go.Proofs.Ytccdgpijjgeedaa
open Go.RowKit Go.Shelf
set_option linter.unusedVariables false

/-- The cells that are there of the blocks S are as they were. -/
structure KeepC (S : Nat → Prop) (V V' : World) : Prop where
  size : V.heap.size ≤ V'.heap.size
  cell : ∀ (q : Addr) (v : Value), S q.block → V.cell? q = some v → V'.cell? q = some v
theorem KeepC.refl (S : Nat → Prop) (V : World) : KeepC S V V := ⟨Nat.le_refl _, fun _ _ _ h => h⟩
theorem KeepC.trans {S : Nat → Prop} {A B C : World} (h : KeepC S A B) (k : KeepC S B C) : KeepC S A C := ⟨Nat.le_trans h.size k.size, fun q v hq hv => k.cell q v hq (h.cell q v hq hv)⟩
theorem KeepC.mono {S T : Nat → Prop} {A B : World} (h : KeepC S A B) (hT : ∀ b, T b → S b) : KeepC T A B := ⟨h.size, fun q v hq hv => h.cell q v (hT _ hq) hv⟩
theorem KeepC.below {S : Nat → Prop} {A B : World} (h : Below A.heap.size A B) : KeepC S A B := ⟨h.size, fun _ _ _ hv => c_after h hv⟩
theorem KeepC.grown {S : Nat → Prop} {A B : World} (h : A.grownBy B none) : KeepC S A B := ⟨h.size, fun q v _ hv => h.cell hv (fun e => by cases e)⟩
theorem KeepC.put {S : Nat → Prop} {W : World} {l : Nat} {o : Obj} (o' : Obj) (hl : W.heap[l]? = some o) (hc : o.isCells = false) : KeepC S W (W.putObj l o') :=
  ⟨by simp, fun q v _ hv => by
    have hne : q.block ≠ l := fun e => by
      unfold World.cell? at hv
      rw [e, hl] at hv
      cases o <;> simp_all [Obj.isCells]
    exact (World.cell?_of_block (w := W) (World.putObj_heap_other hne)).trans hv⟩
theorem Lies.keepC {S : Nat → Prop} {A B : World} {v : Value} {L : List Pt} (h : Lies A v L) (k : KeepC S A B) (hS : ∀ q n c, v = .slice (some q) n c → L ≠ [] → S q.block) : Lies B v L := by
  obtain ⟨o, cap, rfl, h1, h2, h3⟩ := h.form
  refine ⟨⟨o, cap, rfl, h1, h2, fun i hi => ?_⟩⟩
  obtain ⟨g, off, rfl, x0, x1, x2⟩ := h3 i hi
  have hs : S g := hS _ _ _ rfl (fun e => by rw [e] at hi; simp at hi)
  exact ⟨g, off, rfl, k.cell _ _ hs x0, k.cell _ _ hs x1, k.cell _ _ hs x2⟩
theorem own_step {n : Nat} {J : Nat → World → Prop} (hJ : OwnFrom n J) {k : Nat} {A B : World} (h : J k A) (hb : Below A.heap.size A B) : J k B :=
  hJ k A B none h (below_grown hb none) (fun r e => by cases e)

/-- An iterator's contract, under the wide fence: it tells the points of T, one after the other, to somebody who never stops it. -/
def TellsT (n : Nat) (P : Program) (g : Nat) (lb : Array Value) (T : List Pt) (S : Nat → Prop) (w : World) : Prop :=
  ∀ (l : Nat) (J : Nat → World → Prop) (W : World), Below w.heap.size w W → OwnFrom W.heap.size J →
    (∀ k V, k < T.length → J k V → YieldAt Fence.wide (n - 1) P l #[(pt T k).v] V fun e V' => e = .returned (.bool true) ∧ J (k + 1) V' ∧ KeepC S V V' ∧ KeepsFrom (w.heap.size + 2) V V') →
    J 0 W → CallsIn Fence.wide n P g (#[.func (.yield l) #[] #[]] ++ lb) W fun e W' => (∃ v, e = .returned v) ∧ J T.length W'

/-- What a round's body leaves. -/
def postT (B : Nat) (S : Nat → Prop) (I : Nat → World → Prop) (k : Nat) (W : World) : Exit → Act → World → Prop
  | .normal, _, W' => KeepsFrom B W W' ∧ KeepC S W W' ∧ I k W'
  | _, _, _ => False

/-- THE CALLER'S LAW. -/
theorem range_t {n : Nat} {P : Program} (h1 : 1 ≤ n) {g : Operand} {ps : Array Tmp} {assign body : Code} {Q : Exit → Act → World → Prop} {a : Act} {w : World} {gf : Nat} {lb : Array Value}
    (hg : a.eval g = .func (.func gf) #[] lb) (eg : ∀ args w, (callFunc gf args).run P w = .ok (.enter gf args) w)
    {T : List Pt} {S : Nat → Prop} (hseq : TellsT (n - 1) P gf lb T S w) (hps : ps.size = 1)
    (I : Nat → World → Prop) (hI : OwnFrom w.heap.size I) (h0 : I 0 w) (a₁ : Nat → Nat → Act) (tp : TypeId)
    (hassign : ∀ (l k : Nat) (W : World) (nb : Nat) (K : Act → World → Prop), k < T.length → nb = W.heap.size → K (a₁ k nb) (W.alloc (.cells #[.int .i64 (pt T k).x, .int .i64 (pt T k).y, .int .i64 (pt T k).z] tp)) →
      assign.wpIn (Fence.wide.inRound l) (n - 1 - 1) P (Exit.then K (fun _ _ _ => False)) { tmps := (ps.zip #[(pt T k).v]).foldl (fun t (p, v) => t.setIfInBounds p v) a.tmps, defers := [] } W)
    (hbody : ∀ (l k : Nat) (W : World) (nb : Nat), k < T.length → (∀ Z : World, W.grownBy Z (some nb) → I k Z) → w.heap.size ≤ nb → W.heap[nb]? = some (.cells #[.int .i64 (pt T k).x, .int .i64 (pt T k).y, .int .i64 (pt T k).z] tp) → body.wpIn (Fence.wide.inRound l) (n - 1 - 1) P (postT w.heap.size (fun b => S b ∧ b ≠ nb) I (k + 1) W) (a₁ k nb) W)
    (hdone : ∀ (D : Nat) (W : World), w.heap.size ≤ D → I T.length W → W.heap[D]? = some (.deferred (some [])) → Q .normal { a with defers := { target := .collected D, args := #[] } :: a.defers } W) :
    (Code.rangeFunc g ps assign body).wpIn Fence.wide n P Q a w := by
  refine wpIn_rangeFunc fun fn hfn => ?_
  show ∃ _, _
  generalize hD : w.heap.size = D at *
  let R (st : LoopState) (pe : Option Code) : Loop := ⟨st, pe, fn, a.tmps, ps, assign, body, D⟩
  let V : World := (w.alloc (.deferred (some []))).alloc (.loop (R .ready none))
  have sV : V.heap.size = D + 2 := by simp [V, hD]
  have rV : V.heap[D + 1]? = some (.loop (R .ready none)) := by
    have := World.alloc_heap_new (w.alloc (.deferred (some []))) (.loop (R .ready none))
    rwa [World.size_alloc, hD] at this
  have dV : V.heap[D]? = some (.deferred (some [])) := by
    have := World.alloc_heap_new w (.deferred (some []))
    rw [hD] at this
    exact (Below.heap_alloc _ _ _ (by simp; omega)).trans this
  have iV : I 0 V := hI.alloc _ (hI.alloc _ h0)
  have bV : Below w.heap.size w V := ((Below.refl _ w).alloc (Nat.le_refl _) _).alloc (by simp) _
  have keep : ∀ {X Y : World} {row : Option Nat} {k : Nat} {o : Obj}, X.grownBy Y row → (∀ r, row = some r → V.heap.size ≤ r ∧ ∃ o : Obj, X.heap[r]? = some o ∧ o.isCells = false) → k < D + 2 → X.heap[k]? = some o → Y.heap[k]? = some o := by
    intro X Y row k o hXY hr hk hX
    refine (hXY.block k (Array.getElem?_eq_some_iff.1 hX).1 fun e => ?_).trans hX
    have := (hr k e.symm).1
    omega
  have wide : ∀ {X : World} {row : Option Nat}, (∀ r, row = some r → V.heap.size ≤ r ∧ ∃ o : Obj, X.heap[r]? = some o ∧ o.isCells = false) → ∀ r, row = some r → D ≤ r ∧ ∃ o : Obj, X.heap[r]? = some o ∧ o.isCells = false :=
    fun hr r e => ⟨by have := (hr r e).1; omega, (hr r e).2⟩
  refine ⟨D + 1, [{ target := .collected D, args := #[] }], V, { target := .fn (.func gf) lb, args := #[.func (.yield (D + 1)) #[] #[]] }, V, gf, #[.func (.yield (D + 1)) #[] #[]] ++ lb, V, ?_, ?_, fun _ _ => trivial, ?_, fun _ => h1, ?_⟩
  · have := run_enterLoop_outer (P := P) (w := w) fn a.tmps ps assign body
    rw [hD] at this
    exact this
  · simp only [resolve, hg]
    simp [go_sem]
  · simp [invoke, go_sem, eg]
  refine (hseq (D + 1) (fun k W => I k W ∧ W.heap[D + 1]? = some (.loop (R .ready none)) ∧ W.heap[D]? = some (.deferred (some []))) V (hD ▸ bV)
    (fun s A B row hs hAB hr => ⟨hI s A B row hs.1 hAB (wide hr), keep hAB hr (by omega) hs.2.1, keep hAB hr (by omega) hs.2.2⟩) ?_ ⟨iV, rV, dV⟩).mono ?_
  · -- a round
    rintro k X hk ⟨iX, rX, dX⟩
    have ltX : D + 1 < X.heap.size := (Array.getElem?_eq_some_iff.1 rX).1
    obtain ⟨X1, hX1⟩ : ∃ X1, X1 = X.alloc (.cells #[.int .i64 (pt T k).x, .int .i64 (pt T k).y, .int .i64 (pt T k).z] tp) := ⟨_, rfl⟩
    have gX : X.grownBy X1 none := by rw [hX1]; exact World.grownBy_alloc X _ none
    have up : ∀ {j : Nat} {o : Obj}, X.heap[j]? = some o → X1.heap[j]? = some o := fun hX => (gX.block _ (Array.getElem?_eq_some_iff.1 hX).1 (fun e => by cases e)).trans hX
    have rX1 := up rX
    have dX1 := up dX
    have iX1 : I k X1 := hI k X X1 none iX gX (fun r e => by cases e)
    have ltX1 : D + 1 < X1.heap.size := (Array.getElem?_eq_some_iff.1 rX1).1
    have oX1 : X1.heap[X.heap.size]? = some (.cells #[.int .i64 (pt T k).x, .int .i64 (pt T k).y, .int .i64 (pt T k).z] tp) := by rw [hX1]; exact World.alloc_heap_new X _
    refine ⟨fn, _, assign, body, run_yield (P := P) (args := #[(pt T k).v]) rX (by simp [R, hps]), roundIn_of_wpIn hfn (hassign _ k X _ _ hk rfl ?_)⟩
    rw [← hX1]
    refine ⟨_, run_beginRound rX1 rfl, ?_⟩
    let Y : World := X1.putObj (D + 1) (.loop { R .ready none with state := .busy })
    have rY : Y.heap[D + 1]? = some (.loop { R .ready none with state := .busy }) := World.putObj_heap_same ltX1
    have dY : Y.heap[D]? = some (.deferred (some [])) := (World.putObj_heap_other (by omega)).trans dX1
    have gY : X1.grownBy Y (some (D + 1)) := grownBy_putObj' X1 (D + 1) _
    have iZ0 : ∀ Z : World, Y.grownBy Z (some X.heap.size) → I k Z := fun Z hZ => by
      refine hI k X Z (some (D + 1)) iX ⟨hZ.os.trans (gY.os.trans gX.os), hZ.tape.trans (gY.tape.trans gX.tape), hZ.output.trans (gY.output.trans gX.output), Nat.le_trans gX.size (Nat.le_trans gY.size hZ.size), fun j hj hn => ?_⟩ (fun r e => by cases e; exact ⟨by omega, _, rX, rfl⟩)
      have hs1 := gX.size
      have hs2 := gY.size
      exact (hZ.block j (by omega) (fun e => by cases e; omega)).trans ((gY.block j (by omega) hn).trans (gX.block j hj (fun e => by cases e)))
    refine wpIn_mono (hbody _ k Y X.heap.size hk iZ0 (by omega) ((World.putObj_heap_other (by omega)).trans oX1)) ?_
    have far : ∀ (o : Obj) (Z : World), KeepsFrom D Y Z → KeepsFrom (D + 2) X (Z.putObj (D + 1) o) := fun o Z hZ =>
      ⟨by have h9 := hZ.size; have h8 := gX.size; simp [Y] at h9 ⊢; omega, fun j o' hj hX ho => (World.putObj_heap_other (by omega)).trans (hZ.same j o' (by omega) ((World.putObj_heap_other (by omega)).trans (up hX)) ho)⟩
    have ends : ∀ (jump : Option Code) (Z : World), KeepsFrom D Y Z → (Instr.endRound (D + 1) jump).run P Z = .ok (.bool jump.isNone) (Z.putObj (D + 1) (.loop (R (if jump.isNone then .ready else .done) jump))) ∧ Z.heap[D + 1]? = some (.loop { R .ready none with state := .busy }) ∧
        (Z.putObj (D + 1) (.loop (R (if jump.isNone then .ready else .done) jump))).heap[D + 1]? = some (.loop (R (if jump.isNone then .ready else .done) jump)) ∧ (Z.putObj (D + 1) (.loop (R (if jump.isNone then .ready else .done) jump))).heap[D]? = some (.deferred (some [])) := by
      intro jump Z hZ
      have rZ := hZ.same _ _ (by omega) rY rfl
      exact ⟨run_endRound (P := P) jump rZ, rZ, World.putObj_heap_same (Array.getElem?_eq_some_iff.1 rZ).1, (World.putObj_heap_other (by omega)).trans (hZ.same _ _ (Nat.le_refl _) dY rfl)⟩
    intro e a3 Z hp
    cases e with
    | normal =>
      obtain ⟨hZ, kZ, iZ⟩ := hp
      obtain ⟨e1, e2, e3, e4⟩ := ends none Z hZ
      exact ⟨_, _, e1, rfl, ⟨hI.putObj _ iZ (by omega) e2 rfl, e3, e4⟩, (⟨Nat.le_trans gX.size (Nat.le_trans gY.size kZ.size), fun q v hq hv => kZ.cell q v ⟨hq, fun e => by have := World.block_lt_of_cell? _ _ hv; omega⟩ (((KeepC.grown (S := S) gX).trans (KeepC.put _ rX1 rfl)).cell q v hq hv)⟩ : KeepC S X Z).trans (KeepC.put _ e2 rfl), hD ▸ far _ Z hZ⟩
    | ret => exact hp.elim
    | exit id => exact hp.elim
    | goto t => exact hp.elim
    | panic ch => exact hp.elim
    | outgrown => exact hp.elim
  · rintro e X ⟨⟨v, rfl⟩, iX, rX, dX⟩
    exact ⟨none, _, run_endLoop (P := P) rX (by simp [R]), hdone D _ (Nat.le_refl _) (hI.putObj _ iX (by omega) rX rfl) ((World.putObj_heap_other (by omega)).trans dX)⟩
end Go.Proofs.Ytccdgpijjgeedaa
