/- A range over a function that tells so many things, the k-th of them known by its number; what makes each thing may turn one block. -/
import Derived.RangeFuncNested
import Derived.RangeFuncBound
import Derived.RangeFuncCalls
import Derived.RangeFuncLeaves
import Derived.RangeFuncBox
import Derived.Shelf.Abstract
import Derived.WalkKit
import Derived.OwnWalkIn
import Derived.TacticsInMore
import Derived.LoopNIn
import Derived.LoopIn
import Derived.LoopTactic
import Derived.ProofKit
import Derived.Handy
import Derived.Test.YthcdpngkoejgpaaProg
namespace Go.Proofs.Ythcdpngkoejgpaa
open Go.RowKit Go.Shelf
set_option linter.unusedVariables false

/-- The blocks of S are as they were. -/
structure KeepO (S : Nat → Prop) (V V' : World) : Prop where
  size : V.heap.size ≤ V'.heap.size
  block : ∀ b, S b → b < V.heap.size → V'.heap[b]? = V.heap[b]?
theorem KeepO.refl (S : Nat → Prop) (V : World) : KeepO S V V := ⟨Nat.le_refl _, fun _ _ _ => rfl⟩
theorem KeepO.trans {S : Nat → Prop} {A B C : World} (h : KeepO S A B) (k : KeepO S B C) : KeepO S A C :=
  ⟨Nat.le_trans h.size k.size, fun b hb hl => (k.block b hb (Nat.lt_of_lt_of_le hl h.size)).trans (h.block b hb hl)⟩
theorem KeepO.mono {S T : Nat → Prop} {A B : World} (h : KeepO S A B) (hT : ∀ b, T b → S b) : KeepO T A B := ⟨h.size, fun b hb hl => h.block b (hT b hb) hl⟩
theorem KeepO.grown {S : Nat → Prop} {A B : World} {row : Option Nat} (hg : A.grownBy B row) (hr : ∀ b, S b → some b ≠ row) : KeepO S A B := ⟨hg.size, fun b hb hl => hg.block b hl (hr b hb)⟩
theorem KeepO.put {S : Nat → Prop} {W : World} {l : Nat} (o' : Obj) (hl : ¬ S l) : KeepO S W (W.putObj l o') :=
  ⟨by simp, fun b hb _ => World.putObj_heap_other (fun e => hl (e ▸ hb))⟩
theorem KeepO.alloc (S : Nat → Prop) (W : World) (o : Obj) : KeepO S W (W.alloc o) := KeepO.grown (World.grownBy_alloc W o none) (fun b _ e => by cases e)
theorem KeepO.below {S : Nat → Prop} {A B : World} {n : Nat} (h : Below n A B) (hS : ∀ b, S b → b < n) : KeepO S A B := ⟨h.size, fun b hb _ => h.block b (hS b hb)⟩
theorem KeepO.cell {S : Nat → Prop} {A B : World} (h : KeepO S A B) {q : Addr} {v : Value} (hq : S q.block) (hc : A.cell? q = some v) : B.cell? q = some v :=
  (World.cell?_of_block (w := A) (h.block _ hq (World.block_lt_of_cell? _ _ hc))).trans hc
theorem KeepO.frozen {S : Nat → Prop} {A B : World} (h : KeepO S A B) {q : Addr} {v : Value} (hq : S q.block) (hc : A.cell? q = some v) : B.frozen? q = A.frozen? q :=
  World.frozen?_of_block (w := A) (h.block _ hq (World.block_lt_of_cell? _ _ hc))

theorem gcell {A B : World} {row : Option Nat} {n b o : Nat} {v : Value} (hg : A.grownBy B row) (hr : ∀ r, row = some r → n ≤ r) (hb : b < n) (hc : A.cell? ⟨b, o, none⟩ = some v) : B.cell? ⟨b, o, none⟩ = some v :=
  hg.cell hc (fun e => by have := hr b e.symm; omega)
theorem gfrozen {A B : World} {row : Option Nat} {n b o : Nat} {v : Value} (hg : A.grownBy B row) (hr : ∀ r, row = some r → n ≤ r) (hb : b < n) (hc : A.cell? ⟨b, o, none⟩ = some v) : B.frozen? ⟨b, o, none⟩ = A.frozen? ⟨b, o, none⟩ :=
  World.frozen?_of_block (w := A) (hg.block b (World.block_lt_of_cell? _ _ hc) (fun e => by have := hr b e.symm; omega))
theorem gbelow {A B w : World} {row : Option Nat} {n : Nat} (h : Below w.heap.size w A) (hg : A.grownBy B row) (hr : ∀ r, row = some r → n ≤ r) (hn : w.heap.size ≤ n) : Below w.heap.size w B := h.grown hg h.size (fun k e => by have := hr k e; omega)
/-- An iterator's contract, under the wide fence: it tells N things, encs k the k-th; what makes them may turn the block row; St is the iterator's own state. -/
def TellsN (n : Nat) (P : Program) (g : Nat) (lb : Array Value) (encs : Nat → Array Value) (row : Option Nat) (S : Nat → Prop) (St : Nat → World → Prop) (N : Nat) (w : World) : Prop :=
  ∀ (l : Nat) (J Jx : Nat → World → Prop) (W : World), Below w.heap.size w W → OwnFrom W.heap.size J → OwnFrom W.heap.size Jx →
    (∀ k A B, J k A → A.grownBy B row → J k B) →
    (∀ k V, k < N → J k V → YieldAt Fence.wide (n - 1) P l (encs k) V fun e V' =>
      (e = .returned (.bool true) ∧ J (k + 1) V' ∧ KeepO S V V' ∧ KeepsFrom (w.heap.size + 2) V V') ∨ (e = .returned (.bool false) ∧ Jx (k + 1) V' ∧ KeepsFrom (w.heap.size + 2) V V')) →
    J 0 W → CallsIn Fence.wide n P g (#[.func (.yield l) #[] #[]] ++ lb) W fun e W' => (∃ v, e = .returned v) ∧ ((J N W' ∧ St N W') ∨ (∃ k, k < N ∧ Jx (k + 1) W'))

/-- What a round's body leaves. -/
def postN (B : Nat) (S : Nat → Prop) (I : Nat → World → Prop) (Ix : Code → Nat → World → Prop) (k : Nat) (W : World) : Exit → Act → World → Prop
  | .normal, _, W' => KeepsFrom B W W' ∧ KeepO S W W' ∧ I k W'
  | .ret, _, W' => KeepsFrom B W W' ∧ Ix .ret k W'
  | .exit id, _, W' => KeepsFrom B W W' ∧ Ix (.exit id) k W'
  | .goto t, _, W' => KeepsFrom B W W' ∧ Ix (.goto t) k W'
  | .panic _, _, _ => False
  | .outgrown, _, _ => False
/-- The world with a box more, if there is one. -/
def al (W : World) : Option Obj → World
  | none => W
  | some o => W.alloc o

/-- THE CALLER'S LAW. -/
theorem range_n {n : Nat} {P : Program} (h1 : 1 ≤ n) {g : Operand} {ps : Array Tmp} {assign body : Code} {Q : Exit → Act → World → Prop} {a : Act} {w : World} {gf : Nat} {lb : Array Value}
    (hg : a.eval g = .func (.func gf) #[] lb) (eg : ∀ args w, (callFunc gf args).run P w = .ok (.enter gf args) w)
    {encs : Nat → Array Value} {row : Option Nat} {S : Nat → Prop} {St : Nat → World → Prop} {N : Nat} (hseq : TellsN (n - 1) P gf lb encs row S St N w)
    (hS : ∀ b, S b → b < w.heap.size) (hrow : ∀ r, row = some r → r < w.heap.size) (hSt : OwnFrom w.heap.size St) (hps : ∀ k, (encs k).size = ps.size)
    (I : Nat → World → Prop) (Ix : Code → Nat → World → Prop) (hI : OwnFrom w.heap.size I) (hIx : ∀ c, OwnFrom w.heap.size (Ix c)) (hIr : ∀ k A B, I k A → A.grownBy B row → I k B) (h0 : I 0 w) (a₁ : Nat → Nat → Act) (ob : Nat → Option Obj)
    (hassign : ∀ (l k : Nat) (W : World) (nb : Nat) (K : Act → World → Prop), k < N → nb = W.heap.size → K (a₁ k nb) (al W (ob k)) →
      assign.wpIn (Fence.wide.inRound l) (n - 1 - 1) P (Exit.then K (fun _ _ _ => False)) { tmps := (ps.zip (encs k)).foldl (fun t (p, v) => t.setIfInBounds p v) a.tmps, defers := [] } W)
    (hbody : ∀ (l k : Nat) (W : World) (nb : Nat), k < N → I k W → w.heap.size ≤ nb → (∀ o, ob k = some o → W.heap[nb]? = some o) → body.wpIn (Fence.wide.inRound l) (n - 1 - 1) P (postN w.heap.size S I Ix (k + 1) W) (a₁ k nb) W)
    (hdone : ∀ (D : Nat) (W : World), w.heap.size ≤ D → I N W → St N W → W.heap[D]? = some (.deferred (some [])) → Q .normal { a with defers := { target := .collected D, args := #[] } :: a.defers } W)
    (hstop : ∀ (D : Nat) (c : Code) (k : Nat) (W : World), w.heap.size ≤ D → k < N → Ix c (k + 1) W → W.heap[D]? = some (.deferred (some [])) → c.wpIn Fence.wide n P Q { a with defers := { target := .collected D, args := #[] } :: a.defers } W) :
    (Code.rangeFunc g ps assign body).wpIn Fence.wide n P Q a w := by
  refine wpIn_rangeFunc fun fn hfn => ?_
  show ∃ _, _
  generalize hD : w.heap.size = D at *
  let R (st : LoopState) (pe : Option Code) : Loop := ⟨st, pe, fn, a.tmps, ps, assign, body, D⟩
  let V : World := (w.alloc (.deferred (some []))).alloc (.loop (R .ready none))
  have sV : V.heap.size = D + 2 := by simp [V, hD]
  have rV : V.heap[D + 1]? = some (.loop (R .ready none)) := by
    have := World.alloc_heap_new (w.alloc (.deferred (some []))) (.loop (R .ready none))
    rwa [World.size_alloc, hD] at this
  have dV : V.heap[D]? = some (.deferred (some [])) := by
    have := World.alloc_heap_new w (.deferred (some []))
    rw [hD] at this
    exact (Below.heap_alloc _ _ _ (by simp; omega)).trans this
  have iV : I 0 V := hI.alloc _ (hI.alloc _ h0)
  have bV : Below w.heap.size w V := ((Below.refl _ w).alloc (Nat.le_refl _) _).alloc (by simp) _
  have keep : ∀ {X Y : World} {row : Option Nat} {k : Nat} {o : Obj}, X.grownBy Y row → (∀ r, row = some r → V.heap.size ≤ r ∧ ∃ o : Obj, X.heap[r]? = some o ∧ o.isCells = false) → k < D + 2 → X.heap[k]? = some o → Y.heap[k]? = some o := by
    intro X Y row k o hXY hr hk hX
    refine (hXY.block k (Array.getElem?_eq_some_iff.1 hX).1 fun e => ?_).trans hX
    have := (hr k e.symm).1
    omega
  have turn : ∀ {X Y : World} {k : Nat} {o : Obj}, X.grownBy Y row → D ≤ k → X.heap[k]? = some o → Y.heap[k]? = some o := by
    intro X Y k o hXY hk hX
    refine (hXY.block k (Array.getElem?_eq_some_iff.1 hX).1 fun e => ?_).trans hX
    have := hrow k e.symm
    omega
  have wide : ∀ {X : World} {row : Option Nat}, (∀ r, row = some r → V.heap.size ≤ r ∧ ∃ o : Obj, X.heap[r]? = some o ∧ o.isCells = false) → ∀ r, row = some r → D ≤ r ∧ ∃ o : Obj, X.heap[r]? = some o ∧ o.isCells = false :=
    fun hr r e => ⟨by have := (hr r e).1; omega, (hr r e).2⟩
  have far0 : ∀ k, D ≤ k → ¬ S k := fun k hk hs => by have := hS k hs; omega
  refine ⟨D + 1, [{ target := .collected D, args := #[] }], V, { target := .fn (.func gf) lb, args := #[.func (.yield (D + 1)) #[] #[]] }, V, gf, #[.func (.yield (D + 1)) #[] #[]] ++ lb, V, ?_, ?_, fun _ _ => trivial, ?_, fun _ => h1, ?_⟩
  · have := run_enterLoop_outer (P := P) (w := w) fn a.tmps ps assign body
    rw [hD] at this
    exact this
  · simp only [resolve, hg]
    simp [go_sem]
  · simp [invoke, go_sem, eg]
  refine (hseq (D + 1) (fun k W => I k W ∧ W.heap[D + 1]? = some (.loop (R .ready none)) ∧ W.heap[D]? = some (.deferred (some [])))
    (fun k W => ∃ c, Ix c k W ∧ W.heap[D + 1]? = some (.loop (R .done (some c))) ∧ W.heap[D]? = some (.deferred (some []))) V (hD ▸ bV)
    (fun s A B row hs hAB hr => ⟨hI s A B row hs.1 hAB (wide hr), keep hAB hr (by omega) hs.2.1, keep hAB hr (by omega) hs.2.2⟩)
    (fun s A B row ⟨c, hs⟩ hAB hr => ⟨c, hIx c s A B row hs.1 hAB (wide hr), keep hAB hr (by omega) hs.2.1, keep hAB hr (by omega) hs.2.2⟩)
    (fun k A B hs hAB => ⟨hIr k A B hs.1 hAB, turn hAB (by omega) hs.2.1, turn hAB (by omega) hs.2.2⟩) ?_ ⟨iV, rV, dV⟩).mono ?_
  · -- a round
    rintro k X hk ⟨iX, rX, dX⟩
    have ltX : D + 1 < X.heap.size := (Array.getElem?_eq_some_iff.1 rX).1
    obtain ⟨X1, hX1⟩ : ∃ X1, X1 = al X (ob k) := ⟨_, rfl⟩
    have gX : X.grownBy X1 none := by
      rw [hX1]
      cases ob k with
      | none => exact ⟨rfl, rfl, rfl, Nat.le_refl _, fun _ _ _ => rfl⟩
      | some o => exact World.grownBy_alloc X o none
    have up : ∀ {j : Nat} {o : Obj}, X.heap[j]? = some o → X1.heap[j]? = some o := fun hX => (gX.block _ (Array.getElem?_eq_some_iff.1 hX).1 (fun e => by cases e)).trans hX
    have rX1 := up rX
    have dX1 := up dX
    have iX1 : I k X1 := hI k X X1 none iX gX (fun r e => by cases e)
    have ltX1 : D + 1 < X1.heap.size := (Array.getElem?_eq_some_iff.1 rX1).1
    have oX1 : ∀ o, ob k = some o → X1.heap[X.heap.size]? = some o := fun o e => by rw [hX1, e]; exact World.alloc_heap_new X o
    refine ⟨fn, _, assign, body, run_yield (P := P) (args := encs k) rX (hps k), roundIn_of_wpIn hfn (hassign _ k X _ _ hk rfl ?_)⟩
    rw [← hX1]
    refine ⟨_, run_beginRound rX1 rfl, ?_⟩
    let Y : World := X1.putObj (D + 1) (.loop { R .ready none with state := .busy })
    have rY : Y.heap[D + 1]? = some (.loop { R .ready none with state := .busy }) := World.putObj_heap_same ltX1
    have dY : Y.heap[D]? = some (.deferred (some [])) := (World.putObj_heap_other (by omega)).trans dX1
    have iY : I k Y := hI.putObj _ iX1 (by omega) rX1 rfl
    refine wpIn_mono (hbody _ k Y X.heap.size hk iY (by omega) (fun o e => (World.putObj_heap_other (by omega)).trans (oX1 o e))) ?_
    have far : ∀ (o : Obj) (Z : World), KeepsFrom D Y Z → KeepsFrom (D + 2) X (Z.putObj (D + 1) o) := fun o Z hZ =>
      ⟨by have h9 := hZ.size; have h8 := gX.size; simp [Y] at h9 ⊢; omega, fun j o' hj hX ho => (World.putObj_heap_other (by omega)).trans (hZ.same j o' (by omega) ((World.putObj_heap_other (by omega)).trans (up hX)) ho)⟩
    have ends : ∀ (jump : Option Code) (Z : World), KeepsFrom D Y Z → (Instr.endRound (D + 1) jump).run P Z = .ok (.bool jump.isNone) (Z.putObj (D + 1) (.loop (R (if jump.isNone then .ready else .done) jump))) ∧ Z.heap[D + 1]? = some (.loop { R .ready none with state := .busy }) ∧
        (Z.putObj (D + 1) (.loop (R (if jump.isNone then .ready else .done) jump))).heap[D + 1]? = some (.loop (R (if jump.isNone then .ready else .done) jump)) ∧ (Z.putObj (D + 1) (.loop (R (if jump.isNone then .ready else .done) jump))).heap[D]? = some (.deferred (some [])) := by
      intro jump Z hZ
      have rZ := hZ.same _ _ (by omega) rY rfl
      exact ⟨run_endRound (P := P) jump rZ, rZ, World.putObj_heap_same (Array.getElem?_eq_some_iff.1 rZ).1, (World.putObj_heap_other (by omega)).trans (hZ.same _ _ (Nat.le_refl _) dY rfl)⟩
    have left : ∀ (c : Code) (Z : World), KeepsFrom D Y Z → Ix c (k + 1) Z → ∃ v Z', (Instr.endRound (D + 1) (some c)).run P Z = .ok v Z' ∧ v = .bool false ∧ (∃ c, Ix c (k + 1) Z' ∧ Z'.heap[D + 1]? = some (.loop (R .done (some c))) ∧ Z'.heap[D]? = some (.deferred (some []))) ∧ KeepsFrom (D + 2) X Z' := by
      intro c Z hZ hx
      obtain ⟨e1, e2, e3, e4⟩ := ends (some c) Z hZ
      exact ⟨_, _, e1, rfl, ⟨c, (hIx c).putObj _ hx (by omega) e2 rfl, e3, e4⟩, far _ Z hZ⟩
    intro e a3 Z hp
    cases e with
    | normal =>
      obtain ⟨hZ, kZ, iZ⟩ := hp
      obtain ⟨e1, e2, e3, e4⟩ := ends none Z hZ
      have k0 : KeepO S X X1 := KeepO.grown gX (fun b _ e => by cases e)
      exact ⟨_, _, e1, Or.inl ⟨rfl, ⟨hI.putObj _ iZ (by omega) e2 rfl, e3, e4⟩, ((k0.trans (KeepO.put _ (far0 _ (by omega)))).trans kZ).trans (KeepO.put _ (far0 _ (by omega))), hD ▸ far _ Z hZ⟩⟩
    | ret => obtain ⟨v, Z', e1, e2, e3⟩ := left .ret Z hp.1 hp.2; exact ⟨v, Z', e1, Or.inr ⟨by rw [e2], e3.1, hD ▸ e3.2⟩⟩
    | exit id => obtain ⟨v, Z', e1, e2, e3⟩ := left (.exit id) Z hp.1 hp.2; exact ⟨v, Z', e1, Or.inr ⟨by rw [e2], e3.1, hD ▸ e3.2⟩⟩
    | goto t => obtain ⟨v, Z', e1, e2, e3⟩ := left (.goto t) Z hp.1 hp.2; exact ⟨v, Z', e1, Or.inr ⟨by rw [e2], e3.1, hD ▸ e3.2⟩⟩
    | panic ch => exact hp.elim
    | outgrown => exact hp.elim
  · rintro e X ⟨⟨v, rfl⟩, ⟨⟨iX, rX, dX⟩, hs⟩ | ⟨k, hk, c, iX, rX, dX⟩⟩
    · exact ⟨none, _, run_endLoop (P := P) rX (by simp [R]), hdone D _ (Nat.le_refl _) (hI.putObj _ iX (by omega) rX rfl) (hSt.putObj _ hs (by omega) rX rfl) ((World.putObj_heap_other (by omega)).trans dX)⟩
    · exact ⟨some c, _, run_endLoop (P := P) rX (by simp [R]), hstop D c k _ (Nat.le_refl _) hk ((hIx c).putObj _ iX (by omega) rX rfl) ((World.putObj_heap_other (by omega)).trans dX)⟩
end Go.Proofs.Ythcdpngkoejgpaa
