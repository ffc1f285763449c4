/- A range over a function, at the wide fence: the caller's law, what a round keeps, places in order. (RangeI, and the general part of PoolA, for a seat without a pool.) -/
import Derived.RangeFuncNested
import Derived.RangeFuncBound
import Derived.RangeFuncCalls
import Derived.RangeFuncLeaves
import Derived.RangeFuncBox
import Derived.Shelf.Abstract
import Derived.WalkKit
import Derived.OwnWalkIn
import Derived.TacticsInMore
import Derived.LoopNIn
import Derived.LoopIn
import Derived.LoopTactic
import Derived.ProofKit
import Derived.Handy
import Derived.Test.YtbbmjfaflcbimaaProg
namespace Go.Proofs.Ytbbmjfaflcbimaa
open Go.RowKit Go.Shelf
set_option linter.unusedVariables false

/-- What a round keeps: the cells that are there, of the blocks of S. -/
def Keep (S : Nat → Prop) (W W' : World) : Prop := ∀ (q : Addr) (v : Value), S q.block → W.cell? q = some v → W'.cell? q = some v
theorem Keep.refl (S : Nat → Prop) (W : World) : Keep S W W := fun _ _ _ h => h
theorem Keep.trans {S : Nat → Prop} {A B C : World} (h : Keep S A B) (k : Keep S B C) : Keep S A C := fun q v hq hc => k q v hq (h q v hq hc)
theorem Keep.mono {S S' : Nat → Prop} {A B : World} (h : Keep S A B) (hS : ∀ b, S' b → S b) : Keep S' A B := fun q v hq hc => h q v (hS _ hq) hc
theorem keep_b {S : Nat → Prop} {W : World} {l : Nat} {o : Obj} (o' : Obj) (h : W.heap[l]? = some o) (hc : o.isCells = false) : Keep S W (W.putObj l o') := fun q v hq hv => by
  have hne : q.block ≠ l := fun e => by
    rw [← e] at h
    unfold World.cell? at hv
    rw [h] at hv
    cases o <;> simp_all [Obj.isCells]
  exact (World.cell?_of_block (w := W) (World.putObj_heap_other hne)).trans hv
theorem keep_grown {S : Nat → Prop} {A B : World} {row : Option Nat} (hg : A.grownBy B row) (hr : ∀ r, row = some r → ¬ S r) : Keep S A B := fun q v hq hv =>
  hg.cell hv (fun e => hr _ e.symm hq)

/-- The first k places of so many. -/
def ups (len k : Nat) : List (Fin len) := (List.finRange len).take k
theorem ups_zero (len : Nat) : ups len 0 = [] := rfl
theorem ups_succ {len k : Nat} (h : k < len) : ups len (k + 1) = ups len k ++ [⟨k, h⟩] := by
  unfold ups
  rw [List.take_succ_eq_append_getElem (by simpa using h)]
  simp
theorem ups_length {len k : Nat} (h : k ≤ len) : (ups len k).length = k := by simp [ups, h]
theorem mem_ups {len k : Nat} (j : Fin len) (h : k ≤ len) : j ∈ ups len k ↔ j.val < k := by
  unfold ups
  constructor
  · intro hj
    obtain ⟨i, hi, e⟩ := List.mem_iff_getElem.1 hj
    simp only [List.length_take, List.length_finRange] at hi
    simp at e
    rw [← e]; simp; omega
  · intro hj
    apply List.mem_iff_getElem.2
    exact ⟨j.val, by simp; omega, by simp⟩


theorem box_own {A B : World} {b : Nat} {t : TypeId} {v : Value} {n : Nat} {row : Option Nat} (h : Boxed A b t v) (hg : A.grownBy B row) (hr : ∀ r, row = some r → n ≤ r ∧ ∃ o : Obj, A.heap[r]? = some o ∧ o.isCells = false) : Boxed B b t v :=
  h.kept hg (fun e => by obtain ⟨_, o, ho, hc⟩ := hr b e.symm; rw [show A.heap[b]? = _ from h] at ho; cases ho; cases hc)

/-- An iterator's contract, under the wide fence. -/
def Tells {α : Type} (n : Nat) (P : Program) (g : Nat) (lb : Array Value) (encs : α → Array Value) (Kp : World → World → Prop) (S Sp : List α → Prop) (N : Nat) (w : World) : Prop :=
  ∀ (l : Nat) (J Jx : List α → World → Prop) (W : World), Below w.heap.size w W → OwnFrom W.heap.size J → OwnFrom W.heap.size Jx →
    (∀ pre x V, J pre V → pre.length < N → YieldAt Fence.wide (n - 1) P l (encs x) V fun e V' =>
      (e = .returned (.bool true) ∧ J (pre ++ [x]) V' ∧ Kp V V' ∧ KeepsFrom (w.heap.size + 2) V V') ∨ (e = .returned (.bool false) ∧ Jx (pre ++ [x]) V' ∧ KeepsFrom (w.heap.size + 2) V V')) →
    J [] W → CallsIn Fence.wide n P g (#[.func (.yield l) #[] #[]] ++ lb) W fun e W' => (∃ v, e = .returned v) ∧ ((∃ xs, S xs ∧ J xs W') ∨ (∃ pre, Sp pre ∧ Jx pre W'))

/-- What the kit's contract says this one says. -/
theorem tells_of {α : Type} {n : Nat} {P : Program} {g : Nat} {lb : Array Value} {encs : α → Array Value} {Kp : World → World → Prop} {S Sp : List α → Prop} {N : Nat} {w : World}
    (h : SeqStopsK Fence.wide n P g lb encs Kp S Sp N w) : Tells n P g lb encs Kp S Sp N w := by
  intro l J Jx W hb hJ hJx hY h0
  have calm : ∀ {K : List α → World → Prop}, OwnFrom W.heap.size K → AbidesFrom W.heap.size K := fun hK s A B row hs hg hr =>
    hK s A B row hs hg fun r e => ⟨(hr r e).1, (hr r e).2.elim fun o ho => ⟨o, ho.1, Obj.not_cells_of_walk ho.2⟩⟩
  refine h l J Jx W hb (calm hJ) (calm hJx) (fun pre x V hj hl => (hY pre x V hj hl).mono ?_) h0
  rintro e V' (⟨a, b, c, _⟩ | ⟨a, b, _⟩)
  · exact Or.inl ⟨a, b, c⟩
  · exact Or.inr ⟨a, b⟩

theorem range_by {α : Type} {n : Nat} {P : Program} (h1 : 1 ≤ n) {g : Operand} {ps : Array Tmp} {assign body : Code} {Q : Exit → Act → World → Prop} {a : Act} {w : World} {gf : Nat} {lb : Array Value}
    (hg : a.eval g = .func (.func gf) #[] lb) (eg : ∀ args w, (callFunc gf args).run P w = .ok (.enter gf args) w)
    {encs : α → Array Value} {Kp : World → World → Prop} {S Sp : List α → Prop} {N : Nat} (hseq : Tells (n - 1) P gf lb encs Kp S Sp N w)
    (hKt : ∀ {A B C : World}, Kp A B → Kp B C → Kp A C) (hKb : ∀ (W : World) (l : Nat) (o o' : Obj), w.heap.size ≤ l → W.heap[l]? = some o → o.isCells = false → Kp W (W.putObj l o')) (hps : ∀ x, (encs x).size = ps.size)
    (I : List α → World → Prop) (Ix : Code → List α → World → Prop) (hI : OwnFrom w.heap.size I) (hIx : ∀ c, OwnFrom w.heap.size (Ix c)) (h0 : I [] w) (a₁ : α → Act)
    (hassign : ∀ (l : Nat) (x : α) (W : World) (K : Act → World → Prop), K (a₁ x) W →
      assign.wpIn (Fence.wide.inRound l) (n - 1 - 1) P (Exit.then K (fun _ _ _ => False)) { tmps := (ps.zip (encs x)).foldl (fun t (p, v) => t.setIfInBounds p v) a.tmps, defers := [] } W)
    (hbody : ∀ (l : Nat) (pre : List α) (x : α) (W : World), I pre W → pre.length < N → body.wpIn (Fence.wide.inRound l) (n - 1 - 1) P (ownPostG w.heap.size Kp I Ix (pre ++ [x]) W) (a₁ x) W)
    (hdone : ∀ (D : Nat) (xs : List α) (W : World), w.heap.size ≤ D → S xs → I xs W → W.heap[D]? = some (.deferred (some [])) → Q .normal { a with defers := { target := .collected D, args := #[] } :: a.defers } W)
    (hstop : ∀ (D : Nat) (c : Code) (pre : List α) (W : World), w.heap.size ≤ D → Sp pre → Ix c pre W → W.heap[D]? = some (.deferred (some [])) → c.wpIn Fence.wide n P Q { a with defers := { target := .collected D, args := #[] } :: a.defers } W) :
    (Code.rangeFunc g ps assign body).wpIn Fence.wide n P Q a w := by
  refine wpIn_rangeFunc fun fn hfn => ?_
  show ∃ _, _
  generalize hD : w.heap.size = D at *
  -- the record in its states; the world in which the iterator begins
  let R (st : LoopState) (pe : Option Code) : Loop := ⟨st, pe, fn, a.tmps, ps, assign, body, D⟩
  let V : World := (w.alloc (.deferred (some []))).alloc (.loop (R .ready none))
  have sV : V.heap.size = D + 2 := by simp [V, hD]
  have rV : V.heap[D + 1]? = some (.loop (R .ready none)) := by
    have := World.alloc_heap_new (w.alloc (.deferred (some []))) (.loop (R .ready none))
    rwa [World.size_alloc, hD] at this
  have dV : V.heap[D]? = some (.deferred (some [])) := by
    have := World.alloc_heap_new w (.deferred (some []))
    rw [hD] at this
    exact (Below.heap_alloc _ _ _ (by simp; omega)).trans this
  have iV : I [] V := hI.alloc _ (hI.alloc _ h0)
  have bV : Below w.heap.size w V := ((Below.refl _ w).alloc (Nat.le_refl _) _).alloc (by simp) _
  have keep : ∀ {X Y : World} {row : Option Nat} {k : Nat} {o : Obj}, X.grownBy Y row → (∀ r, row = some r → V.heap.size ≤ r ∧ ∃ o : Obj, X.heap[r]? = some o ∧ o.isCells = false) → k < D + 2 → X.heap[k]? = some o → Y.heap[k]? = some o := by
    intro X Y row k o hXY hr hk hX
    refine (hXY.block k (Array.getElem?_eq_some_iff.1 hX).1 fun e => ?_).trans hX
    have := (hr k e.symm).1
    omega
  have wide : ∀ {X : World} {row : Option Nat}, (∀ r, row = some r → V.heap.size ≤ r ∧ ∃ o : Obj, X.heap[r]? = some o ∧ o.isCells = false) → ∀ r, row = some r → D ≤ r ∧ ∃ o : Obj, X.heap[r]? = some o ∧ o.isCells = false :=
    fun hr r e => ⟨by have := (hr r e).1; omega, (hr r e).2⟩
  refine ⟨D + 1, [{ target := .collected D, args := #[] }], V, { target := .fn (.func gf) lb, args := #[.func (.yield (D + 1)) #[] #[]] }, V, gf, #[.func (.yield (D + 1)) #[] #[]] ++ lb, V, ?_, ?_, fun _ _ => trivial, ?_, fun _ => h1, ?_⟩
  · have := run_enterLoop_outer (P := P) (w := w) fn a.tmps ps assign body
    rw [hD] at this
    exact this
  · simp only [resolve, hg]
    simp [go_sem]
  · simp [invoke, go_sem, eg]
  refine (hseq (D + 1) (fun pre W => I pre W ∧ W.heap[D + 1]? = some (.loop (R .ready none)) ∧ W.heap[D]? = some (.deferred (some [])))
    (fun pre W => ∃ c, Ix c pre W ∧ W.heap[D + 1]? = some (.loop (R .done (some c))) ∧ W.heap[D]? = some (.deferred (some []))) V (hD ▸ bV)
    (fun s A B row hs hAB hr => ⟨hI s A B row hs.1 hAB (wide hr), keep hAB hr (by omega) hs.2.1, keep hAB hr (by omega) hs.2.2⟩)
    (fun s A B row ⟨c, hs⟩ hAB hr => ⟨c, hIx c s A B row hs.1 hAB (wide hr), keep hAB hr (by omega) hs.2.1, keep hAB hr (by omega) hs.2.2⟩) ?_ ⟨iV, rV, dV⟩).mono ?_
  · -- a round
    rintro pre x X ⟨iX, rX, dX⟩ hlen
    have ltX : D + 1 < X.heap.size := (Array.getElem?_eq_some_iff.1 rX).1
    refine ⟨fn, _, assign, body, run_yield (P := P) (args := encs x) rX (hps x), roundIn_of_wpIn hfn (hassign _ x X _ ⟨_, run_beginRound rX rfl, ?_⟩)⟩
    let Y : World := X.putObj (D + 1) (.loop { R .ready none with state := .busy })
    have rY : Y.heap[D + 1]? = some (.loop { R .ready none with state := .busy }) := World.putObj_heap_same ltX
    have dY : Y.heap[D]? = some (.deferred (some [])) := (World.putObj_heap_other (by omega)).trans dX
    have iY : I pre Y := hI.putObj _ iX (by omega) rX rfl
    refine wpIn_mono (hbody _ pre x Y iY hlen) ?_
    -- whatever way the body is left
    have far : ∀ (o : Obj) (Z : World), KeepsFrom D Y Z → KeepsFrom (D + 2) X (Z.putObj (D + 1) o) := fun o Z hZ =>
      ⟨by have := hZ.size; simpa [Y] using this, fun k o' hk hX ho => (World.putObj_heap_other (by omega)).trans (hZ.same k o' (by omega) ((World.putObj_heap_other (by omega)).trans hX) ho)⟩
    have ends : ∀ (jump : Option Code) (Z : World), KeepsFrom D Y Z → (Instr.endRound (D + 1) jump).run P Z = .ok (.bool jump.isNone) (Z.putObj (D + 1) (.loop (R (if jump.isNone then .ready else .done) jump))) ∧ Z.heap[D + 1]? = some (.loop { R .ready none with state := .busy }) ∧
        (Z.putObj (D + 1) (.loop (R (if jump.isNone then .ready else .done) jump))).heap[D + 1]? = some (.loop (R (if jump.isNone then .ready else .done) jump)) ∧ (Z.putObj (D + 1) (.loop (R (if jump.isNone then .ready else .done) jump))).heap[D]? = some (.deferred (some [])) := by
      intro jump Z hZ
      have rZ := hZ.same _ _ (by omega) rY rfl
      exact ⟨run_endRound (P := P) jump rZ, rZ, World.putObj_heap_same (Array.getElem?_eq_some_iff.1 rZ).1, (World.putObj_heap_other (by omega)).trans (hZ.same _ _ (Nat.le_refl _) dY rfl)⟩
    have left : ∀ (c : Code) (Z : World), KeepsFrom D Y Z → Ix c (pre ++ [x]) Z → ∃ v Z', (Instr.endRound (D + 1) (some c)).run P Z = .ok v Z' ∧ v = .bool false ∧ (∃ c, Ix c (pre ++ [x]) Z' ∧ Z'.heap[D + 1]? = some (.loop (R .done (some c))) ∧ Z'.heap[D]? = some (.deferred (some []))) ∧ KeepsFrom (D + 2) X Z' := by
      intro c Z hZ hx
      obtain ⟨e1, e2, e3, e4⟩ := ends (some c) Z hZ
      exact ⟨_, _, e1, rfl, ⟨c, (hIx c).putObj _ hx (by omega) e2 rfl, e3, e4⟩, far _ Z hZ⟩
    intro e a3 Z hp
    cases e with
    | normal =>
      obtain ⟨hZ, kZ, iZ⟩ := hp
      obtain ⟨e1, e2, e3, e4⟩ := ends none Z hZ
      exact ⟨_, _, e1, Or.inl ⟨rfl, ⟨hI.putObj _ iZ (by omega) e2 rfl, e3, e4⟩, hKt (hKt (hKb X (D + 1) _ _ (by omega) rX rfl) kZ) (hKb Z (D + 1) _ _ (by omega) e2 rfl), hD ▸ far _ Z hZ⟩⟩
    | ret => obtain ⟨v, Z', e1, e2, e3⟩ := left .ret Z hp.1 hp.2; exact ⟨v, Z', e1, Or.inr ⟨by rw [e2], e3.1, hD ▸ e3.2⟩⟩
    | exit id => obtain ⟨v, Z', e1, e2, e3⟩ := left (.exit id) Z hp.1 hp.2; exact ⟨v, Z', e1, Or.inr ⟨by rw [e2], e3.1, hD ▸ e3.2⟩⟩
    | goto t => obtain ⟨v, Z', e1, e2, e3⟩ := left (.goto t) Z hp.1 hp.2; exact ⟨v, Z', e1, Or.inr ⟨by rw [e2], e3.1, hD ▸ e3.2⟩⟩
    | panic ch => exact hp.elim
    | outgrown => exact hp.elim
  · rintro e X ⟨⟨v, rfl⟩, ⟨xs, hS, iX, rX, dX⟩ | ⟨pre, hSp, c, iX, rX, dX⟩⟩
    · exact ⟨none, _, run_endLoop (P := P) rX (by simp [R]), hdone D xs _ (Nat.le_refl _) hS (hI.putObj _ iX (by omega) rX rfl) ((World.putObj_heap_other (by omega)).trans dX)⟩
    · exact ⟨some c, _, run_endLoop (P := P) rX (by simp [R]), hstop D c pre _ (Nat.le_refl _) hSp ((hIx c).putObj _ iX (by omega) rX rfl) ((World.putObj_heap_other (by omega)).trans dX)⟩

/-- The same where the variable of a round is a box of its own. -/
theorem range_box {α : Type} {n : Nat} {P : Program} (h1 : 1 ≤ n) {g : Operand} {ps : Array Tmp} {assign body : Code} {Q : Exit → Act → World → Prop} {a : Act} {w : World} {gf : Nat} {lb : Array Value}
    (hg : a.eval g = .func (.func gf) #[] lb) (eg : ∀ args w, (callFunc gf args).run P w = .ok (.enter gf args) w)
    {encs : α → Array Value} {Kp : World → World → Prop} {S Sp : List α → Prop} {N : Nat} (hseq : Tells (n - 1) P gf lb encs Kp S Sp N w)
    (hKt : ∀ {A B C : World}, Kp A B → Kp B C → Kp A C) (hKb : ∀ (W : World) (l : Nat) (o o' : Obj), w.heap.size ≤ l → W.heap[l]? = some o → o.isCells = false → Kp W (W.putObj l o')) (hKa : ∀ (W : World) (o : Obj), Kp W (W.alloc o)) (hps : ∀ x, (encs x).size = ps.size)
    (I : List α → World → Prop) (Ix : Code → List α → World → Prop) (hI : OwnFrom w.heap.size I) (hIx : ∀ c, OwnFrom w.heap.size (Ix c)) (h0 : I [] w) (a₁ : α → Nat → Act) (ob : α → Obj)
    (hassign : ∀ (l : Nat) (x : α) (W : World) (K : Act → World → Prop), K (a₁ x W.heap.size) (W.alloc (ob x)) →
      assign.wpIn (Fence.wide.inRound l) (n - 1 - 1) P (Exit.then K (fun _ _ _ => False)) { tmps := (ps.zip (encs x)).foldl (fun t (p, v) => t.setIfInBounds p v) a.tmps, defers := [] } W)
    (hbody : ∀ (l : Nat) (pre : List α) (x : α) (W : World) (nb : Nat), I pre W → w.heap.size ≤ nb → W.heap[nb]? = some (ob x) → pre.length < N → body.wpIn (Fence.wide.inRound l) (n - 1 - 1) P (ownPostG w.heap.size Kp I Ix (pre ++ [x]) W) (a₁ x nb) W)
    (hdone : ∀ (D : Nat) (xs : List α) (W : World), w.heap.size ≤ D → S xs → I xs W → W.heap[D]? = some (.deferred (some [])) → Q .normal { a with defers := { target := .collected D, args := #[] } :: a.defers } W)
    (hstop : ∀ (D : Nat) (c : Code) (pre : List α) (W : World), w.heap.size ≤ D → Sp pre → Ix c pre W → W.heap[D]? = some (.deferred (some [])) → c.wpIn Fence.wide n P Q { a with defers := { target := .collected D, args := #[] } :: a.defers } W) :
    (Code.rangeFunc g ps assign body).wpIn Fence.wide n P Q a w := by
  refine wpIn_rangeFunc fun fn hfn => ?_
  show ∃ _, _
  generalize hD : w.heap.size = D at *
  -- the record in its states; the world in which the iterator begins
  let R (st : LoopState) (pe : Option Code) : Loop := ⟨st, pe, fn, a.tmps, ps, assign, body, D⟩
  let V : World := (w.alloc (.deferred (some []))).alloc (.loop (R .ready none))
  have sV : V.heap.size = D + 2 := by simp [V, hD]
  have rV : V.heap[D + 1]? = some (.loop (R .ready none)) := by
    have := World.alloc_heap_new (w.alloc (.deferred (some []))) (.loop (R .ready none))
    rwa [World.size_alloc, hD] at this
  have dV : V.heap[D]? = some (.deferred (some [])) := by
    have := World.alloc_heap_new w (.deferred (some []))
    rw [hD] at this
    exact (Below.heap_alloc _ _ _ (by simp; omega)).trans this
  have iV : I [] V := hI.alloc _ (hI.alloc _ h0)
  have bV : Below w.heap.size w V := ((Below.refl _ w).alloc (Nat.le_refl _) _).alloc (by simp) _
  have keep : ∀ {X Y : World} {row : Option Nat} {k : Nat} {o : Obj}, X.grownBy Y row → (∀ r, row = some r → V.heap.size ≤ r ∧ ∃ o : Obj, X.heap[r]? = some o ∧ o.isCells = false) → k < D + 2 → X.heap[k]? = some o → Y.heap[k]? = some o := by
    intro X Y row k o hXY hr hk hX
    refine (hXY.block k (Array.getElem?_eq_some_iff.1 hX).1 fun e => ?_).trans hX
    have := (hr k e.symm).1
    omega
  have wide : ∀ {X : World} {row : Option Nat}, (∀ r, row = some r → V.heap.size ≤ r ∧ ∃ o : Obj, X.heap[r]? = some o ∧ o.isCells = false) → ∀ r, row = some r → D ≤ r ∧ ∃ o : Obj, X.heap[r]? = some o ∧ o.isCells = false :=
    fun hr r e => ⟨by have := (hr r e).1; omega, (hr r e).2⟩
  refine ⟨D + 1, [{ target := .collected D, args := #[] }], V, { target := .fn (.func gf) lb, args := #[.func (.yield (D + 1)) #[] #[]] }, V, gf, #[.func (.yield (D + 1)) #[] #[]] ++ lb, V, ?_, ?_, fun _ _ => trivial, ?_, fun _ => h1, ?_⟩
  · have := run_enterLoop_outer (P := P) (w := w) fn a.tmps ps assign body
    rw [hD] at this
    exact this
  · simp only [resolve, hg]
    simp [go_sem]
  · simp [invoke, go_sem, eg]
  refine (hseq (D + 1) (fun pre W => I pre W ∧ W.heap[D + 1]? = some (.loop (R .ready none)) ∧ W.heap[D]? = some (.deferred (some [])))
    (fun pre W => ∃ c, Ix c pre W ∧ W.heap[D + 1]? = some (.loop (R .done (some c))) ∧ W.heap[D]? = some (.deferred (some []))) V (hD ▸ bV)
    (fun s A B row hs hAB hr => ⟨hI s A B row hs.1 hAB (wide hr), keep hAB hr (by omega) hs.2.1, keep hAB hr (by omega) hs.2.2⟩)
    (fun s A B row ⟨c, hs⟩ hAB hr => ⟨c, hIx c s A B row hs.1 hAB (wide hr), keep hAB hr (by omega) hs.2.1, keep hAB hr (by omega) hs.2.2⟩) ?_ ⟨iV, rV, dV⟩).mono ?_
  · -- a round
    rintro pre x X ⟨iX, rX, dX⟩ hlen
    have ltX : D + 1 < X.heap.size := (Array.getElem?_eq_some_iff.1 rX).1
    refine ⟨fn, _, assign, body, run_yield (P := P) (args := encs x) rX (hps x), roundIn_of_wpIn hfn (hassign _ x X _ ⟨_, run_beginRound ((Below.heap_alloc X (ob x) (D + 1) ltX).trans rX) rfl, ?_⟩)⟩
    have iX1 : I pre (X.alloc (ob x)) := hI.alloc _ iX
    have rX1 : (X.alloc (ob x)).heap[D + 1]? = some (.loop (R .ready none)) := (Below.heap_alloc X (ob x) (D + 1) ltX).trans rX
    have dX1 : (X.alloc (ob x)).heap[D]? = some (.deferred (some [])) := (Below.heap_alloc X (ob x) D (by omega)).trans dX
    have ltX1 : D + 1 < (X.alloc (ob x)).heap.size := by simp; omega
    let Y : World := (X.alloc (ob x)).putObj (D + 1) (.loop { R .ready none with state := .busy })
    have rY : Y.heap[D + 1]? = some (.loop { R .ready none with state := .busy }) := World.putObj_heap_same ltX1
    have dY : Y.heap[D]? = some (.deferred (some [])) := (World.putObj_heap_other (by omega)).trans dX1
    have iY : I pre Y := hI.putObj _ iX1 (by omega) rX1 rfl
    have oY : Y.heap[X.heap.size]? = some (ob x) := (World.putObj_heap_other (by omega)).trans (World.alloc_heap_new X (ob x))
    refine wpIn_mono (hbody _ pre x Y X.heap.size iY (by omega) oY hlen) ?_
    -- whatever way the body is left
    have far : ∀ (o : Obj) (Z : World), KeepsFrom D Y Z → KeepsFrom (D + 2) X (Z.putObj (D + 1) o) := fun o Z hZ =>
      ⟨by have h9 := hZ.size; simp [Y] at h9 ⊢; omega, fun k o' hk hX ho => (World.putObj_heap_other (by omega)).trans (hZ.same k o' (by omega) ((World.putObj_heap_other (by omega)).trans ((Below.heap_alloc X (ob x) k (Array.getElem?_eq_some_iff.1 hX).1).trans hX)) ho)⟩
    have ends : ∀ (jump : Option Code) (Z : World), KeepsFrom D Y Z → (Instr.endRound (D + 1) jump).run P Z = .ok (.bool jump.isNone) (Z.putObj (D + 1) (.loop (R (if jump.isNone then .ready else .done) jump))) ∧ Z.heap[D + 1]? = some (.loop { R .ready none with state := .busy }) ∧
        (Z.putObj (D + 1) (.loop (R (if jump.isNone then .ready else .done) jump))).heap[D + 1]? = some (.loop (R (if jump.isNone then .ready else .done) jump)) ∧ (Z.putObj (D + 1) (.loop (R (if jump.isNone then .ready else .done) jump))).heap[D]? = some (.deferred (some [])) := by
      intro jump Z hZ
      have rZ := hZ.same _ _ (by omega) rY rfl
      exact ⟨run_endRound (P := P) jump rZ, rZ, World.putObj_heap_same (Array.getElem?_eq_some_iff.1 rZ).1, (World.putObj_heap_other (by omega)).trans (hZ.same _ _ (Nat.le_refl _) dY rfl)⟩
    have left : ∀ (c : Code) (Z : World), KeepsFrom D Y Z → Ix c (pre ++ [x]) Z → ∃ v Z', (Instr.endRound (D + 1) (some c)).run P Z = .ok v Z' ∧ v = .bool false ∧ (∃ c, Ix c (pre ++ [x]) Z' ∧ Z'.heap[D + 1]? = some (.loop (R .done (some c))) ∧ Z'.heap[D]? = some (.deferred (some []))) ∧ KeepsFrom (D + 2) X Z' := by
      intro c Z hZ hx
      obtain ⟨e1, e2, e3, e4⟩ := ends (some c) Z hZ
      exact ⟨_, _, e1, rfl, ⟨c, (hIx c).putObj _ hx (by omega) e2 rfl, e3, e4⟩, far _ Z hZ⟩
    intro e a3 Z hp
    cases e with
    | normal =>
      obtain ⟨hZ, kZ, iZ⟩ := hp
      obtain ⟨e1, e2, e3, e4⟩ := ends none Z hZ
      exact ⟨_, _, e1, Or.inl ⟨rfl, ⟨hI.putObj _ iZ (by omega) e2 rfl, e3, e4⟩, hKt (hKt (hKt (hKa X (ob x)) (hKb _ (D + 1) _ _ (by omega) rX1 rfl)) kZ) (hKb Z (D + 1) _ _ (by omega) e2 rfl), hD ▸ far _ Z hZ⟩⟩
    | ret => obtain ⟨v, Z', e1, e2, e3⟩ := left .ret Z hp.1 hp.2; exact ⟨v, Z', e1, Or.inr ⟨by rw [e2], e3.1, hD ▸ e3.2⟩⟩
    | exit id => obtain ⟨v, Z', e1, e2, e3⟩ := left (.exit id) Z hp.1 hp.2; exact ⟨v, Z', e1, Or.inr ⟨by rw [e2], e3.1, hD ▸ e3.2⟩⟩
    | goto t => obtain ⟨v, Z', e1, e2, e3⟩ := left (.goto t) Z hp.1 hp.2; exact ⟨v, Z', e1, Or.inr ⟨by rw [e2], e3.1, hD ▸ e3.2⟩⟩
    | panic ch => exact hp.elim
    | outgrown => exact hp.elim
  · rintro e X ⟨⟨v, rfl⟩, ⟨xs, hS, iX, rX, dX⟩ | ⟨pre, hSp, c, iX, rX, dX⟩⟩
    · exact ⟨none, _, run_endLoop (P := P) rX (by simp [R]), hdone D xs _ (Nat.le_refl _) hS (hI.putObj _ iX (by omega) rX rfl) ((World.putObj_heap_other (by omega)).trans dX)⟩
    · exact ⟨some c, _, run_endLoop (P := P) rX (by simp [R]), hstop D c pre _ (Nat.le_refl _) hSp ((hIx c).putObj _ iX (by omega) rX rfl) ((World.putObj_heap_other (by omega)).trans dX)⟩


theorem KeepsFrom.up {A B : Nat} {X Y : World} (h : KeepsFrom A X Y) (hAB : A ≤ B) : KeepsFrom B X Y := ⟨h.size, fun k o hk hX ho => h.same k o (Nat.le_trans hAB hk) hX ho⟩
theorem keep_own {S : Nat → Prop} {W A B : World} {n : Nat} {row : Option Nat} (h : Keep S W A) (hg : A.grownBy B row) (hr : ∀ r, row = some r → n ≤ r ∧ ∃ o : Obj, A.heap[r]? = some o ∧ o.isCells = false) : Keep S W B := fun q v hq hv => by
  have hA := h q v hq hv
  refine hg.cell hA (fun e => ?_)
  obtain ⟨_, o, ho, hc⟩ := hr _ e.symm
  unfold World.cell? at hA
  rw [ho] at hA
  cases o <;> simp_all [Obj.isCells]
end Go.Proofs.Ytbbmjfaflcbimaa
