/- A range over a function that tells so many things, the k-th of them known by its number; what makes each thing may turn one block. -/
import Derived.RangeFuncNested
import Derived.RangeFuncBound
import Derived.RangeFuncCalls
import Derived.RangeFuncLeaves
import Derived.RangeFuncBox
import Derived.Shelf.Abstract
import Derived.WalkKit
import Derived.OwnWalkIn
import Derived.TacticsInMore
import Derived.LoopNIn
import Derived.LoopIn
import Derived.LoopTactic
import Derived.ProofKit
import Derived.Handy
import Derived.Test.YtompnibhfdkkjaaGreatProg
import Derived.RowKit
import Derived.Orders
import Derived.Below
import Derived.Laws.Rows
namespace Go.Proofs.YtompnibhfdkkjaaGreat
open Go.RowKit Go.Shelf
set_option linter.unusedVariables false

/-- The blocks of S are as they were. -/
structure KeepO (S : Nat → Prop) (V V' : World) : Prop where
  size : V.heap.size ≤ V'.heap.size
  block : ∀ b, S b → b < V.heap.size → V'.heap[b]? = V.heap[b]?
theorem KeepO.refl (S : Nat → Prop) (V : World) : KeepO S V V := ⟨Nat.le_refl _, fun _ _ _ => rfl⟩
theorem KeepO.trans {S : Nat → Prop} {A B C : World} (h : KeepO S A B) (k : KeepO S B C) : KeepO S A C :=
  ⟨Nat.le_trans h.size k.size, fun b hb hl => (k.block b hb (Nat.lt_of_lt_of_le hl h.size)).trans (h.block b hb hl)⟩
theorem KeepO.mono {S T : Nat → Prop} {A B : World} (h : KeepO S A B) (hT : ∀ b, T b → S b) : KeepO T A B := ⟨h.size, fun b hb hl => h.block b (hT b hb) hl⟩
theorem KeepO.grown {S : Nat → Prop} {A B : World} {row : Option Nat} (hg : A.grownBy B row) (hr : ∀ b, S b → some b ≠ row) : KeepO S A B := ⟨hg.size, fun b hb hl => hg.block b hl (hr b hb)⟩
theorem KeepO.put {S : Nat → Prop} {W : World} {l : Nat} (o' : Obj) (hl : ¬ S l) : KeepO S W (W.putObj l o') :=
  ⟨by simp, fun b hb _ => World.putObj_heap_other (fun e => hl (e ▸ hb))⟩
theorem KeepO.alloc (S : Nat → Prop) (W : World) (o : Obj) : KeepO S W (W.alloc o) := KeepO.grown (World.grownBy_alloc W o none) (fun b _ e => by cases e)
theorem KeepO.cell {S : Nat → Prop} {A B : World} (h : KeepO S A B) {q : Addr} {v : Value} (hq : S q.block) (hc : A.cell? q = some v) : B.cell? q = some v :=
  (World.cell?_of_block (w := A) (h.block _ hq (World.block_lt_of_cell? _ _ hc))).trans hc
theorem KeepO.frozen {S : Nat → Prop} {A B : World} (h : KeepO S A B) {q : Addr} {v : Value} (hq : S q.block) (hc : A.cell? q = some v) : B.frozen? q = A.frozen? q :=
  World.frozen?_of_block (w := A) (h.block _ hq (World.block_lt_of_cell? _ _ hc))

theorem gcell {A B : World} {row : Option Nat} {n b o : Nat} {v : Value} (hg : A.grownBy B row) (hr : ∀ r, row = some r → n ≤ r) (hb : b < n) (hc : A.cell? ⟨b, o, none⟩ = some v) : B.cell? ⟨b, o, none⟩ = some v :=
  hg.cell hc (fun e => by have := hr b e.symm; omega)
theorem gfrozen {A B : World} {row : Option Nat} {n b o : Nat} {v : Value} (hg : A.grownBy B row) (hr : ∀ r, row = some r → n ≤ r) (hb : b < n) (hc : A.cell? ⟨b, o, none⟩ = some v) : B.frozen? ⟨b, o, none⟩ = A.frozen? ⟨b, o, none⟩ :=
  World.frozen?_of_block (w := A) (hg.block b (World.block_lt_of_cell? _ _ hc) (fun e => by have := hr b e.symm; omega))
theorem gbelow {A B w : World} {row : Option Nat} {n : Nat} (h : Below w.heap.size w A) (hg : A.grownBy B row) (hr : ∀ r, row = some r → n ≤ r) (hn : w.heap.size ≤ n) : Below w.heap.size w B := h.grown hg h.size (fun k e => by have := hr k e; omega)
/-- An iterator's contract, under the wide fence: it tells N things, encs k the k-th; what makes them may turn the block row; St is the iterator's own state. -/
def TellsN (n : Nat) (P : Program) (g : Nat) (lb : Array Value) (encs : Nat → Array Value) (row : Option Nat) (S : Nat → Prop) (St : Nat → World → Prop) (N : Nat) (w : World) : Prop :=
  ∀ (l : Nat) (J Jx : Nat → World → Prop) (W : World), Below w.heap.size w W → OwnFrom W.heap.size J → OwnFrom W.heap.size Jx →
    (∀ k A B, J k A → A.grownBy B row → J k B) →
    (∀ k V, k < N → J k V → YieldAt Fence.wide (n - 1) P l (encs k) V fun e V' =>
      (e = .returned (.bool true) ∧ J (k + 1) V' ∧ KeepO S V V' ∧ KeepsFrom (w.heap.size + 2) V V') ∨ (e = .returned (.bool false) ∧ Jx (k + 1) V' ∧ KeepsFrom (w.heap.size + 2) V V')) →
    J 0 W → CallsIn Fence.wide n P g (#[.func (.yield l) #[] #[]] ++ lb) W fun e W' => (∃ v, e = .returned v) ∧ ((J N W' ∧ St N W') ∨ (∃ k, k < N ∧ Jx (k + 1) W'))

/-- What a round's body leaves. -/
def postN (B : Nat) (S : Nat → Prop) (I : Nat → World → Prop) (Ix : Code → Nat → World → Prop) (k : Nat) (W : World) : Exit → Act → World → Prop
  | .normal, _, W' => KeepsFrom B W W' ∧ KeepO S W W' ∧ I k W'
  | .ret, _, W' => KeepsFrom B W W' ∧ Ix .ret k W'
  | .exit id, _, W' => KeepsFrom B W W' ∧ Ix (.exit id) k W'
  | .goto t, _, W' => KeepsFrom B W W' ∧ Ix (.goto t) k W'
  | .panic _, _, _ => False
  | .outgrown, _, _ => False
/-- The world with a box more, if there is one. -/
def al (W : World) : Option Obj → World
  | none => W
  | some o => W.alloc o

/-- THE CALLER'S LAW. -/
theorem range_n {n : Nat} {P : Program} (h1 : 1 ≤ n) {g : Operand} {ps : Array Tmp} {assign body : Code} {Q : Exit → Act → World → Prop} {a : Act} {w : World} {gf : Nat} {lb : Array Value}
    (hg : a.eval g = .func (.func gf) #[] lb) (eg : ∀ args w, (callFunc gf args).run P w = .ok (.enter gf args) w)
    {encs : Nat → Array Value} {row : Option Nat} {S : Nat → Prop} {St : Nat → World → Prop} {N : Nat} (hseq : TellsN (n - 1) P gf lb encs row S St N w)
    (hS : ∀ b, S b → b < w.heap.size) (hrow : ∀ r, row = some r → r < w.heap.size) (hSt : OwnFrom w.heap.size St) (hps : ∀ k, (encs k).size = ps.size)
    (I : Nat → World → Prop) (Ix : Code → Nat → World → Prop) (hI : OwnFrom w.heap.size I) (hIx : ∀ c, OwnFrom w.heap.size (Ix c)) (hIr : ∀ k A B, I k A → A.grownBy B row → I k B) (h0 : I 0 w) (a₁ : Nat → Nat → Act) (ob : Nat → Option Obj)
    (hassign : ∀ (l k : Nat) (W : World) (nb : Nat) (K : Act → World → Prop), k < N → nb = W.heap.size → K (a₁ k nb) (al W (ob k)) →
      assign.wpIn (Fence.wide.inRound l) (n - 1 - 1) P (Exit.then K (fun _ _ _ => False)) { tmps := (ps.zip (encs k)).foldl (fun t (p, v) => t.setIfInBounds p v) a.tmps, defers := [] } W)
    (hbody : ∀ (l k : Nat) (W : World) (nb : Nat), k < N → I k W → w.heap.size ≤ nb → (∀ o, ob k = some o → W.heap[nb]? = some o) → body.wpIn (Fence.wide.inRound l) (n - 1 - 1) P (postN w.heap.size S I Ix (k + 1) W) (a₁ k nb) W)
    (hdone : ∀ (D : Nat) (W : World), w.heap.size ≤ D → I N W → St N W → W.heap[D]? = some (.deferred (some [])) → Q .normal { a with defers := { target := .collected D, args := #[] } :: a.defers } W)
    (hstop : ∀ (D : Nat) (c : Code) (k : Nat) (W : World), w.heap.size ≤ D → k < N → Ix c (k + 1) W → W.heap[D]? = some (.deferred (some [])) → c.wpIn Fence.wide n P Q { a with defers := { target := .collected D, args := #[] } :: a.defers } W) :
    (Code.rangeFunc g ps assign body).wpIn Fence.wide n P Q a w := by
  refine wpIn_rangeFunc fun fn hfn => ?_
  show ∃ _, _
  generalize hD : w.heap.size = D at *
  let R (st : LoopState) (pe : Option Code) : Loop := ⟨st, pe, fn, a.tmps, ps, assign, body, D⟩
  let V : World := (w.alloc (.deferred (some []))).alloc (.loop (R .ready none))
  have sV : V.heap.size = D + 2 := by simp [V, hD]
  have rV : V.heap[D + 1]? = some (.loop (R .ready none)) := by
    have := World.alloc_heap_new (w.alloc (.deferred (some []))) (.loop (R .ready none))
    rwa [World.size_alloc, hD] at this
  have dV : V.heap[D]? = some (.deferred (some [])) := by
    have := World.alloc_heap_new w (.deferred (some []))
    rw [hD] at this
    exact (Below.heap_alloc _ _ _ (by simp; omega)).trans this
  have iV : I 0 V := hI.alloc _ (hI.alloc _ h0)
  have bV : Below w.heap.size w V := ((Below.refl _ w).alloc (Nat.le_refl _) _).alloc (by simp) _
  have keep : ∀ {X Y : World} {row : Option Nat} {k : Nat} {o : Obj}, X.grownBy Y row → (∀ r, row = some r → V.heap.size ≤ r ∧ ∃ o : Obj, X.heap[r]? = some o ∧ o.isCells = false) → k < D + 2 → X.heap[k]? = some o → Y.heap[k]? = some o := by
    intro X Y row k o hXY hr hk hX
    refine (hXY.block k (Array.getElem?_eq_some_iff.1 hX).1 fun e => ?_).trans hX
    have := (hr k e.symm).1
    omega
  have turn : ∀ {X Y : World} {k : Nat} {o : Obj}, X.grownBy Y row → D ≤ k → X.heap[k]? = some o → Y.heap[k]? = some o := by
    intro X Y k o hXY hk hX
    refine (hXY.block k (Array.getElem?_eq_some_iff.1 hX).1 fun e => ?_).trans hX
    have := hrow k e.symm
    omega
  have wide : ∀ {X : World} {row : Option Nat}, (∀ r, row = some r → V.heap.size ≤ r ∧ ∃ o : Obj, X.heap[r]? = some o ∧ o.isCells = false) → ∀ r, row = some r → D ≤ r ∧ ∃ o : Obj, X.heap[r]? = some o ∧ o.isCells = false :=
    fun hr r e => ⟨by have := (hr r e).1; omega, (hr r e).2⟩
  have far0 : ∀ k, D ≤ k → ¬ S k := fun k hk hs => by have := hS k hs; omega
  refine ⟨D + 1, [{ target := .collected D, args := #[] }], V, { target := .fn (.func gf) lb, args := #[.func (.yield (D + 1)) #[] #[]] }, V, gf, #[.func (.yield (D + 1)) #[] #[]] ++ lb, V, ?_, ?_, fun _ _ => trivial, ?_, fun _ => h1, ?_⟩
  · have := run_enterLoop_outer (P := P) (w := w) fn a.tmps ps assign body
    rw [hD] at this
    exact this
  · simp only [resolve, hg]
    simp [go_sem]
  · simp [invoke, go_sem, eg]
  refine (hseq (D + 1) (fun k W => I k W ∧ W.heap[D + 1]? = some (.loop (R .ready none)) ∧ W.heap[D]? = some (.deferred (some [])))
    (fun k W => ∃ c, Ix c k W ∧ W.heap[D + 1]? = some (.loop (R .done (some c))) ∧ W.heap[D]? = some (.deferred (some []))) V (hD ▸ bV)
    (fun s A B row hs hAB hr => ⟨hI s A B row hs.1 hAB (wide hr), keep hAB hr (by omega) hs.2.1, keep hAB hr (by omega) hs.2.2⟩)
    (fun s A B row ⟨c, hs⟩ hAB hr => ⟨c, hIx c s A B row hs.1 hAB (wide hr), keep hAB hr (by omega) hs.2.1, keep hAB hr (by omega) hs.2.2⟩)
    (fun k A B hs hAB => ⟨hIr k A B hs.1 hAB, turn hAB (by omega) hs.2.1, turn hAB (by omega) hs.2.2⟩) ?_ ⟨iV, rV, dV⟩).mono ?_
  · -- a round
    rintro k X hk ⟨iX, rX, dX⟩
    have ltX : D + 1 < X.heap.size := (Array.getElem?_eq_some_iff.1 rX).1
    obtain ⟨X1, hX1⟩ : ∃ X1, X1 = al X (ob k) := ⟨_, rfl⟩
    have gX : X.grownBy X1 none := by
      rw [hX1]
      cases ob k with
      | none => exact ⟨rfl, rfl, rfl, Nat.le_refl _, fun _ _ _ => rfl⟩
      | some o => exact World.grownBy_alloc X o none
    have up : ∀ {j : Nat} {o : Obj}, X.heap[j]? = some o → X1.heap[j]? = some o := fun hX => (gX.block _ (Array.getElem?_eq_some_iff.1 hX).1 (fun e => by cases e)).trans hX
    have rX1 := up rX
    have dX1 := up dX
    have iX1 : I k X1 := hI k X X1 none iX gX (fun r e => by cases e)
    have ltX1 : D + 1 < X1.heap.size := (Array.getElem?_eq_some_iff.1 rX1).1
    have oX1 : ∀ o, ob k = some o → X1.heap[X.heap.size]? = some o := fun o e => by rw [hX1, e]; exact World.alloc_heap_new X o
    refine ⟨fn, _, assign, body, run_yield (P := P) (args := encs k) rX (hps k), roundIn_of_wpIn hfn (hassign _ k X _ _ hk rfl ?_)⟩
    rw [← hX1]
    refine ⟨_, run_beginRound rX1 rfl, ?_⟩
    let Y : World := X1.putObj (D + 1) (.loop { R .ready none with state := .busy })
    have rY : Y.heap[D + 1]? = some (.loop { R .ready none with state := .busy }) := World.putObj_heap_same ltX1
    have dY : Y.heap[D]? = some (.deferred (some [])) := (World.putObj_heap_other (by omega)).trans dX1
    have iY : I k Y := hI.putObj _ iX1 (by omega) rX1 rfl
    refine wpIn_mono (hbody _ k Y X.heap.size hk iY (by omega) (fun o e => (World.putObj_heap_other (by omega)).trans (oX1 o e))) ?_
    have far : ∀ (o : Obj) (Z : World), KeepsFrom D Y Z → KeepsFrom (D + 2) X (Z.putObj (D + 1) o) := fun o Z hZ =>
      ⟨by have h9 := hZ.size; have h8 := gX.size; simp [Y] at h9 ⊢; omega, fun j o' hj hX ho => (World.putObj_heap_other (by omega)).trans (hZ.same j o' (by omega) ((World.putObj_heap_other (by omega)).trans (up hX)) ho)⟩
    have ends : ∀ (jump : Option Code) (Z : World), KeepsFrom D Y Z → (Instr.endRound (D + 1) jump).run P Z = .ok (.bool jump.isNone) (Z.putObj (D + 1) (.loop (R (if jump.isNone then .ready else .done) jump))) ∧ Z.heap[D + 1]? = some (.loop { R .ready none with state := .busy }) ∧
        (Z.putObj (D + 1) (.loop (R (if jump.isNone then .ready else .done) jump))).heap[D + 1]? = some (.loop (R (if jump.isNone then .ready else .done) jump)) ∧ (Z.putObj (D + 1) (.loop (R (if jump.isNone then .ready else .done) jump))).heap[D]? = some (.deferred (some [])) := by
      intro jump Z hZ
      have rZ := hZ.same _ _ (by omega) rY rfl
      exact ⟨run_endRound (P := P) jump rZ, rZ, World.putObj_heap_same (Array.getElem?_eq_some_iff.1 rZ).1, (World.putObj_heap_other (by omega)).trans (hZ.same _ _ (Nat.le_refl _) dY rfl)⟩
    have left : ∀ (c : Code) (Z : World), KeepsFrom D Y Z → Ix c (k + 1) Z → ∃ v Z', (Instr.endRound (D + 1) (some c)).run P Z = .ok v Z' ∧ v = .bool false ∧ (∃ c, Ix c (k + 1) Z' ∧ Z'.heap[D + 1]? = some (.loop (R .done (some c))) ∧ Z'.heap[D]? = some (.deferred (some []))) ∧ KeepsFrom (D + 2) X Z' := by
      intro c Z hZ hx
      obtain ⟨e1, e2, e3, e4⟩ := ends (some c) Z hZ
      exact ⟨_, _, e1, rfl, ⟨c, (hIx c).putObj _ hx (by omega) e2 rfl, e3, e4⟩, far _ Z hZ⟩
    intro e a3 Z hp
    cases e with
    | normal =>
      obtain ⟨hZ, kZ, iZ⟩ := hp
      obtain ⟨e1, e2, e3, e4⟩ := ends none Z hZ
      have k0 : KeepO S X X1 := KeepO.grown gX (fun b _ e => by cases e)
      exact ⟨_, _, e1, Or.inl ⟨rfl, ⟨hI.putObj _ iZ (by omega) e2 rfl, e3, e4⟩, ((k0.trans (KeepO.put _ (far0 _ (by omega)))).trans kZ).trans (KeepO.put _ (far0 _ (by omega))), hD ▸ far _ Z hZ⟩⟩
    | ret => obtain ⟨v, Z', e1, e2, e3⟩ := left .ret Z hp.1 hp.2; exact ⟨v, Z', e1, Or.inr ⟨by rw [e2], e3.1, hD ▸ e3.2⟩⟩
    | exit id => obtain ⟨v, Z', e1, e2, e3⟩ := left (.exit id) Z hp.1 hp.2; exact ⟨v, Z', e1, Or.inr ⟨by rw [e2], e3.1, hD ▸ e3.2⟩⟩
    | goto t => obtain ⟨v, Z', e1, e2, e3⟩ := left (.goto t) Z hp.1 hp.2; exact ⟨v, Z', e1, Or.inr ⟨by rw [e2], e3.1, hD ▸ e3.2⟩⟩
    | panic ch => exact hp.elim
    | outgrown => exact hp.elim
  · rintro e X ⟨⟨v, rfl⟩, ⟨⟨iX, rX, dX⟩, hs⟩ | ⟨k, hk, c, iX, rX, dX⟩⟩
    · exact ⟨none, _, run_endLoop (P := P) rX (by simp [R]), hdone D _ (Nat.le_refl _) (hI.putObj _ iX (by omega) rX rfl) (hSt.putObj _ hs (by omega) rX rfl) ((World.putObj_heap_other (by omega)).trans dX)⟩
    · exact ⟨some c, _, run_endLoop (P := P) rX (by simp [R]), hstop D c k _ (Nat.le_refl _) hk ((hIx c).putObj _ iX (by omega) rX rfl) ((World.putObj_heap_other (by omega)).trans dX)⟩
end Go.Proofs.YtompnibhfdkkjaaGreat
namespace Go.Proofs.YtompnibhfdkkjaaGreat
set_option linter.unusedVariables false

/-- A point of whole grains. -/
structure Pt where
  x : Int
  y : Int
  z : Int
  deriving DecidableEq
def Pt.O : Pt := ⟨0, 0, 0⟩
instance : Inhabited Pt := ⟨Pt.O⟩
/-- No part's size is above m. -/
def Pt.inB (p : Pt) (m : Int) : Bool := decide ((-m ≤ p.x ∧ p.x ≤ m) ∧ (-m ≤ p.y ∧ p.y ≤ m) ∧ (-m ≤ p.z ∧ p.z ≤ m))
theorem Pt.inB_iff (p : Pt) (m : Int) : p.inB m = true ↔ (-m ≤ p.x ∧ p.x ≤ m) ∧ (-m ≤ p.y ∧ p.y ≤ m) ∧ (-m ≤ p.z ∧ p.z ≤ m) := by simp [Pt.inB]
def Pt.by (p : Pt) (n : Int) : Pt := ⟨p.x.tdiv n, p.y.tdiv n, p.z.tdiv n⟩
def Pt.neg (p : Pt) : Pt := ⟨-p.x, -p.y, -p.z⟩
def Pt.sub (p q : Pt) : Pt := ⟨p.x - q.x, p.y - q.y, p.z - q.z⟩
def Pt.dot (p q : Pt) : Int := p.x * q.x + p.y * q.y + p.z * q.z
def Pt.cross (p q : Pt) : Pt := ⟨p.y * q.z - p.z * q.y, p.z * q.x - p.x * q.z, p.x * q.y - p.y * q.x⟩
/-- The greatest number that divides all parts. -/
def Pt.g (p : Pt) : Nat := Nat.gcd (Nat.gcd p.x.natAbs p.y.natAbs) p.z.natAbs
def Pt.low (p : Pt) : Pt := if p.g = 0 then p else p.by p.g
def halveF : Nat → Pt → Pt
  | 0, p => p
  | n + 1, p => if p.inB 1048576 then p else halveF n (p.by 2)
def Pt.half (p : Pt) : Pt := halveF 43 p
def Pt.short (p : Pt) : Pt := if p.inB 4398046511104 then p.low.half.low else Pt.O

theorem abs_tdiv (a : Int) (n : Nat) : (a.tdiv n).natAbs = a.natAbs / n := Int.natAbs_tdiv a n
theorem tdiv_le (a : Int) (m : Int) (n : Nat) (h : -m ≤ a ∧ a ≤ m) : -m ≤ a.tdiv n ∧ a.tdiv n ≤ m := by
  have e := abs_tdiv a n
  have := Nat.div_le_self a.natAbs n
  generalize a.natAbs / n = q at e this
  omega
theorem Pt.by_in {p : Pt} {m : Int} (n : Nat) (h : p.inB m = true) : (p.by n).inB m = true := by
  rw [Pt.inB_iff] at h ⊢
  exact ⟨tdiv_le _ _ _ h.1, tdiv_le _ _ _ h.2.1, tdiv_le _ _ _ h.2.2⟩
theorem Pt.low_in {p : Pt} {m : Int} (h : p.inB m = true) : p.low.inB m = true := by
  unfold Pt.low
  split
  · exact h
  · exact Pt.by_in _ h
theorem half_le (a m : Int) (h : -(2 * m) ≤ a ∧ a ≤ 2 * m) : -m ≤ a.tdiv 2 ∧ a.tdiv 2 ≤ m := by
  have e : (a.tdiv 2).natAbs = a.natAbs / 2 := abs_tdiv a 2
  omega
theorem half_in {p : Pt} {m : Int} (h : p.inB (2 * m) = true) : (p.by 2).inB m = true := by
  rw [Pt.inB_iff] at h ⊢
  exact ⟨half_le _ _ h.1, half_le _ _ h.2.1, half_le _ _ h.2.2⟩
theorem inB_mono {p : Pt} {m n : Int} (h : p.inB m = true) (k : m ≤ n) : p.inB n = true := by
  rw [Pt.inB_iff] at h ⊢
  omega
theorem halveF_in (n : Nat) (p : Pt) (h : p.inB (2 ^ n : Nat) = true) : (halveF n p).inB 1048576 = true := by
  induction n generalizing p with
  | zero => exact inB_mono h (by decide)
  | succ n ih =>
    unfold halveF
    split
    · assumption
    · refine ih _ (half_in ?_)
      rw [Nat.pow_succ, Nat.mul_comm, Int.natCast_mul] at h
      exact h
theorem half_in20 {p : Pt} (h : p.inB 4398046511104 = true) : p.half.inB 1048576 = true := halveF_in 43 p (inB_mono h (by decide))
theorem halveF_id (n : Nat) (p : Pt) (h : p.inB 1048576 = true) : halveF n p = p := by
  cases n with
  | zero => rfl
  | succ n => simp [halveF, h]
theorem short_in (p : Pt) : p.short.inB 1048576 = true := by
  unfold Pt.short
  split
  · exact Pt.low_in (half_in20 (Pt.low_in (by assumption)))
  · decide
def pt (L : List Pt) (i : Nat) : Pt := L[i]?.getD default
theorem pt_mem {L : List Pt} {i : Nat} (h : i < L.length) : pt L i ∈ L := by unfold pt; rw [List.getElem?_eq_getElem h]; exact List.getElem_mem h
theorem pt_of_mem {L : List Pt} {p : Pt} (h : p ∈ L) : ∃ i, i < L.length ∧ pt L i = p := by
  obtain ⟨i, hi, e⟩ := List.getElem_of_mem h
  exact ⟨i, hi, by unfold pt; rw [List.getElem?_eq_getElem hi, e]; rfl⟩
theorem drop_pt {L : List Pt} {i : Nat} (h : i < L.length) : L.drop i = pt L i :: L.drop (i + 1) := by
  rw [List.drop_eq_getElem_cons h]; unfold pt; rw [List.getElem?_eq_getElem h]; rfl
theorem take_pt {L : List Pt} {i : Nat} (h : i < L.length) : L.take (i + 1) = L.take i ++ [pt L i] := by
  rw [List.take_succ_eq_append_getElem h]; unfold pt; rw [List.getElem?_eq_getElem h]; rfl
theorem pt_take {L : List Pt} {i n : Nat} (h : i < n) : pt (L.take n) i = pt L i := by unfold pt; rw [List.getElem?_take, if_pos h]
theorem list_same {L M : List Pt} (hl : L.length = M.length) (h : ∀ i, i < L.length → pt L i = pt M i) : L = M := by
  apply List.ext_getElem hl
  intro i h1 h2
  have := h i h1
  unfold pt at this
  rw [List.getElem?_eq_getElem h1, List.getElem?_eq_getElem h2] at this
  exact this

end Go.Proofs.YtompnibhfdkkjaaGreat
namespace Go.Proofs.YtompnibhfdkkjaaGreat

section
variable {P : Program} {ops : Array Oper} {Q : Exit → Act → World → Prop} {md : Region.Mode}

theorem wpAny_by (I : Array Bool → Act → World → Prop)
    (hstep : ∀ listed a w i, listed.size = ops.size → i ∈ Region.ready md ops listed → I listed a w → wpOp P ops Q i (I (listed.setIfInBounds i true)) a w)
    (hdone : ∀ listed a w, listed.size = ops.size → Region.ready md ops listed = [] → I listed a w → Q .normal a w) :
    ∀ (fuel : Nat) (listed : Array Bool) (a : Act) (w : World), listed.size = ops.size → listed.toList.count false ≤ fuel → I listed a w → wpAny P md ops Q fuel listed a w
  | 0, listed, a, w, hs, hf, h => by
    have hr : Region.ready md ops listed = [] := by
      apply List.eq_nil_iff_forall_not_mem.2
      intro i hi
      obtain ⟨h0, o, ho, _⟩ := mem_ready.1 hi
      have hlt : i < listed.size := by rw [hs]; exact (Array.getElem?_eq_some_iff.1 ho).1
      have hm : false ∈ listed.toList := by
        have : listed[i] = false := by simpa [hlt] using h0
        rw [← this]; exact Array.getElem_mem_toList hlt
      have := List.count_pos_iff.2 hm
      omega
    exact ⟨hr, hdone _ _ _ hs hr h⟩
  | fuel + 1, listed, a, w, hs, hf, h => by
    refine ⟨fun hr => hdone _ _ _ hs hr h, fun i hi => ?_⟩
    have hlt : i < listed.size := by
      obtain ⟨h0, o, ho, _⟩ := mem_ready.1 hi
      rw [hs]; exact (Array.getElem?_eq_some_iff.1 ho).1
    have hfalse : listed[i] = false := by
      have := (mem_ready.1 hi).1
      simpa [hlt] using this
    refine wpOp_mono (fun a' w' h' => ?_) (hstep _ _ _ _ hs hi h)
    refine wpAny_by I hstep hdone fuel _ a' w' (by simpa using hs) ?_ h'
    have hc : (listed.toList.set i true).count false + 1 = listed.toList.count false := by
      have hl : i < listed.toList.length := by simpa using hlt
      rw [List.count_set hl]
      have : listed.toList[i] = false := by simpa using hfalse
      simp only [this, beq_self_eq_true, if_true]
      have hm : false ∈ listed.toList := by rw [← this]; exact List.getElem_mem hl
      have := List.count_pos_iff.2 hm
      have e : (true == false) = false := rfl
      simp only [e, Bool.false_eq_true, if_false]
      omega
    have : (listed.setIfInBounds i true).toList = listed.toList.set i true := by simp
    rw [this]; omega

/-- Every operation waits for those alone that stand ahead of it. -/
def Tidy : List Oper → Nat → Bool
  | [], _ => true
  | o :: rest, n => (o.after.all fun e => decide (e.on < n)) && Tidy rest (n + 1)

theorem tidy_at : ∀ (l : List Oper) (n i : Nat) (o : Oper), Tidy l n = true → l[i]? = some o → ∀ e ∈ o.after, e.on < n + i
  | [], _, _, _, _, h => by simp at h
  | x :: rest, n, 0, o, ht, h => by
    simp only [Tidy, Bool.and_eq_true] at ht
    simp only [List.getElem?_cons_zero, Option.some.injEq] at h
    subst h
    intro e he
    have := (Array.all_eq_true_iff_forall_mem.1 ht.1) e he
    simpa using this
  | x :: rest, n, i + 1, o, ht, h => by
    simp only [Tidy, Bool.and_eq_true] at ht
    intro e he
    have := tidy_at rest (n + 1) i o ht.2 (by simpa using h) e he
    omega

/-- Where nothing may come up any more, all have come up. -/
theorem all_listed {listed : Array Bool} (ht : Tidy ops.toList 0 = true) (hr : Region.ready md ops listed = []) (hs : listed.size = ops.size) : ∀ i, i < ops.size → listed.getD i false = true := by
  intro i
  induction i using Nat.strongRecOn with
  | _ i ih =>
    intro hi
    cases hl : listed.getD i false with
    | true => rfl
    | false =>
      exfalso
      have ho : ops[i]? = some ops[i] := Array.getElem?_eq_getElem hi
      have hmem : i ∈ Region.ready md ops listed := by
        refine mem_ready.2 ⟨?_, ops[i], ho, fun e he _ => ?_⟩
        · have : i < listed.size := by omega
          simp [this] at hl ⊢; exact hl
        · have := tidy_at ops.toList 0 i ops[i] ht (by simp [hi]) e he
          exact ih e.on (by omega) (by omega)
      rw [hr] at hmem
      simp at hmem

/-- Where an operation leaves its value. -/
def dstOf (ops : Array Oper) (j : Nat) : Option Tmp := (ops[j]?).bind (·.dst)
/-- For whom an operation waits. -/
def waitsFor (ops : Array Oper) (j e : Nat) : Prop := ∃ o, ops[j]? = some o ∧ ∃ x ∈ o.after, Region.binds .any x = true ∧ x.on = e

/-- The slots that the region writes, each by one operation alone. -/
def Once (ops : List Oper) : Bool := (ops.filterMap (·.dst)).Nodup

/-- What holds while the region runs: what has come up has left the value val (γ tells where what the region makes lies); the other slots are as they were; G holds of the world. -/
structure Held (D : Nat → Option Tmp) (A : Nat → Nat → Prop) (val : (Nat → Nat) → Nat → Value) (G : (Nat → Nat) → (Nat → Bool) → World → Prop) (a₀ : Act) (γ : Nat → Nat) (L : Nat → Bool) (a : Act) (w : World) : Prop where
  defers : a.defers = a₀.defers
  size : a.tmps.size = a₀.tmps.size
  slot : ∀ (j : Nat) (t : Tmp), D j = some t → L j = true → a.tmps[t]? = some (val γ j)
  rest : ∀ t : Tmp, (∀ j : Nat, D j ≠ some t) → a.tmps[t]? = a₀.tmps[t]?
  closed : ∀ j e : Nat, A j e → L j = true → L e = true
  glob : G γ L w

/-- With one more. -/
def more (L : Nat → Bool) (i : Nat) : Nat → Bool := fun j => decide (j = i) || L j

/-- Is an operation carried out at all? (Its guard's slot tells.) -/
def wantedD (D : Nat → Option Tmp) (o : Oper) (a : Act) : Bool :=
  match o.guard with
  | none => true
  | some (g, b) => (match (D g).bind (a.tmps[·]?) with | some (.bool x) => some x | _ => none) == some b

theorem wantedD_eq (ops : Array Oper) (o : Oper) (a : Act) : Region.wanted o (yielded ops a.tmps) = wantedD (dstOf ops) o a := by
  unfold Region.wanted wantedD yielded dstOf
  cases o.guard <;> rfl

/-- What an operation must do. -/
def Does (P : Program) (Q : Exit → Act → World → Prop) (D : Nat → Option Tmp) (A : Nat → Nat → Prop) (val : (Nat → Nat) → Nat → Value) (G : (Nat → Nat) → (Nat → Bool) → World → Prop) (a₀ : Act) (i : Nat) (o : Oper) : Prop :=
  ∀ (γ : Nat → Nat) (L : Nat → Bool) (a : Act) (w : World), Held D A val G a₀ γ L a w → L i = false → (∀ e ∈ o.after, Region.binds .any e = true → L e.on = true) →
    (wantedD D o a = true → o.wp P a w (fun a' w' => ∃ v γ', a' = a.put o.dst v ∧ (∀ j, L j = true → val γ' j = val γ j) ∧ (o.dst.isSome = true → v = val γ' i) ∧ G γ' (more L i) w') Q) ∧
    (wantedD D o a = false → (o.dst.isSome = true → undef = val γ i) ∧ G γ (more L i) w)

theorem dst_once (hn : Once ops.toList = true) {i j : Nat} {t : Tmp} (h : dstOf ops i = some t) (h' : dstOf ops j = some t) : i = j := by
  have key : ∀ (l : List Oper), (l.filterMap (·.dst)).Nodup → ∀ (i j : Nat) (o o' : Oper), l[i]? = some o → l[j]? = some o' → o.dst = some t → o'.dst = some t → i = j := by
    intro l
    induction l with
    | nil => intro _ i j o o' hi; simp at hi
    | cons x rest ih =>
      intro hnd i j o o' hi hj h h'
      have hrest : (rest.filterMap (·.dst)).Nodup := by
        rw [List.filterMap_cons] at hnd
        cases hx : x.dst with
        | none => simpa [hx] using hnd
        | some d => rw [hx] at hnd; exact (List.nodup_cons.1 hnd).2
      have hno : x.dst = some t → t ∉ rest.filterMap (·.dst) := by
        intro hx
        rw [List.filterMap_cons, hx] at hnd
        exact (List.nodup_cons.1 hnd).1
      match i, j with
      | 0, 0 => rfl
      | 0, j + 1 =>
        simp only [List.getElem?_cons_zero, Option.some.injEq] at hi
        subst hi
        exact absurd (List.mem_filterMap.2 ⟨o', List.mem_of_getElem? (by simpa using hj), h'⟩) (hno h)
      | i + 1, 0 =>
        simp only [List.getElem?_cons_zero, Option.some.injEq] at hj
        subst hj
        exact absurd (List.mem_filterMap.2 ⟨o, List.mem_of_getElem? (by simpa using hi), h⟩) (hno h')
      | i + 1, j + 1 => have := ih hrest i j o o' (by simpa using hi) (by simpa using hj) h h'; omega
  unfold dstOf at h h'
  obtain ⟨o, ho, hd⟩ := Option.bind_eq_some_iff.1 h
  obtain ⟨o', ho', hd'⟩ := Option.bind_eq_some_iff.1 h'
  exact key ops.toList (of_decide_eq_true hn) i j o o' (by simpa using ho) (by simpa using ho') hd hd'

/-- Each operation of a list from number n on. -/
def AllDo (P : Program) (Q : Exit → Act → World → Prop) (D : Nat → Option Tmp) (A : Nat → Nat → Prop) (val : (Nat → Nat) → Nat → Value) (G : (Nat → Nat) → (Nat → Bool) → World → Prop) (a₀ : Act) : List Oper → Nat → Prop
  | [], _ => True
  | o :: rest, n => Does P Q D A val G a₀ n o ∧ AllDo P Q D A val G a₀ rest (n + 1)

theorem allDo_at {D : Nat → Option Tmp} {A : Nat → Nat → Prop} {val : (Nat → Nat) → Nat → Value} {G : (Nat → Nat) → (Nat → Bool) → World → Prop} {a₀ : Act} : ∀ (l : List Oper) (n i : Nat) (o : Oper), AllDo P Q D A val G a₀ l n → l[i]? = some o → Does P Q D A val G a₀ (n + i) o
  | [], _, _, _, _, h => by simp at h
  | x :: rest, n, 0, o, ha, h => by
    simp only [List.getElem?_cons_zero, Option.some.injEq] at h
    subst h; exact ha.1
  | x :: rest, n, i + 1, o, ha, h => by
    have := allDo_at rest (n + 1) i o ha.2 (by simpa using h)
    rwa [show n + 1 + i = n + (i + 1) by omega] at this

/-- All slots that the region writes are there. -/
def Fits (ops : List Oper) (n : Nat) : Bool := ops.all fun o => match o.dst with | some t => decide (t < n) | none => true

/-- THE LAW. -/
theorem region_by {id : Nat} {a₀ : Act} {w : World} (val : (Nat → Nat) → Nat → Value) (G : (Nat → Nat) → (Nat → Bool) → World → Prop) (hm : P.follows .mixedOrders = true)
    (ht : Tidy ops.toList 0 = true) (hn : Once ops.toList = true) (hfit : Fits ops.toList a₀.tmps.size = true)
    (γ₀ : Nat → Nat) (h0 : G γ₀ (fun _ => false) w.drew) (hall : AllDo P Q (dstOf ops) (waitsFor ops) val G a₀ ops.toList 0)
    (hq : ∀ (γ : Nat → Nat) (a : Act) (w : World) (L : Nat → Bool), (∀ j, j < ops.size → L j = true) → (∀ j, ops.size ≤ j → L j = false) → Held (dstOf ops) (waitsFor ops) val G a₀ γ L a w → Q .normal a w) :
    (Code.region id ops true).wp P Q a₀ w := by
  refine wp_region_any hm (wpAny_by (fun listed a w => ∃ γ, Held (dstOf ops) (waitsFor ops) val G a₀ γ (fun j => listed.getD j false) a w) ?_ ?_ _ _ _ _ (by simp) (by simp) ?_)
  · intro listed a w i hs hi hI
    obtain ⟨γ, hI⟩ := hI
    obtain ⟨hl, o, ho, hafter⟩ := mem_ready.1 hi
    have hlt : i < listed.size := by rw [hs]; exact (Array.getElem?_eq_some_iff.1 ho).1
    have hl' : listed.getD i false = false := by simp [hlt] at hl ⊢; exact hl
    have hd := allDo_at ops.toList 0 i o hall (by simpa using ho)
    rw [Nat.zero_add] at hd
    have hstep := hd γ _ a w hI hl' hafter
    have hdst : dstOf ops i = o.dst := by simp [dstOf, ho]
    suffices hmain : ∀ (a' : Act) (w' : World), (∃ v γ', a' = a.put o.dst v ∧ (∀ j, listed.getD j false = true → val γ' j = val γ j) ∧ (o.dst.isSome = true → v = val γ' i) ∧ G γ' (more (fun j => listed.getD j false) i) w') →
        ∃ γ, Held (dstOf ops) (waitsFor ops) val G a₀ γ (fun j => (listed.setIfInBounds i true).getD j false) a' w' by
      unfold wpOp
      simp only [ho]
      cases hw : Region.wanted o (yielded ops a.tmps)
      · rw [wantedD_eq] at hw
        obtain ⟨s1, s2⟩ := hstep.2 hw
        simp only [Bool.false_eq_true, if_false]
        exact hmain _ _ ⟨undef, γ, rfl, fun _ _ => rfl, s1, s2⟩
      · rw [wantedD_eq] at hw
        simp only [if_true]
        exact .inl (Oper.wp_mono hmain (hstep.1 hw))
    rintro a' w' ⟨v, γ', rfl, hkeep, hJ, hG⟩
    have hset : (fun j => (listed.setIfInBounds i true).getD j false) = more (fun j => listed.getD j false) i := by
      funext j
      unfold more
      by_cases e : j = i
      · subst e; simp [hlt]
      · rw [getD_set_ne false (Ne.symm e)]; simp [e]
    refine ⟨γ', ?_⟩
    rw [hset]
    refine ⟨?_, ?_, ?_, ?_, ?_, hG⟩
    · cases hd : o.dst <;> simp [Act.put, hI.defers]
    · cases hd : o.dst <;> simp [Act.put, hI.size]
    · intro j t hdt hlj
      by_cases e : j = i
      · subst e
        rw [hdst] at hdt
        rw [← hJ (by simp [hdt])]
        have hfit' : t < a₀.tmps.size := by
          have := (List.all_eq_true.1 hfit) o (List.mem_of_getElem? (by simpa using ho))
          simpa [hdt] using this
        simp [Act.put, hdt, hI.size, hfit']
      · have hlj' : listed.getD j false = true := by simpa [more, e] using hlj
        have hu := hI.slot j t hdt hlj'
        rw [hkeep j hlj', ← hu]
        cases hd : o.dst with
        | none => simp [Act.put]
        | some d =>
          have hne : d ≠ t := fun e' => e (dst_once hn hdt (by rw [hdst, hd, e']))
          simp only [Act.put]
          rw [Array.getElem?_setIfInBounds_ne hne]
    · intro t hno
      rw [← hI.rest t hno]
      cases hd : o.dst with
      | none => simp [Act.put]
      | some d =>
        have hne : d ≠ t := fun e' => hno i (by rw [hdst, hd, e'])
        simp only [Act.put]
        rw [Array.getElem?_setIfInBounds_ne hne]
    · intro j e hA hj
      by_cases h : j = i
      · subst h
        obtain ⟨o', ho', x, hx, hb, rfl⟩ := hA
        obtain rfl : o = o' := by rw [ho] at ho'; exact Option.some.inj ho'
        have := hafter x hx hb
        simp only [more, this, Bool.or_true]
      · have := hI.closed j e hA (by simpa [more, h] using hj)
        simp only [more, this, Bool.or_true]
  · rintro listed a w hs hr ⟨γ, hI⟩
    exact hq γ a w _ (all_listed ht hr hs) (fun j hj => by have : ¬ j < listed.size := by omega
                                                           simp [this]) hI
  · refine ⟨γ₀, rfl, rfl, fun j t hd hl => ?_, fun _ _ => rfl, fun j e _ hj => ?_, ?_⟩
    · exfalso
      by_cases e : j < ops.size <;> simp [e] at hl
    · exfalso
      by_cases e : j < ops.size <;> simp [e] at hj
    · have : (fun j => (Array.replicate ops.size false).getD j false) = (fun _ => false) := by
        funext j
        by_cases e : j < ops.size <;> simp [e]
      rw [this]; exact h0
end
end Go.Proofs.YtompnibhfdkkjaaGreat
namespace Go.Proofs.YtompnibhfdkkjaaGreat
namespace RV
open Go.RowKit
set_option linter.unusedVariables false

/-- With one more. -/
def upd (γ : Nat → Value) (i : Nat) (v : Value) : Nat → Value := fun j => if j = i then v else γ j
theorem upd_self (γ : Nat → Value) (i : Nat) (v : Value) : upd γ i v i = v := by simp [upd]
theorem upd_ne (γ : Nat → Value) {i j : Nat} (v : Value) (h : j ≠ i) : upd γ i v j = γ j := by simp [upd, h]

section
variable {P : Program} {ops : Array Oper} {Q : Exit → Act → World → Prop}

/-- What holds while the region runs: γ is what the operations have left, R what is known of it, G what is known of the world. -/
structure Held (D : Nat → Option Tmp) (A : Nat → Nat → Prop) (R : Nat → Value → World → Prop) (G : (Nat → Value) → (Nat → Bool) → World → Prop) (a₀ : Act) (γ : Nat → Value) (L : Nat → Bool) (a : Act) (w : World) : Prop where
  defers : a.defers = a₀.defers
  size : a.tmps.size = a₀.tmps.size
  slot : ∀ (j : Nat) (t : Tmp), D j = some t → L j = true → a.tmps[t]? = some (γ j)
  holds : ∀ j : Nat, L j = true → R j (γ j) w
  early : ∀ t : Tmp, (∀ j : Nat, D j = some t → L j = false) → a.tmps[t]? = a₀.tmps[t]?
  closed : ∀ j e : Nat, A j e → L j = true → L e = true
  glob : G γ L w

theorem Held.rest {D : Nat → Option Tmp} {A : Nat → Nat → Prop} {R : Nat → Value → World → Prop} {G : (Nat → Value) → (Nat → Bool) → World → Prop} {a₀ : Act} {γ : Nat → Value} {L : Nat → Bool} {a : Act} {w : World} (h : Held D A R G a₀ γ L a w) (t : Tmp) (hno : ∀ j : Nat, D j ≠ some t) : a.tmps[t]? = a₀.tmps[t]? := h.early t fun j e => absurd e (hno j)

/-- What an operation must do. -/
def Does (P : Program) (Q : Exit → Act → World → Prop) (D : Nat → Option Tmp) (A : Nat → Nat → Prop) (R : Nat → Value → World → Prop) (G : (Nat → Value) → (Nat → Bool) → World → Prop) (a₀ : Act) (i : Nat) (o : Oper) : Prop :=
  ∀ (γ : Nat → Value) (L : Nat → Bool) (a : Act) (w : World), Held D A R G a₀ γ L a w → L i = false → (∀ e ∈ o.after, Region.binds .any e = true → L e.on = true) →
    (wantedD D o a = true → o.wp P a w (fun a' w' => ∃ v, a' = a.put o.dst v ∧ R i v w' ∧ (∀ j v, L j = true → R j v w → R j v w') ∧ G (upd γ i v) (more L i) w') Q) ∧
    (wantedD D o a = false → R i undef w ∧ G (upd γ i undef) (more L i) w)

/-- Each operation of a list from number n on. -/
def AllDo (P : Program) (Q : Exit → Act → World → Prop) (D : Nat → Option Tmp) (A : Nat → Nat → Prop) (R : Nat → Value → World → Prop) (G : (Nat → Value) → (Nat → Bool) → World → Prop) (a₀ : Act) : List Oper → Nat → Prop
  | [], _ => True
  | o :: rest, n => Does P Q D A R G a₀ n o ∧ AllDo P Q D A R G a₀ rest (n + 1)
theorem AllDo.cons {D : Nat → Option Tmp} {A : Nat → Nat → Prop} {R : Nat → Value → World → Prop} {G : (Nat → Value) → (Nat → Bool) → World → Prop} {a₀ : Act} {o : Oper} {rest : List Oper} (k : Nat) (h : Does P Q D A R G a₀ k o) (h' : AllDo P Q D A R G a₀ rest (k + 1)) : AllDo P Q D A R G a₀ (o :: rest) k := ⟨h, h'⟩
theorem AllDo.nil {D : Nat → Option Tmp} {A : Nat → Nat → Prop} {R : Nat → Value → World → Prop} {G : (Nat → Value) → (Nat → Bool) → World → Prop} {a₀ : Act} {k : Nat} : AllDo P Q D A R G a₀ [] k := trivial
theorem allDo_at {D : Nat → Option Tmp} {A : Nat → Nat → Prop} {R : Nat → Value → World → Prop} {G : (Nat → Value) → (Nat → Bool) → World → Prop} {a₀ : Act} : ∀ (l : List Oper) (n i : Nat) (o : Oper), AllDo P Q D A R G a₀ l n → l[i]? = some o → Does P Q D A R G a₀ (n + i) o
  | [], _, _, _, _, h => by simp at h
  | x :: rest, n, 0, o, ha, h => by
    simp only [List.getElem?_cons_zero, Option.some.injEq] at h
    subst h; exact ha.1
  | x :: rest, n, i + 1, o, ha, h => by
    have := allDo_at rest (n + 1) i o ha.2 (by simpa using h)
    rwa [show n + 1 + i = n + (i + 1) by omega] at this

/-- THE LAW. -/
theorem region_by {id : Nat} {a₀ : Act} {w : World} (R : Nat → Value → World → Prop) (G : (Nat → Value) → (Nat → Bool) → World → Prop) (hm : P.follows .mixedOrders = true)
    (ht : Tidy ops.toList 0 = true) (hn : Once ops.toList = true) (hfit : Fits ops.toList a₀.tmps.size = true)
    (h0 : G (fun _ => undef) (fun _ => false) w.drew) (hall : AllDo P Q (dstOf ops) (waitsFor ops) R G a₀ ops.toList 0)
    (hq : ∀ (γ : Nat → Value) (a : Act) (w : World) (L : Nat → Bool), (∀ j, j < ops.size → L j = true) → (∀ j, ops.size ≤ j → L j = false) → Held (dstOf ops) (waitsFor ops) R G a₀ γ L a w → Q .normal a w) :
    (Code.region id ops true).wp P Q a₀ w := by
  refine wp_region_any hm (wpAny_by (fun listed a w => ∃ γ, Held (dstOf ops) (waitsFor ops) R G a₀ γ (fun j => listed.getD j false) a w) ?_ ?_ _ _ _ _ (by simp) (by simp) ?_)
  · intro listed a w i hs hi hI
    obtain ⟨γ, hI⟩ := hI
    obtain ⟨hl, o, ho, hafter⟩ := mem_ready.1 hi
    have hlt : i < listed.size := by rw [hs]; exact (Array.getElem?_eq_some_iff.1 ho).1
    have hl' : listed.getD i false = false := by simp [hlt] at hl ⊢; exact hl
    have hd := allDo_at ops.toList 0 i o hall (by simpa using ho)
    rw [Nat.zero_add] at hd
    have hstep := hd γ _ a w hI hl' hafter
    have hdst : dstOf ops i = o.dst := by simp [dstOf, ho]
    suffices hmain : ∀ (a' : Act) (w' : World), (∃ v, a' = a.put o.dst v ∧ R i v w' ∧ (∀ j v, listed.getD j false = true → R j v w → R j v w') ∧ G (upd γ i v) (more (fun j => listed.getD j false) i) w') →
        ∃ γ, Held (dstOf ops) (waitsFor ops) R G a₀ γ (fun j => (listed.setIfInBounds i true).getD j false) a' w' by
      unfold wpOp
      simp only [ho]
      cases hw : Region.wanted o (yielded ops a.tmps)
      · rw [wantedD_eq] at hw
        obtain ⟨s1, s2⟩ := hstep.2 hw
        simp only [Bool.false_eq_true, if_false]
        exact hmain _ _ ⟨undef, rfl, s1, fun _ _ _ h => h, s2⟩
      · rw [wantedD_eq] at hw
        simp only [if_true]
        exact .inl (Oper.wp_mono hmain (hstep.1 hw))
    rintro a' w' ⟨v, rfl, hR, hkeep, hG⟩
    have hset : (fun j => (listed.setIfInBounds i true).getD j false) = more (fun j => listed.getD j false) i := by
      funext j
      unfold more
      by_cases e : j = i
      · subst e; simp [hlt]
      · rw [getD_set_ne false (Ne.symm e)]; simp [e]
    refine ⟨upd γ i v, ?_⟩
    rw [hset]
    refine ⟨?_, ?_, ?_, ?_, ?_, ?_, hG⟩
    · cases hd : o.dst <;> simp [Act.put, hI.defers]
    · cases hd : o.dst <;> simp [Act.put, hI.size]
    · intro j t hdt hlj
      by_cases e : j = i
      · subst e
        rw [hdst] at hdt
        have hfit' : t < a₀.tmps.size := by
          have := (List.all_eq_true.1 hfit) o (List.mem_of_getElem? (by simpa using ho))
          simpa [hdt] using this
        simp [Act.put, hdt, hI.size, hfit', upd]
      · have hlj' : listed.getD j false = true := by simpa [more, e] using hlj
        have hu := hI.slot j t hdt hlj'
        rw [upd_ne _ _ e, ← hu]
        cases hd : o.dst with
        | none => simp [Act.put]
        | some d =>
          have hne : d ≠ t := fun e' => e (dst_once hn hdt (by rw [hdst, hd, e']))
          simp only [Act.put]
          rw [Array.getElem?_setIfInBounds_ne hne]
    · intro j hlj
      by_cases e : j = i
      · subst e; rw [upd_self]; exact hR
      · have hlj' : listed.getD j false = true := by simpa [more, e] using hlj
        rw [upd_ne _ _ e]
        exact hkeep j _ hlj' (hI.holds j hlj')
    · intro t hno
      have hno' : ∀ j, dstOf ops j = some t → listed.getD j false = false := fun j e => by
        have := hno j e
        by_cases h : j = i
        · subst h; exact hl'
        · simpa [more, h] using this
      rw [← hI.early t hno']
      cases hd : o.dst with
      | none => simp [Act.put]
      | some d =>
        have hne : d ≠ t := fun e' => by have := hno i (by rw [hdst, hd, e']); simp [more] at this
        simp only [Act.put]
        rw [Array.getElem?_setIfInBounds_ne hne]
    · intro j e hA hj
      by_cases h : j = i
      · subst h
        obtain ⟨o', ho', x, hx, hb, rfl⟩ := hA
        obtain rfl : o = o' := by rw [ho] at ho'; exact Option.some.inj ho'
        have := hafter x hx hb
        simp only [more, this, Bool.or_true]
      · have := hI.closed j e hA (by simpa [more, h] using hj)
        simp only [more, this, Bool.or_true]
  · rintro listed a w hs hr ⟨γ, hI⟩
    exact hq γ a w _ (all_listed ht hr hs) (fun j hj => by have : ¬ j < listed.size := by omega
                                                           simp [this]) hI
  · refine ⟨fun _ => undef, rfl, rfl, fun j t hd hl => ?_, fun j hl => ?_, fun _ _ => rfl, fun j e _ hj => ?_, ?_⟩
    · exfalso
      by_cases e : j < ops.size <;> simp [e] at hl
    · exfalso
      by_cases e : j < ops.size <;> simp [e] at hl
    · exfalso
      by_cases e : j < ops.size <;> simp [e] at hj
    · have : (fun j => (Array.replicate ops.size false).getD j false) = (fun _ => false) := by
        funext j
        by_cases e : j < ops.size <;> simp [e]
      rw [this]; exact h0

variable {D : Nat → Option Tmp} {A : Nat → Nat → Prop} {R : Nat → Value → World → Prop} {G : (Nat → Value) → (Nat → Bool) → World → Prop} {a₀ : Act}

/-- An operation that computes. -/
theorem does_pure {i : Nat} {o : Oper} (hG : ∀ γ v L w, L i = false → G γ L w → G (upd γ i v) (more L i) w)
    (h : ∀ γ L a w, Held D A R G a₀ γ L a w → L i = false → (∀ e ∈ o.after, Region.binds .any e = true → L e.on = true) → ∃ v, (execOp a.eval o).run P w = .ok (.value v) w ∧ R i v w) (hgd : o.guard = none := by rfl) : Does P Q D A R G a₀ i o := by
  intro γ L a w hH hl haft
  refine ⟨fun _ => ?_, fun hw => by simp [wantedD, hgd] at hw⟩
  obtain ⟨v, hr, hR⟩ := h γ L a w hH hl haft
  unfold Oper.wp
  rw [hr]
  exact ⟨v, rfl, hR, fun _ _ _ h => h, hG _ _ _ _ hl hH.glob⟩
/-- An operation that touches the world. -/
theorem does_step {i : Nat} {o : Oper}
    (h : ∀ γ L a w, Held D A R G a₀ γ L a w → L i = false → (∀ e ∈ o.after, Region.binds .any e = true → L e.on = true) → ∃ v w', (execOp a.eval o).run P w = .ok (.value v) w' ∧ R i v w' ∧ (∀ j v, L j = true → R j v w → R j v w') ∧ G (upd γ i v) (more L i) w') (hgd : o.guard = none := by rfl) : Does P Q D A R G a₀ i o := by
  intro γ L a w hH hl haft
  refine ⟨fun _ => ?_, fun hw => by simp [wantedD, hgd] at hw⟩
  obtain ⟨v, w', hr, hR, hk, hg⟩ := h γ L a w hH hl haft
  unfold Oper.wp
  rw [hr]
  exact ⟨v, rfl, hR, hk, hg⟩
/-- A store. -/
theorem does_store {i : Nat} {o : Oper}
    (h : ∀ γ L a w, Held D A R G a₀ γ L a w → L i = false → (∀ e ∈ o.after, Region.binds .any e = true → L e.on = true) → ∃ w', (execOp a.eval o).run P w = .ok .skip w' ∧ R i undef w' ∧ (∀ j v, L j = true → R j v w → R j v w') ∧ G (upd γ i undef) (more L i) w') (hgd : o.guard = none := by rfl) : Does P Q D A R G a₀ i o := by
  intro γ L a w hH hl haft
  refine ⟨fun _ => ?_, fun hw => by simp [wantedD, hgd] at hw⟩
  obtain ⟨w', hr, hR, hk, hg⟩ := h γ L a w hH hl haft
  unfold Oper.wp
  rw [hr]
  exact ⟨undef, rfl, hR, hk, hg⟩
/-- A call. -/
theorem does_call {i : Nat} {o : Oper}
    (h : ∀ γ L a w, Held D A R G a₀ γ L a w → L i = false → (∀ e ∈ o.after, Region.binds .any e = true → L e.on = true) → ∃ f args, (execOp a.eval o).run P w = .ok (.enter f args) w ∧ Calls P f args w fun e w' => ∃ v, e = .returned v ∧ R i v w' ∧ (∀ j v, L j = true → R j v w → R j v w') ∧ G (upd γ i v) (more L i) w') (hgd : o.guard = none := by rfl) : Does P Q D A R G a₀ i o := by
  intro γ L a w hH hl haft
  refine ⟨fun _ => ?_, fun hw => by simp [wantedD, hgd] at hw⟩
  obtain ⟨f, args, hr, hc⟩ := h γ L a w hH hl haft
  unfold Oper.wp
  rw [hr]
  refine Calls.mono hc ?_
  rintro e w' ⟨v, rfl, hR, hk, hg⟩
  exact ⟨v, rfl, hR, hk, hg⟩
/-- An operation whose guard's slot says that it is wanted. -/
theorem does_guarded {i : Nat} {o : Oper} {g : Nat} {b : Bool} {t : Tmp} (hgd : o.guard = some (g, b)) (hD : D g = some t) (hs : ∀ v w, R g v w → v = .bool b) (he : ⟨g, .guard⟩ ∈ o.after)
    (h : Does P Q D A R G a₀ i { o with guard := none }) : Does P Q D A R G a₀ i o := by
  intro γ L a w hH hl haft
  have hL := haft ⟨g, .guard⟩ he rfl
  have hslot := hH.slot g t hD hL
  rw [hs _ _ (hH.holds g hL)] at hslot
  refine ⟨fun _ => (h γ L a w hH hl haft).1 rfl, fun hw => ?_⟩
  simp [wantedD, hgd, hD, hslot] at hw
/-- An operation whose guard's slot says that it is not wanted. -/
theorem does_skip {i : Nat} {o : Oper} {g : Nat} {b : Bool} {t : Tmp} (hgd : o.guard = some (g, b)) (hD : D g = some t) (hs : ∀ v w, R g v w → v = .bool (!b)) (he : ⟨g, .guard⟩ ∈ o.after)
    (hi : ∀ w, R i undef w) (hG : ∀ γ v L w, L i = false → G γ L w → G (upd γ i v) (more L i) w) : Does P Q D A R G a₀ i o := by
  intro γ L a w hH hl haft
  have hL := haft ⟨g, .guard⟩ he rfl
  have hslot := hH.slot g t hD hL
  rw [hs _ _ (hH.holds g hL)] at hslot
  refine ⟨fun hw => ?_, fun _ => ⟨hi _, hG _ _ _ _ hl hH.glob⟩⟩
  simp [wantedD, hgd, hD, hslot] at hw
theorem not_yet {a : Act} {γ : Nat → Value} {L : Nat → Bool} {w : World} (hH : Held D A R G a₀ γ L a w) {i j : Nat} (hA : A j i) (hl : L i = false) : L j = false := by
  cases h : L j with
  | false => rfl
  | true => rw [hH.closed j i hA h] at hl; cases hl
end

theorem more_ne {L : Nat → Bool} {i j : Nat} (h : j ≠ i) : more L i j = L j := by simp [more, h]
theorem more_self {L : Nat → Bool} {i : Nat} : more L i i = true := by simp [more]
theorem dst_free {ops : Array Oper} {t : Tmp} (h : (ops.toList.all fun o => decide (o.dst ≠ some t)) = true) : ∀ j, dstOf ops j ≠ some t := by
  intro j e
  obtain ⟨o, ho, hd⟩ := Option.bind_eq_some_iff.1 e
  have := (List.all_eq_true.1 h) o (List.mem_of_getElem? (by simpa using ho))
  simp [hd] at this

def putAll (v : Nat → Value) : List Oper → Nat → Act → Act
  | [], _, a => a
  | o :: r, n, a => putAll v r (n + 1) (a.put o.dst (v n))
theorem putAll_defers (v : Nat → Value) : ∀ (l : List Oper) (n : Nat) (a : Act), (putAll v l n a).defers = a.defers
  | [], _, _ => rfl
  | o :: r, n, a => by
    rw [putAll, putAll_defers v r]
    cases o.dst <;> simp [Act.put]
theorem putAll_other (v : Nat → Value) {t : Tmp} : ∀ (l : List Oper) (n : Nat) (a : Act), (∀ o ∈ l, o.dst ≠ some t) → (putAll v l n a).tmps[t]? = a.tmps[t]?
  | [], _, _, _ => rfl
  | o :: r, n, a, h => by
    rw [putAll, putAll_other v r _ _ (fun x hx => h x (List.mem_cons_of_mem _ hx))]
    have h0 := h o (by simp)
    cases hd : o.dst with
    | none => simp [Act.put]
    | some d =>
      have hne : d ≠ t := fun e => h0 (by rw [hd, e])
      simp only [Act.put]
      rw [Array.getElem?_setIfInBounds_ne hne]
theorem putAll_at (v : Nat → Value) {t : Tmp} : ∀ (l : List Oper) (n j : Nat) (o : Oper) (a : Act), (l.filterMap (·.dst)).Nodup → l[j]? = some o → o.dst = some t → t < a.tmps.size → (putAll v l n a).tmps[t]? = some (v (n + j))
  | [], _, _, _, _, _, h, _, _ => by simp at h
  | x :: r, n, 0, o, a, hn, h, hd, ht => by
    simp only [List.getElem?_cons_zero, Option.some.injEq] at h
    subst h
    rw [List.filterMap_cons, hd] at hn
    have hno := (List.nodup_cons.1 hn).1
    rw [putAll, putAll_other v r _ _ (fun o ho e => hno (List.mem_filterMap.2 ⟨o, ho, e⟩))]
    simp [Act.put, hd, ht]
  | x :: r, n, j + 1, o, a, hn, h, hd, ht => by
    have hr : (r.filterMap (·.dst)).Nodup := by
      rw [List.filterMap_cons] at hn
      cases hx : x.dst with
      | none => simpa [hx] using hn
      | some d => rw [hx] at hn; exact (List.nodup_cons.1 hn).2
    rw [putAll, putAll_at v r (n + 1) j o _ hr (by simpa using h) hd (by cases hx : x.dst <;> simpa [Act.put] using ht)]
    congr 2; omega
/-- Behind the region the frame is the first one with every value put where it belongs. -/
theorem held_act {ops : Array Oper} {A : Nat → Nat → Prop} {R : Nat → Value → World → Prop} {G : (Nat → Value) → (Nat → Bool) → World → Prop} {a₀ a : Act} {γ : Nat → Value} {L : Nat → Bool} {w : World}
    (h : Held (dstOf ops) A R G a₀ γ L a w) (hL : ∀ j, j < ops.size → L j = true) (hn : Once ops.toList = true) (hf : Fits ops.toList a₀.tmps.size = true) : a = putAll γ ops.toList 0 a₀ := by
  have hd : a.defers = (putAll γ ops.toList 0 a₀).defers := by rw [putAll_defers]; exact h.defers
  have ht : a.tmps = (putAll γ ops.toList 0 a₀).tmps := by
    apply Array.ext_getElem?
    intro t
    by_cases hx : ∃ (j : Nat) (o : Oper), ops.toList[j]? = some o ∧ o.dst = some t
    · obtain ⟨j, o, ho, hd⟩ := hx
      have hfit : t < a₀.tmps.size := by
        have := (List.all_eq_true.1 hf) o (List.mem_of_getElem? ho)
        simpa [hd] using this
      have ho' : ops[j]? = some o := by simpa using ho
      rw [putAll_at γ ops.toList 0 j o a₀ (of_decide_eq_true hn) ho hd hfit, Nat.zero_add]
      exact h.slot j t (by simp [dstOf, ho', hd]) (hL j (Array.getElem?_eq_some_iff.1 ho').1)
    · rw [putAll_other γ ops.toList 0 a₀ (fun o ho e => by
        obtain ⟨j, hj⟩ := List.getElem?_of_mem ho
        exact hx ⟨j, o, hj, e⟩)]
      refine h.rest t (fun j e => ?_)
      obtain ⟨o, ho, hd⟩ := Option.bind_eq_some_iff.1 e
      exact hx ⟨j, o, by simpa using ho, hd⟩
  cases a
  cases hp : putAll γ ops.toList 0 a₀
  rw [hp] at hd ht
  simp only at hd ht
  rw [hd, ht]

/-- A box that operation i makes and operation j fills. -/
def Pend (W0 : World) (T i j : Nat) (fin : Array Value) (γ : Nat → Value) (L : Nat → Bool) (w : World) : Prop :=
  L i = true → ∃ (b : Nat) (cs : Array Value), γ i = .pointer (some ⟨b, 0, none⟩) ∧ W0.heap.size ≤ b ∧ w.heap[b]? = some (.cells cs T (0, 0)) ∧ cs.size = fin.size ∧ (L j = true → cs = fin)
section
variable {W0 : World} {T i j : Nat} {fin : Array Value} {γ : Nat → Value} {L : Nat → Bool} {w w' : World}
theorem Pend.start (h : L i = false) : Pend W0 T i j fin γ L w := fun e => by rw [h] at e; cases e
theorem Pend.other (h : Pend W0 T i j fin γ L w) {k : Nat} (v : Value) (hi : i ≠ k) (hj : j ≠ k) : Pend W0 T i j fin (upd γ k v) (more L k) w := by
  intro hl
  rw [more_ne hi] at hl
  obtain ⟨b, cs, h1, h2, h3, h4, h5⟩ := h hl
  exact ⟨b, cs, by rw [upd_ne _ _ hi]; exact h1, h2, h3, h4, fun e => h5 (by rw [more_ne hj] at e; exact e)⟩
theorem Pend.below (h : Pend W0 T i j fin γ L w) (hb : Below w.heap.size w w') : Pend W0 T i j fin γ L w' := by
  intro hl
  obtain ⟨b, cs, h1, h2, h3, h4, h5⟩ := h hl
  exact ⟨b, cs, h1, h2, (hb.block b (Array.getElem?_eq_some_iff.1 h3).1).trans h3, h4, h5⟩
theorem Pend.made (cs : Array Value) (hs : cs.size = fin.size) (hw : W0.heap.size ≤ w.heap.size) (hj : L j = false) (hij : j ≠ i) : Pend W0 T i j fin (upd γ i (.pointer (some ⟨w.heap.size, 0, none⟩))) (more L i) (w.alloc (.cells cs T (0, 0))) := by
  intro _
  exact ⟨w.heap.size, cs, by rw [upd_self], hw, heap_alloc_new _ _, hs, fun e => by rw [more_ne hij, hj] at e; cases e⟩
theorem Pend.filled {b : Nat} (hi : γ i = .pointer (some ⟨b, 0, none⟩)) (hb : W0.heap.size ≤ b) (hx : w'.heap[b]? = some (.cells fin T (0, 0))) (hij : i ≠ j) (v : Value) : Pend W0 T i j fin (upd γ j v) (more L j) w' := by
  intro _
  exact ⟨b, fin, by rw [upd_ne _ _ hij]; exact hi, hb, hx, rfl, fun _ => rfl⟩
end
end RV
end Go.Proofs.YtompnibhfdkkjaaGreat
