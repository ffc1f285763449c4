/- A range over a function that tells so many things, the k-th of them known by its number; what makes each thing may turn one block. -/
import Derived.Test.YtfalniafkambmaaBNS0
import Derived.RangeFuncNested
import Derived.RangeFuncBound
import Derived.RangeFuncCalls
import Derived.RangeFuncLeaves
import Derived.RangeFuncBox
import Derived.Shelf.Abstract
import Derived.WalkKit
import Derived.OwnWalkIn
import Derived.TacticsInMore
import Derived.LoopNIn
import Derived.LoopIn
import Derived.LoopTactic
import Derived.ProofKit
import Derived.Handy
import Derived.Test.YtfalniafkambmaaProg
import Derived.RowKit
import Derived.Test.YtfalniafkambmaaBNS1
import Derived.Orders
import Derived.Below
import Derived.Laws.Rows
import Derived.Laws.MakeOwn
import Derived.Laws.OwnMore
import Derived.Maps.AppendAt
import Derived.Deep.RegionWith
import Derived.Deep.QuietTactic
import Derived.BigQuiet
import Derived.Deep.CutBlock
import Derived.Deep.CutRange
import Derived.Deep.LoopGhost
import Derived.Lib.SmallJoins
import Derived.OneCell
import Derived.WalkMore
import Derived.Lib.BufferMore
import Derived.Test.YtfalniafkambmaaBNS2
namespace Go.Proofs.Ytfalniafkambmaa
open Go.RowKit Go.Shelf
set_option linter.unusedVariables false

/-- The blocks of S are as they were. -/
structure KeepO (S : Nat → Prop) (V V' : World) : Prop where
  size : V.heap.size ≤ V'.heap.size
  block : ∀ b, S b → b < V.heap.size → V'.heap[b]? = V.heap[b]?
theorem KeepO.refl (S : Nat → Prop) (V : World) : KeepO S V V := ⟨Nat.le_refl _, fun _ _ _ => rfl⟩
theorem KeepO.trans {S : Nat → Prop} {A B C : World} (h : KeepO S A B) (k : KeepO S B C) : KeepO S A C :=
  ⟨Nat.le_trans h.size k.size, fun b hb hl => (k.block b hb (Nat.lt_of_lt_of_le hl h.size)).trans (h.block b hb hl)⟩
theorem KeepO.mono {S T : Nat → Prop} {A B : World} (h : KeepO S A B) (hT : ∀ b, T b → S b) : KeepO T A B := ⟨h.size, fun b hb hl => h.block b (hT b hb) hl⟩
theorem KeepO.grown {S : Nat → Prop} {A B : World} {row : Option Nat} (hg : A.grownBy B row) (hr : ∀ b, S b → some b ≠ row) : KeepO S A B := ⟨hg.size, fun b hb hl => hg.block b hl (hr b hb)⟩
theorem KeepO.put {S : Nat → Prop} {W : World} {l : Nat} (o' : Obj) (hl : ¬ S l) : KeepO S W (W.putObj l o') :=
  ⟨by simp, fun b hb _ => World.putObj_heap_other (fun e => hl (e ▸ hb))⟩
theorem KeepO.alloc (S : Nat → Prop) (W : World) (o : Obj) : KeepO S W (W.alloc o) := KeepO.grown (World.grownBy_alloc W o none) (fun b _ e => by cases e)
theorem KeepO.cell {S : Nat → Prop} {A B : World} (h : KeepO S A B) {q : Addr} {v : Value} (hq : S q.block) (hc : A.cell? q = some v) : B.cell? q = some v :=
  (World.cell?_of_block (w := A) (h.block _ hq (World.block_lt_of_cell? _ _ hc))).trans hc
theorem KeepO.frozen {S : Nat → Prop} {A B : World} (h : KeepO S A B) {q : Addr} {v : Value} (hq : S q.block) (hc : A.cell? q = some v) : B.frozen? q = A.frozen? q :=
  World.frozen?_of_block (w := A) (h.block _ hq (World.block_lt_of_cell? _ _ hc))

/-- An iterator's contract, under the wide fence: it tells N things, encs k the k-th; what makes them may turn the block row; St is the iterator's own state. -/
def TellsN (n : Nat) (P : Program) (g : Nat) (lb : Array Value) (encs : Nat → Array Value) (row : Option Nat) (S : Nat → Prop) (St : Nat → World → Prop) (N : Nat) (w : World) : Prop :=
  ∀ (l : Nat) (J Jx : Nat → World → Prop) (W : World), Below w.heap.size w W → OwnFrom W.heap.size J → OwnFrom W.heap.size Jx →
    (∀ k A B, J k A → A.grownBy B row → J k B) →
    (∀ k V, k < N → J k V → YieldAt Fence.wide (n - 1) P l (encs k) V fun e V' =>
      (e = .returned (.bool true) ∧ J (k + 1) V' ∧ KeepO S V V' ∧ KeepsFrom (w.heap.size + 2) V V') ∨ (e = .returned (.bool false) ∧ Jx (k + 1) V' ∧ KeepsFrom (w.heap.size + 2) V V')) →
    J 0 W → CallsIn Fence.wide n P g (#[.func (.yield l) #[] #[]] ++ lb) W fun e W' => (∃ v, e = .returned v) ∧ ((J N W' ∧ St N W') ∨ (∃ k, k < N ∧ Jx (k + 1) W'))

/-- What a round's body leaves. -/
def postN (B : Nat) (S : Nat → Prop) (I : Nat → World → Prop) (Ix : Code → Nat → World → Prop) (k : Nat) (W : World) : Exit → Act → World → Prop
  | .normal, _, W' => KeepsFrom B W W' ∧ KeepO S W W' ∧ I k W'
  | .ret, _, W' => KeepsFrom B W W' ∧ Ix .ret k W'
  | .exit id, _, W' => KeepsFrom B W W' ∧ Ix (.exit id) k W'
  | .goto t, _, W' => KeepsFrom B W W' ∧ Ix (.goto t) k W'
  | .panic _, _, _ => False
  | .outgrown, _, _ => False
/-- THE CALLER'S LAW. -/
theorem range_n {n : Nat} {P : Program} (h1 : 1 ≤ n) {g : Operand} {ps : Array Tmp} {assign body : Code} {Q : Exit → Act → World → Prop} {a : Act} {w : World} {gf : Nat} {lb : Array Value}
    (hg : a.eval g = .func (.func gf) #[] lb) (eg : ∀ args w, (callFunc gf args).run P w = .ok (.enter gf args) w)
    {encs : Nat → Array Value} {row : Option Nat} {S : Nat → Prop} {St : Nat → World → Prop} {N : Nat} (hseq : TellsN (n - 1) P gf lb encs row S St N w)
    (hS : ∀ b, S b → b < w.heap.size) (hrow : ∀ r, row = some r → r < w.heap.size) (hSt : OwnFrom w.heap.size St) (hps : ∀ k, (encs k).size = ps.size)
    (I : Nat → World → Prop) (Ix : Code → Nat → World → Prop) (hI : OwnFrom w.heap.size I) (hIx : ∀ c, OwnFrom w.heap.size (Ix c)) (hIr : ∀ k A B, I k A → A.grownBy B row → I k B) (h0 : I 0 w) (a₁ : Nat → Nat → Act) (ob : Nat → Option Obj)
    (hassign : ∀ (l k : Nat) (W : World) (nb : Nat) (K : Act → World → Prop), k < N → nb = W.heap.size → K (a₁ k nb) (al W (ob k)) →
      assign.wpIn (Fence.wide.inRound l) (n - 1 - 1) P (Exit.then K (fun _ _ _ => False)) { tmps := (ps.zip (encs k)).foldl (fun t (p, v) => t.setIfInBounds p v) a.tmps, defers := [] } W)
    (hbody : ∀ (l k : Nat) (W : World) (nb : Nat), k < N → I k W → w.heap.size ≤ nb → (∀ o, ob k = some o → W.heap[nb]? = some o) → body.wpIn (Fence.wide.inRound l) (n - 1 - 1) P (postN w.heap.size S I Ix (k + 1) W) (a₁ k nb) W)
    (hdone : ∀ (D : Nat) (W : World), w.heap.size ≤ D → I N W → St N W → W.heap[D]? = some (.deferred (some [])) → Q .normal { a with defers := { target := .collected D, args := #[] } :: a.defers } W)
    (hstop : ∀ (D : Nat) (c : Code) (k : Nat) (W : World), w.heap.size ≤ D → k < N → Ix c (k + 1) W → W.heap[D]? = some (.deferred (some [])) → c.wpIn Fence.wide n P Q { a with defers := { target := .collected D, args := #[] } :: a.defers } W) :
    (Code.rangeFunc g ps assign body).wpIn Fence.wide n P Q a w := by
  refine wpIn_rangeFunc fun fn hfn => ?_
  show ∃ _, _
  generalize hD : w.heap.size = D at *
  let R (st : LoopState) (pe : Option Code) : Loop := ⟨st, pe, fn, a.tmps, ps, assign, body, D⟩
  let V : World := (w.alloc (.deferred (some []))).alloc (.loop (R .ready none))
  have sV : V.heap.size = D + 2 := by simp [V, hD]
  have rV : V.heap[D + 1]? = some (.loop (R .ready none)) := by
    have := World.alloc_heap_new (w.alloc (.deferred (some []))) (.loop (R .ready none))
    rwa [World.size_alloc, hD] at this
  have dV : V.heap[D]? = some (.deferred (some [])) := by
    have := World.alloc_heap_new w (.deferred (some []))
    rw [hD] at this
    exact (Below.heap_alloc _ _ _ (by simp; omega)).trans this
  have iV : I 0 V := hI.alloc _ (hI.alloc _ h0)
  have bV : Below w.heap.size w V := ((Below.refl _ w).alloc (Nat.le_refl _) _).alloc (by simp) _
  have keep : ∀ {X Y : World} {row : Option Nat} {k : Nat} {o : Obj}, X.grownBy Y row → (∀ r, row = some r → V.heap.size ≤ r ∧ ∃ o : Obj, X.heap[r]? = some o ∧ o.isCells = false) → k < D + 2 → X.heap[k]? = some o → Y.heap[k]? = some o := by
    intro X Y row k o hXY hr hk hX
    refine (hXY.block k (Array.getElem?_eq_some_iff.1 hX).1 fun e => ?_).trans hX
    have := (hr k e.symm).1
    omega
  have turn : ∀ {X Y : World} {k : Nat} {o : Obj}, X.grownBy Y row → D ≤ k → X.heap[k]? = some o → Y.heap[k]? = some o := by
    intro X Y k o hXY hk hX
    refine (hXY.block k (Array.getElem?_eq_some_iff.1 hX).1 fun e => ?_).trans hX
    have := hrow k e.symm
    omega
  have wide : ∀ {X : World} {row : Option Nat}, (∀ r, row = some r → V.heap.size ≤ r ∧ ∃ o : Obj, X.heap[r]? = some o ∧ o.isCells = false) → ∀ r, row = some r → D ≤ r ∧ ∃ o : Obj, X.heap[r]? = some o ∧ o.isCells = false :=
    fun hr r e => ⟨by have := (hr r e).1; omega, (hr r e).2⟩
  have far0 : ∀ k, D ≤ k → ¬ S k := fun k hk hs => by have := hS k hs; omega
  refine ⟨D + 1, [{ target := .collected D, args := #[] }], V, { target := .fn (.func gf) lb, args := #[.func (.yield (D + 1)) #[] #[]] }, V, gf, #[.func (.yield (D + 1)) #[] #[]] ++ lb, V, ?_, ?_, fun _ _ => trivial, ?_, fun _ => h1, ?_⟩
  · have := run_enterLoop_outer (P := P) (w := w) fn a.tmps ps assign body
    rw [hD] at this
    exact this
  · simp only [resolve, hg]
    simp [go_sem]
  · simp [invoke, go_sem, eg]
  refine (hseq (D + 1) (fun k W => I k W ∧ W.heap[D + 1]? = some (.loop (R .ready none)) ∧ W.heap[D]? = some (.deferred (some [])))
    (fun k W => ∃ c, Ix c k W ∧ W.heap[D + 1]? = some (.loop (R .done (some c))) ∧ W.heap[D]? = some (.deferred (some []))) V (hD ▸ bV)
    (fun s A B row hs hAB hr => ⟨hI s A B row hs.1 hAB (wide hr), keep hAB hr (by omega) hs.2.1, keep hAB hr (by omega) hs.2.2⟩)
    (fun s A B row ⟨c, hs⟩ hAB hr => ⟨c, hIx c s A B row hs.1 hAB (wide hr), keep hAB hr (by omega) hs.2.1, keep hAB hr (by omega) hs.2.2⟩)
    (fun k A B hs hAB => ⟨hIr k A B hs.1 hAB, turn hAB (by omega) hs.2.1, turn hAB (by omega) hs.2.2⟩) ?_ ⟨iV, rV, dV⟩).mono ?_
  · -- a round
    rintro k X hk ⟨iX, rX, dX⟩
    have ltX : D + 1 < X.heap.size := (Array.getElem?_eq_some_iff.1 rX).1
    obtain ⟨X1, hX1⟩ : ∃ X1, X1 = al X (ob k) := ⟨_, rfl⟩
    have gX : X.grownBy X1 none := by
      rw [hX1]
      cases ob k with
      | none => exact ⟨rfl, rfl, rfl, Nat.le_refl _, fun _ _ _ => rfl⟩
      | some o => exact World.grownBy_alloc X o none
    have up : ∀ {j : Nat} {o : Obj}, X.heap[j]? = some o → X1.heap[j]? = some o := fun hX => (gX.block _ (Array.getElem?_eq_some_iff.1 hX).1 (fun e => by cases e)).trans hX
    have rX1 := up rX
    have dX1 := up dX
    have iX1 : I k X1 := hI k X X1 none iX gX (fun r e => by cases e)
    have ltX1 : D + 1 < X1.heap.size := (Array.getElem?_eq_some_iff.1 rX1).1
    have oX1 : ∀ o, ob k = some o → X1.heap[X.heap.size]? = some o := fun o e => by rw [hX1, e]; exact World.alloc_heap_new X o
    refine ⟨fn, _, assign, body, run_yield (P := P) (args := encs k) rX (hps k), roundIn_of_wpIn hfn (hassign _ k X _ _ hk rfl ?_)⟩
    rw [← hX1]
    refine ⟨_, run_beginRound rX1 rfl, ?_⟩
    let Y : World := X1.putObj (D + 1) (.loop { R .ready none with state := .busy })
    have rY : Y.heap[D + 1]? = some (.loop { R .ready none with state := .busy }) := World.putObj_heap_same ltX1
    have dY : Y.heap[D]? = some (.deferred (some [])) := (World.putObj_heap_other (by omega)).trans dX1
    have iY : I k Y := hI.putObj _ iX1 (by omega) rX1 rfl
    refine wpIn_mono (hbody _ k Y X.heap.size hk iY (by omega) (fun o e => (World.putObj_heap_other (by omega)).trans (oX1 o e))) ?_
    have far : ∀ (o : Obj) (Z : World), KeepsFrom D Y Z → KeepsFrom (D + 2) X (Z.putObj (D + 1) o) := fun o Z hZ =>
      ⟨by have h9 := hZ.size; have h8 := gX.size; simp [Y] at h9 ⊢; omega, fun j o' hj hX ho => (World.putObj_heap_other (by omega)).trans (hZ.same j o' (by omega) ((World.putObj_heap_other (by omega)).trans (up hX)) ho)⟩
    have ends : ∀ (jump : Option Code) (Z : World), KeepsFrom D Y Z → (Instr.endRound (D + 1) jump).run P Z = .ok (.bool jump.isNone) (Z.putObj (D + 1) (.loop (R (if jump.isNone then .ready else .done) jump))) ∧ Z.heap[D + 1]? = some (.loop { R .ready none with state := .busy }) ∧
        (Z.putObj (D + 1) (.loop (R (if jump.isNone then .ready else .done) jump))).heap[D + 1]? = some (.loop (R (if jump.isNone then .ready else .done) jump)) ∧ (Z.putObj (D + 1) (.loop (R (if jump.isNone then .ready else .done) jump))).heap[D]? = some (.deferred (some [])) := by
      intro jump Z hZ
      have rZ := hZ.same _ _ (by omega) rY rfl
      exact ⟨run_endRound (P := P) jump rZ, rZ, World.putObj_heap_same (Array.getElem?_eq_some_iff.1 rZ).1, (World.putObj_heap_other (by omega)).trans (hZ.same _ _ (Nat.le_refl _) dY rfl)⟩
    have left : ∀ (c : Code) (Z : World), KeepsFrom D Y Z → Ix c (k + 1) Z → ∃ v Z', (Instr.endRound (D + 1) (some c)).run P Z = .ok v Z' ∧ v = .bool false ∧ (∃ c, Ix c (k + 1) Z' ∧ Z'.heap[D + 1]? = some (.loop (R .done (some c))) ∧ Z'.heap[D]? = some (.deferred (some []))) ∧ KeepsFrom (D + 2) X Z' := by
      intro c Z hZ hx
      obtain ⟨e1, e2, e3, e4⟩ := ends (some c) Z hZ
      exact ⟨_, _, e1, rfl, ⟨c, (hIx c).putObj _ hx (by omega) e2 rfl, e3, e4⟩, far _ Z hZ⟩
    intro e a3 Z hp
    cases e with
    | normal =>
      obtain ⟨hZ, kZ, iZ⟩ := hp
      obtain ⟨e1, e2, e3, e4⟩ := ends none Z hZ
      have k0 : KeepO S X X1 := KeepO.grown gX (fun b _ e => by cases e)
      exact ⟨_, _, e1, Or.inl ⟨rfl, ⟨hI.putObj _ iZ (by omega) e2 rfl, e3, e4⟩, ((k0.trans (KeepO.put _ (far0 _ (by omega)))).trans kZ).trans (KeepO.put _ (far0 _ (by omega))), hD ▸ far _ Z hZ⟩⟩
    | ret => obtain ⟨v, Z', e1, e2, e3⟩ := left .ret Z hp.1 hp.2; exact ⟨v, Z', e1, Or.inr ⟨by rw [e2], e3.1, hD ▸ e3.2⟩⟩
    | exit id => obtain ⟨v, Z', e1, e2, e3⟩ := left (.exit id) Z hp.1 hp.2; exact ⟨v, Z', e1, Or.inr ⟨by rw [e2], e3.1, hD ▸ e3.2⟩⟩
    | goto t => obtain ⟨v, Z', e1, e2, e3⟩ := left (.goto t) Z hp.1 hp.2; exact ⟨v, Z', e1, Or.inr ⟨by rw [e2], e3.1, hD ▸ e3.2⟩⟩
    | panic ch => exact hp.elim
    | outgrown => exact hp.elim
  · rintro e X ⟨⟨v, rfl⟩, ⟨⟨iX, rX, dX⟩, hs⟩ | ⟨k, hk, c, iX, rX, dX⟩⟩
    · exact ⟨none, _, run_endLoop (P := P) rX (by simp [R]), hdone D _ (Nat.le_refl _) (hI.putObj _ iX (by omega) rX rfl) (hSt.putObj _ hs (by omega) rX rfl) ((World.putObj_heap_other (by omega)).trans dX)⟩
    · exact ⟨some c, _, run_endLoop (P := P) rX (by simp [R]), hstop D c k _ (Nat.le_refl _) hk ((hIx c).putObj _ iX (by omega) rX rfl) ((World.putObj_heap_other (by omega)).trans dX)⟩
end Go.Proofs.Ytfalniafkambmaa
namespace Go.Proofs.Ytfalniafkambmaa
set_option linter.unusedVariables false

theorem neg_by (p : Pt) (n : Int) : p.neg.by n = (p.by n).neg := by simp [Pt.neg, Pt.by, Int.neg_tdiv]
theorem neg_g (p : Pt) : p.neg.g = p.g := by simp [Pt.neg, Pt.g]
theorem neg_low (p : Pt) : p.neg.low = p.low.neg := by
  unfold Pt.low
  rw [neg_g]
  split
  · rfl
  · exact neg_by _ _
theorem neg_halveF (n : Nat) (p : Pt) : halveF n p.neg = (halveF n p).neg := by
  induction n generalizing p with
  | zero => rfl
  | succ n ih =>
    unfold halveF
    rw [neg_in]
    split
    · rfl
    · rw [neg_by, ih]
theorem neg_short (p : Pt) : p.neg.short = p.short.neg := by
  unfold Pt.short
  rw [neg_in]
  split
  · rw [neg_low]
    show (halveF 43 p.low.neg).low = _
    rw [neg_halveF, neg_low]; rfl
  · rfl
end Go.Proofs.Ytfalniafkambmaa
namespace Go.Proofs.Ytfalniafkambmaa
open Go.RowKit Go.Shelf
set_option linter.unusedVariables false

theorem set4_size (W : World) (b : Nat) (v0 v1 v2 v3 : Value) : (set4 W b v0 v1 v2 v3).heap.size = W.heap.size := by simp [set4, World.setCell]
end Go.Proofs.Ytfalniafkambmaa
namespace Go.Proofs.Ytfalniafkambmaa
open Go.RowKit Go.Shelf
set_option linter.unusedVariables false

set_option maxHeartbeats 1000000 in
theorem pplus_any (p q : Pt) (w : World) :
    Calls Try.prog 24 #[p.v, q.v] w fun e W => e = .returned (p.plus q).v ∧ Below w.heap.size w W := by
  obtain ⟨x, y, z⟩ := p
  obtain ⟨x', y', z'⟩ := q
  unfold Pt.v Pt.plus
  dsimp only at *
  obtain ⟨s1, h1⟩ : ∃ s, IntKind.i64.wrap (x + x') = s := ⟨_, rfl⟩
  obtain ⟨s2, h2⟩ : ∃ s, IntKind.i64.wrap (y + y') = s := ⟨_, rfl⟩
  obtain ⟨s3, h3⟩ : ∃ s, IntKind.i64.wrap (z + z') = s := ⟨_, rfl⟩
  rw [h1, h2, h3]
  go_enter Try.func24, Try.ntmps24
  go_wp2
  exact bodyPost_ret (v := .agg #[.int .i64 s1, .int .i64 s2, .int .i64 s3]) (by simp [results, Try.results24, go_sem]) rfl ⟨rfl, b_step (b_step (n_after w _) (n_after _ _)) (n_after _ _)⟩
end Go.Proofs.Ytfalniafkambmaa
namespace Go.Proofs.Ytfalniafkambmaa
open Go.RowKit Go.Shelf
attribute [local go_sem] Oper.semAt_some
set_option linter.unusedVariables false

set_option maxHeartbeats 1000000 in
theorem each_in_pt (o : Option Addr) (n c gf : Nat) (bs cs : Array Value) (w : World) : Calls Try.prog 26 #[.slice o n c, .func (.func gf) bs cs] w fun e w' => e = .returned (.func (.func 55) #[] #[.pointer (some ⟨w.heap.size, 0, none⟩), .pointer (some ⟨w.heap.size + 1, 0, none⟩)]) ∧ w' = (w.alloc (.cells #[.slice o n c] 24)).alloc (.cells #[.func (.func gf) bs cs] 67) := by
  go_enter Try.func26, Try.ntmps26
  go_wp2
  go_ret
  exact ⟨rfl, rfl⟩

set_option maxRecDepth 100000 in
set_option maxHeartbeats 4000000 in
theorem each_tells_pt (n : Nat) (Bp Bf : Nat) (Ls : List Pt) (o : Option Addr) (cap gf : Nat) (bs cs : Array Value) (enc : Nat → Value) (row : Option Nat) (S : Nat → Prop) (St : Nat → World → Prop) (w : World)
    (eg : ∀ args w, (callFunc gf args).run Try.prog w = .ok (.enter gf args) w)
    (hv : Lies w (.slice o Ls.length cap) Ls) (cp : w.cell? ⟨Bp, 0, none⟩ = some (.slice o Ls.length cap)) (cf : w.cell? ⟨Bf, 0, none⟩ = some (.func (.func gf) bs cs))
    (hSv : ∀ q, o = some q → Ls ≠ [] → S q.block ∧ some q.block ≠ row) (hSf : S Bf ∧ some Bf ≠ row) (hS : ∀ b, S b → b < w.heap.size)
    (hst0 : ∀ W, Below w.heap.size w W → St 0 W) (hstS : ∀ k A B, St k A → KeepO S A B → St k B)
    (hb : ∀ k V, k < Ls.length → St k V → Calls Try.prog gf (bs.push (pt Ls k).v ++ cs) V fun e V' => e = .returned (enc k) ∧ V.grownBy V' row ∧ St (k + 1) V') :
    TellsN n Try.prog 55 #[.pointer (some ⟨Bp, 0, none⟩), .pointer (some ⟨Bf, 0, none⟩)] (fun k => #[enc k]) row S St Ls.length w := by
  intro l J Jx W hB hJ hJx hJr hY h0
  have cp' := c_after hB cp
  have cf' := c_after hB cf
  have hv' := hv.below hB
  obtain ⟨o', cap', ee, hlc, hcm, hcell⟩ := hv'.form
  simp only [Value.slice.injEq, true_and] at ee
  obtain ⟨rfl, rfl⟩ := ee
  have HC : Hid _ := hcell
  have st0 := hst0 W hB
  clear hv hv' hcell cp cf hst0
  refine callsIn_of_wp Try.func55 rfl trivial ?_ rfl
  simp only [Try.ntmps55, List.size_toArray, List.length_cons, List.length_nil, Nat.reduceAdd, Nat.reduceSub, Array.replicate_succ, Array.replicate_zero, List.push_toArray, List.append_toArray, List.nil_append, List.cons_append]
  gi_wp2
  gi_loopw [8] (fun i wr => ∃ k : Nat, k ≤ Ls.length ∧ i = .int .i64 k ∧ Hid (J k wr) ∧ Hid (St k wr) ∧ Hid (KeepO (fun b => S b ∧ some b ≠ row) W wr))
    (fun i _ => Ls.length - (intOf i).toNat)
  case atStart => exact ⟨0, Nat.zero_le _, rfl, h0, st0, KeepO.refl _ _⟩
  case round =>
    obtain ⟨k, hk, rfl, hJk, hSk, hKk⟩ := hrel
    by_cases hlt : k < Ls.length
    · obtain ⟨g, off, rfl, x0, x1, x2⟩ := HC.out k hlt
      have hSg := hSv _ rfl (fun e => by rw [e] at hlt; simp at hlt)
      have y0 := hKk.out.cell (q := ⟨g, off + k * 3, none⟩) hSg x0
      have y1 := hKk.out.cell (q := ⟨g, off + k * 3 + 1, none⟩) hSg x1
      have y2 := hKk.out.cell (q := ⟨g, off + k * 3 + 2, none⟩) hSg x2
      have cf2 := hKk.out.cell (q := ⟨Bf, 0, none⟩) hSf cf'
      have HA : Hid _ := KeepO.alloc S wr (.cells #[.int .i64 (pt Ls k).x, .int .i64 (pt Ls k).y, .int .i64 (pt Ls k).z] 23)
      have hJ1 : Hid (J k (wr.alloc (.cells #[.int .i64 (pt Ls k).x, .int .i64 (pt Ls k).y, .int .i64 (pt Ls k).z] 23))) := hJ.alloc _ hJk.out
      have hbk : Hid (Calls Try.prog gf (bs.push (.agg #[.int .i64 (pt Ls k).x, .int .i64 (pt Ls k).y, .int .i64 (pt Ls k).z]) ++ cs) (wr.alloc (.cells #[.int .i64 (pt Ls k).x, .int .i64 (pt Ls k).y, .int .i64 (pt Ls k).z] 23)) fun e V' => e = .returned (enc k) ∧ (wr.alloc (.cells #[.int .i64 (pt Ls k).x, .int .i64 (pt Ls k).y, .int .i64 (pt Ls k).z] 23)).grownBy V' row ∧ St (k + 1) V') := hb k _ hlt (hstS k _ _ hSk.out HA.out)
      have cf3 := c_after (n_after wr (.cells #[.int .i64 (pt Ls k).x, .int .i64 (pt Ls k).y, .int .i64 (pt Ls k).z] 23)) cf2
      clear x0 x1 x2
      generalize (pt Ls k).x = px at *
      generalize (pt Ls k).y = py at *
      generalize (pt Ls k).z = pz at *
      gi_wp2
      refine ⟨trivial, fun h => (by cases h), (callsIn_wide.2 hbk.out).mono ?_⟩
      rintro e V1 ⟨rfl, g1, s1⟩
      have hJ2 := hJr k _ _ hJ1.out g1
      obtain ⟨fn, tmps, assign, body, hy, hR⟩ := hY k V1 hlt hJ2
      have k1 : Hid (KeepO (fun b => S b ∧ some b ≠ row) W V1) := (hKk.out.trans (HA.out.mono (fun b h => h.1))).trans (KeepO.grown g1 (fun b h => h.2))
      clear y0 y1 y2 cf2 cf3 hbk HA hJ1
      gi_wp2
      refine ⟨fun h => (by cases h), hR.mono ?_⟩
      rintro e W3 (⟨rfl, hJ3, hk3, _⟩ | ⟨rfl, hJx3, _⟩)
      · gi_wp2
        go_roundw
        case rel => exact ⟨k + 1, by omega, by simp, hJ3, hstS _ _ _ s1 hk3, k1.out.trans (hk3.mono (fun b h => h.1))⟩
        case measure => simp [intOf]; omega
      · gi_wp2
        refine bodyPost_ret (results_none rfl _ _ _) rfl ?_
        exact ⟨⟨_, rfl⟩, .inr ⟨k, hlt, hJx3⟩⟩
    · obtain rfl : k = Ls.length := by omega
      gi_wp2
      go_end0
      exact ⟨⟨_, rfl⟩, .inl ⟨hJk.out, hSk.out⟩⟩
end Go.Proofs.Ytfalniafkambmaa
namespace Go.Proofs.Ytfalniafkambmaa
open Go.RowKit Go.Shelf
set_option linter.unusedVariables false

theorem Cells.keepO {S : Nat → Prop} {A B : World} {b : Nat} {vs : List Value} (h : Cells A b vs) (hk : KeepO S A B) (hb : S b) : Cells B b vs := fun i v e =>
  ⟨hk.cell (q := ⟨b, i, none⟩) hb (h i v e).1, (hk.frozen (q := ⟨b, i, none⟩) hb (h i v e).1).trans (h i v e).2⟩
end Go.Proofs.Ytfalniafkambmaa
namespace Go.Proofs.Ytfalniafkambmaa
open Go.RowKit Go.Shelf
attribute [local go_sem] Oper.semAt_some
set_option linter.unusedVariables false

theorem row_own {A B : World} {base e size n k : Nat} {u : Value} {xs : List Value} {row : Option Nat} (h : A.ownsRow base e size u k xs) (hg : A.grownBy B row) (hr : ∀ r, row = some r → n ≤ r ∧ ∃ o : Obj, A.heap[r]? = some o ∧ o.isCells = false) : B.ownsRow base e size u k xs := by
  refine h.kept hg ?_
  rcases h.2 with ⟨rfl, _⟩ | ⟨g, cap, cur, rfl, _, hgb, _⟩
  · exact .inl rfl
  · refine .inr (fun e => ?_)
    obtain ⟨_, o, ho, hc⟩ := hr g (by rw [← e]; rfl)
    rw [hgb] at ho; cases ho; cases hc
theorem box_own {A B : World} {b : Nat} {t : TypeId} {v : Value} {n : Nat} {row : Option Nat} (h : Boxed A b t v) (hg : A.grownBy B row) (hr : ∀ r, row = some r → n ≤ r ∧ ∃ o : Obj, A.heap[r]? = some o ∧ o.isCells = false) : Boxed B b t v :=
  h.kept hg (fun e => by obtain ⟨_, o, ho, hc⟩ := hr b e.symm; rw [show A.heap[b]? = _ from h] at ho; cases ho; cases hc)
theorem grown_le {w A B : World} {row r2 : Option Nat} (h : w.grownBy A row) (hg : A.grownBy B r2) (hr : ∀ r, r2 = some r → w.heap.size ≤ r ∨ row = some r) : w.grownBy B row :=
  ⟨hg.os.trans h.os, hg.tape.trans h.tape, hg.output.trans h.output, Nat.le_trans h.size hg.size, fun k hk hn => (hg.block k (Nat.lt_of_lt_of_le hk h.size) (fun e => by
    rcases hr k e.symm with h9 | h9
    · omega
    · exact hn h9.symm)).trans (h.block k hk hn)⟩

/-- What stands while a list of points is written: the list's box, its row (no block of it below n); what makes them may turn the block row. -/
structure OutP (w V : World) (n : Nat) (row : Option Nat) (S : Nat) (u : Value) (M : List Pt) : Prop where
  box : Boxed V S 24 u
  own : V.ownsRow n 23 3 u M.length (fl3 M)
  grown : w.grownBy V row
  le : w.heap.size ≤ S
  ln : w.heap.size ≤ n
  sz : n ≤ V.heap.size
theorem OutP.kept {w A B : World} {n : Nat} {row r2 : Option Nat} {S n2 : Nat} {u : Value} {M : List Pt} (h : OutP w A n row S u M) (hn : w.heap.size ≤ n2) (hg : A.grownBy B r2) (hr : ∀ r, r2 = some r → n2 ≤ r ∧ ∃ o : Obj, A.heap[r]? = some o ∧ o.isCells = false) : OutP w B n row S u M :=
  ⟨box_own h.box hg hr, row_own h.own hg hr, grown_le h.grown hg (fun r e => .inl (by have := (hr r e).1; omega)), h.le, h.ln, Nat.le_trans h.sz hg.size⟩
theorem OutP.turn {w A B : World} {n : Nat} {row : Option Nat} {S : Nat} {u : Value} {M : List Pt} (h : OutP w A n row S u M) (hg : A.grownBy B row) (hr : ∀ r, row = some r → r < w.heap.size) : OutP w B n row S u M :=
  ⟨h.box.kept hg (fun e => by have := hr S e.symm; have := h.le; omega), row_turn h.own hg (fun r e => by have := hr r e; have := h.ln; omega), grown_le h.grown hg (fun r e => .inr e), h.le, h.ln, Nat.le_trans h.sz hg.size⟩
theorem OutP.alloc {w A : World} {n : Nat} {row : Option Nat} {S : Nat} {u : Value} {M : List Pt} (h : OutP w A n row S u M) (o : Obj) : OutP w (A.alloc o) n row S u M := h.kept (n2 := w.heap.size) (Nat.le_refl _) (World.grownBy_alloc A o none) (fun r e => by cases e)
theorem OutP.app {w A B : World} {n : Nat} {row : Option Nat} {S : Nat} {u u' : Value} {M : List Pt} {p : Pt} (h : OutP w A n row S u M) (hr : B.ownsRow n 23 3 u' (M.length + 1) (fl3 M ++ [.int .i64 p.x, .int .i64 p.y, .int .i64 p.z])) (hg : A.grownBy B u.ownBlock) :
    OutP w (B.setCell ⟨S, 0, none⟩ u') n row S u' (M ++ [p]) ∧ Boxed B S 24 u := by
  have hbx : Boxed B S 24 u := h.box.kept hg (h.box.not_row (by decide) h.own)
  have gs : B.grownBy (B.setCell ⟨S, 0, none⟩ u') (some S) := ⟨rfl, rfl, rfl, by simp [World.setCell], fun k _ hk => Below.heap_setCell _ _ _ k (fun e => hk (by rw [e]))⟩
  refine ⟨⟨hbx.set _, ?_, ?_, h.le, h.ln, ?_⟩, hbx⟩
  · have : fl3 (M ++ [p]) = fl3 M ++ [.int .i64 p.x, .int .i64 p.y, .int .i64 p.z] := by rw [fl3_append]; rfl
    rw [this, List.length_append]
    exact hr.kept gs (Or.inr (fun e => hbx.not_row (by decide) hr e.symm))
  · exact grown_le (grown_le h.grown hg (fun r e => .inl (by have := (h.own.lt r e).1; have := h.ln; omega))) gs (fun r e => .inl (by cases e; exact h.le))
  · have h1 := hg.size; have h2 := h.sz; have h3 := gs.size; omega
theorem OutP.keepsFrom {w A B : World} {n : Nat} {row : Option Nat} {S : Nat} {u u' : Value} {M : List Pt} (h : OutP w A n row S u M) (hg : A.grownBy B u.ownBlock) (n2 : Nat) : KeepsFrom n2 A (B.setCell ⟨S, 0, none⟩ u') := by
  refine KeepsFrom.trans ((KeepsOthers.of_grownBy hg (fun j o e ho => ?_)).from _) ((KeepsOthers.setCell _ _ _).from _)
  rcases h.own.2 with ⟨rfl, _⟩ | ⟨g, cap, cur, rfl, _, hgb, _⟩
  · cases e
  · have : g = j := by simpa [Value.ownBlock] using e
    subst this
    rw [hgb] at ho; cases ho; rfl
theorem OutP.keep {w A B : World} {n : Nat} {row : Option Nat} {S : Nat} {u u' : Value} {M : List Pt} (h : OutP w A n row S u M) (hg : A.grownBy B u.ownBlock) {T : Nat → Prop} (hT : ∀ b, T b → b ≠ S ∧ b < n) : KeepO T A (B.setCell ⟨S, 0, none⟩ u') :=
  (KeepO.grown hg (fun b hb e => by have := (h.own.lt b e.symm).1; have := (hT b hb).2; omega)).trans ⟨by simp [World.setCell], fun b hb _ => Below.heap_setCell _ _ _ b (hT b hb).1⟩

set_option maxRecDepth 100000 in
set_option maxHeartbeats 4000000 in
theorem gathered_any (gf : Nat) (lb : Array Value) (enc : Nat → Pt) (row : Option Nat) (S : Nat → Prop) (St : Nat → World → Prop) (N : Nat) (w : World) (eg : ∀ args w, (callFunc gf args).run Try.prog w = .ok (.enter gf args) w)
    (hT : ∀ W, Below w.heap.size w W → TellsN 8 Try.prog gf lb (fun k => #[(enc k).v]) row S St N W) (hS : ∀ b, S b → b < w.heap.size) (hrow : ∀ r, row = some r → r < w.heap.size)
    (hSt : ∀ k A B r2, St k A → A.grownBy B r2 → (∀ r, r2 = some r → w.heap.size ≤ r) → St k B) (hN : N < 1099511627776) :
    Calls Try.prog 25 #[.func (.func gf) #[] lb] w fun e W => ∃ u, e = .returned u ∧ W.ownsRow w.heap.size 23 3 u N (fl3 (firsts enc N)) ∧ w.grownBy W row ∧ St N W := by
  refine (callsIn_wide (n := 9)).1 ?_
  have h1 : 1 ≤ 9 := by omega
  obtain ⟨i0, hii, hiz, hisz, hib⟩ := info_parts point_info
  have HI : Hid _ := And.intro hii (And.intro hiz (And.intro hisz hib))
  clear hii hiz hisz hib
  refine callsIn_of_wp_marks Try.func25 rfl trivial ?_ rfl
  simp only [Try.ntmps25, List.size_toArray, List.length_cons, List.length_nil, Nat.reduceAdd, Nat.reduceSub, Array.replicate_succ, Array.replicate_zero, List.push_toArray, List.append_toArray, List.nil_append, List.cons_append]
  gi_wp2
  obtain ⟨S0, hS0⟩ : ∃ n, n = w.heap.size := ⟨_, rfl⟩
  obtain ⟨W0, hW0⟩ : ∃ W0, W0 = w.alloc (.cells #[.slice none 0 0] 24) := ⟨_, rfl⟩
  have hsz : W0.heap.size = S0 + 1 := by rw [hW0, hS0]; simp
  have hB0 : Hid (Below w.heap.size w W0) := by show Below _ _ _; rw [hW0]; exact n_after _ _
  have bx0 : Boxed W0 S0 24 (.slice none 0 0) := by rw [hW0, hS0]; exact Boxed.new w _ _
  rw [← hW0, ← hS0]
  have hSl : w.heap.size = S0 := hS0.symm
  clear hW0 hS0
  refine' range_n h1 (gf := gf) (lb := lb) rfl eg (S := S) (St := St) (hT W0 hB0.out) (fun b h => by have := hS b h; omega) (fun r e => by have := hrow r e; omega) (fun k A B r2 hs hg hr => hSt k A B r2 hs hg (fun r e => by have := (hr r e).1; omega)) (fun _ => rfl)
    (fun k V => ∃ u, OutP w V W0.heap.size row S0 u (firsts enc k)) (fun _ _ _ => False)
    (fun k A B r2 hs hg hr => hs.elim fun u h => ⟨u, h.kept (by omega) hg hr⟩) (fun _ _ _ _ _ hs _ _ => hs)
    (fun k A B hs hg => hs.elim fun u h => ⟨u, h.turn hg hrow⟩) ⟨_, bx0, World.ownsRow_nil _ _ _ _, below_grown hB0.out row, by omega, by omega, Nat.le_refl _⟩ _ (fun k => some (.cells #[.int .i64 (enc k).x, .int .i64 (enc k).y, .int .i64 (enc k).z] 23)) ?assign ?body ?done ?stop
  case assign =>
    intro l k W nb K hk hnb hK
    unfold Pt.v
    gi_wp2
    rw [← hnb]
    exact hK
  case body =>
    rintro l k V nb hk ⟨u, hO⟩ hnb hob
    have hob := hob _ rfl
    have hlp : (firsts enc k).length < 1099511627776 := by rw [firsts_length]; omega
    have b0 : V.cell? ⟨nb, 0, none⟩ = some (.int .i64 (enc k).x) := by simp [World.cell?, hob]
    have b1 : V.cell? ⟨nb, 1, none⟩ = some (.int .i64 (enc k).y) := by simp [World.cell?, hob]
    have b2 : V.cell? ⟨nb, 2, none⟩ = some (.int .i64 (enc k).z) := by simp [World.cell?, hob]
    have hc := hO.box.cell
    have hSV : S0 < V.heap.size := hO.box.lt
    have hwV : W0.heap.size ≤ V.heap.size := hO.sz
    obtain ⟨oo, cc, hu⟩ := rowp_form hO.own
    subst hu
    have HPA : Hid (firsts enc (k + 1) = firsts enc k ++ [⟨(enc k).x, (enc k).y, (enc k).z⟩]) := firsts_succ enc k
    have HO : Hid _ := hO
    clear hO hob
    generalize (enc k).x = px at *
    generalize (enc k).y = py at *
    generalize (enc k).z = pz at *
    gi_wp2_with (gi_at_builtin; refine wpListIn_append_own _ rfl _ _ 24 rfl W0.heap.size 23 i0 _ 3 24 Try.underlying24 HI.out.1 HI.out.2.1 HI.out.2.2.1 HI.out.2.2.2 rfl (by decide) _ _ _ rfl (HO.out.alloc (.cells #[.int .i64 px, .int .i64 py, .int .i64 pz] 23)).own ⟨V.heap.size, 0, none⟩ 1 1 [.int .i64 px, .int .i64 py, .int .i64 pz] rfl rfl (news_at (heap_alloc_new V _)) (by intro u hu; simp at hu; rcases hu with rfl | rfl | rfl <;> rfl) (by unfold maxLen; omega) (by omega) (by simp; omega) ?_; intro u' V2 r8 g8 _; obtain ⟨gg8, kk8, rfl⟩ := ownsRow_succ r8; obtain ⟨hO2, hbx2⟩ := (HO.out.alloc (.cells #[.int .i64 px, .int .i64 py, .int .i64 pz] 23)).app (p := ⟨px, py, pz⟩) r8 g8; have q1 := hbx2.cell; have q2 := hbx2.frozen)
    rw [← HPA.out] at hO2
    exact ⟨((KeepsOthers.alloc V _).from _).trans ((HO.out.alloc _).keepsFrom g8 _), (KeepO.alloc _ V _).trans ((HO.out.alloc _).keep g8 (fun b hb => ⟨by have := hS b hb; omega, by have := hS b hb; omega⟩)), _, hO2⟩
  case done =>
    rintro D V hD ⟨u, hO⟩ hs hK
    have hc := hO.box.cell
    gi_wp2
    refine ⟨by simp, .inl ⟨_, _, rfl, run_takeDeferred hK, ?_⟩⟩
    have hO2 := hO.kept (n2 := w.heap.size) (Nat.le_refl _) (grownBy_putObj' V D (.deferred none)) (fun r e => by cases e; exact ⟨by omega, _, hK, rfl⟩)
    have hr2 := own_le hO2.own hO2.ln
    rw [firsts_length] at hr2
    exact ⟨_, results_tmp rfl _ _ _, u, rfl, hr2, hO2.grown, hSt N V _ _ hs (grownBy_putObj' V D (.deferred none)) (fun r e => by cases e; omega)⟩
  case stop =>
    rintro D c k V _ _ h _
    exact h.elim
end Go.Proofs.Ytfalniafkambmaa
namespace Go.Proofs.Ytfalniafkambmaa
open Go.RowKit Go.Shelf
set_option linter.unusedVariables false

theorem apart_new {w w' : World} {u u' : Value} {n b b' : Nat} {xs ys : List Value} {k : Nat} (h : w.ownsRow b 23 3 u n xs) (h' : w'.ownsRow w.heap.size 23 3 u' k ys) : ∀ j, u.ownBlock = some j → u'.ownBlock ≠ some j := fun j e e' => by
  have := (h.lt j e).2; have := (h'.lt j e').1; omega
end Go.Proofs.Ytfalniafkambmaa
