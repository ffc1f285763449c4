/- A range over a function that tells a list of points and is never told to stop; what goes through it keeps the cells of the blocks S. -/
import Derived.RangeFuncNested
import Derived.RangeFuncBound
import Derived.RangeFuncCalls
import Derived.RangeFuncLeaves
import Derived.RangeFuncBox
import Derived.Shelf.Abstract
import Derived.WalkKit
import Derived.OwnWalkIn
import Derived.TacticsInMore
import Derived.LoopNIn
import Derived.LoopIn
import Derived.LoopTactic
import Derived.ProofKit
import Derived.Handy
import Derived.Test.YtbhdfjoagajipaaGreatBBW0
namespace Go.Proofs.YtbhdfjoagajipaaGreat
open Go.RowKit Go.Shelf
set_option linter.unusedVariables false

/-- The cells that are there of the blocks S are as they were. -/
structure KeepC (S : Nat → Prop) (V V' : World) : Prop where
  size : V.heap.size ≤ V'.heap.size
  cell : ∀ (q : Addr) (v : Value), S q.block → V.cell? q = some v → V'.cell? q = some v
theorem KeepC.refl (S : Nat → Prop) (V : World) : KeepC S V V := ⟨Nat.le_refl _, fun _ _ _ h => h⟩
theorem KeepC.trans {S : Nat → Prop} {A B C : World} (h : KeepC S A B) (k : KeepC S B C) : KeepC S A C := ⟨Nat.le_trans h.size k.size, fun q v hq hv => k.cell q v hq (h.cell q v hq hv)⟩
theorem KeepC.mono {S T : Nat → Prop} {A B : World} (h : KeepC S A B) (hT : ∀ b, T b → S b) : KeepC T A B := ⟨h.size, fun q v hq hv => h.cell q v (hT _ hq) hv⟩
theorem KeepC.below {S : Nat → Prop} {A B : World} (h : Below A.heap.size A B) : KeepC S A B := ⟨h.size, fun _ _ _ hv => c_after h hv⟩
theorem KeepC.grown {S : Nat → Prop} {A B : World} (h : A.grownBy B none) : KeepC S A B := ⟨h.size, fun q v _ hv => h.cell hv (fun e => by cases e)⟩
theorem KeepC.put {S : Nat → Prop} {W : World} {l : Nat} {o : Obj} (o' : Obj) (hl : W.heap[l]? = some o) (hc : o.isCells = false) : KeepC S W (W.putObj l o') :=
  ⟨by simp, fun q v _ hv => by
    have hne : q.block ≠ l := fun e => by
      unfold World.cell? at hv
      rw [e, hl] at hv
      cases o <;> simp_all [Obj.isCells]
    exact (World.cell?_of_block (w := W) (World.putObj_heap_other hne)).trans hv⟩
theorem Lies.keepC {S : Nat → Prop} {A B : World} {v : Value} {L : List Pt} (h : Lies A v L) (k : KeepC S A B) (hS : ∀ q n c, v = .slice (some q) n c → L ≠ [] → S q.block) : Lies B v L := by
  obtain ⟨o, cap, rfl, h1, h2, h3⟩ := h.form
  refine ⟨⟨o, cap, rfl, h1, h2, fun i hi => ?_⟩⟩
  obtain ⟨g, off, rfl, x0, x1, x2⟩ := h3 i hi
  have hs : S g := hS _ _ _ rfl (fun e => by rw [e] at hi; simp at hi)
  exact ⟨g, off, rfl, k.cell _ _ hs x0, k.cell _ _ hs x1, k.cell _ _ hs x2⟩
theorem own_step {n : Nat} {J : Nat → World → Prop} (hJ : OwnFrom n J) {k : Nat} {A B : World} (h : J k A) (hb : Below A.heap.size A B) : J k B :=
  hJ k A B none h (below_grown hb none) (fun r e => by cases e)

/-- An iterator's contract, under the wide fence: it tells the points of T, one after the other, to somebody who never stops it. -/
def TellsT (n : Nat) (P : Program) (g : Nat) (lb : Array Value) (T : List Pt) (S : Nat → Prop) (w : World) : Prop :=
  ∀ (l : Nat) (J : Nat → World → Prop) (W : World), Below w.heap.size w W → OwnFrom W.heap.size J →
    (∀ k V, k < T.length → J k V → YieldAt Fence.wide (n - 1) P l #[(pt T k).v] V fun e V' => e = .returned (.bool true) ∧ J (k + 1) V' ∧ KeepC S V V' ∧ KeepsFrom (w.heap.size + 2) V V') →
    J 0 W → CallsIn Fence.wide n P g (#[.func (.yield l) #[] #[]] ++ lb) W fun e W' => (∃ v, e = .returned v) ∧ J T.length W'

/-- What a round's body leaves. -/
def postT (B : Nat) (S : Nat → Prop) (I : Nat → World → Prop) (k : Nat) (W : World) : Exit → Act → World → Prop
  | .normal, _, W' => KeepsFrom B W W' ∧ KeepC S W W' ∧ I k W'
  | _, _, _ => False

/-- THE CALLER'S LAW. -/
theorem range_t {n : Nat} {P : Program} (h1 : 1 ≤ n) {g : Operand} {ps : Array Tmp} {assign body : Code} {Q : Exit → Act → World → Prop} {a : Act} {w : World} {gf : Nat} {lb : Array Value}
    (hg : a.eval g = .func (.func gf) #[] lb) (eg : ∀ args w, (callFunc gf args).run P w = .ok (.enter gf args) w)
    {T : List Pt} {S : Nat → Prop} (hseq : TellsT (n - 1) P gf lb T S w) (hps : ps.size = 1)
    (I : Nat → World → Prop) (hI : OwnFrom w.heap.size I) (h0 : I 0 w) (a₁ : Nat → Nat → Act) (tp : TypeId)
    (hassign : ∀ (l k : Nat) (W : World) (nb : Nat) (K : Act → World → Prop), k < T.length → nb = W.heap.size → K (a₁ k nb) (W.alloc (.cells #[.int .i64 (pt T k).x, .int .i64 (pt T k).y, .int .i64 (pt T k).z] tp)) →
      assign.wpIn (Fence.wide.inRound l) (n - 1 - 1) P (Exit.then K (fun _ _ _ => False)) { tmps := (ps.zip #[(pt T k).v]).foldl (fun t (p, v) => t.setIfInBounds p v) a.tmps, defers := [] } W)
    (hbody : ∀ (l k : Nat) (W : World) (nb : Nat), k < T.length → (∀ Z : World, W.grownBy Z (some nb) → I k Z) → w.heap.size ≤ nb → W.heap[nb]? = some (.cells #[.int .i64 (pt T k).x, .int .i64 (pt T k).y, .int .i64 (pt T k).z] tp) → body.wpIn (Fence.wide.inRound l) (n - 1 - 1) P (postT w.heap.size (fun b => S b ∧ b ≠ nb) I (k + 1) W) (a₁ k nb) W)
    (hdone : ∀ (D : Nat) (W : World), w.heap.size ≤ D → I T.length W → W.heap[D]? = some (.deferred (some [])) → Q .normal { a with defers := { target := .collected D, args := #[] } :: a.defers } W) :
    (Code.rangeFunc g ps assign body).wpIn Fence.wide n P Q a w := by
  refine wpIn_rangeFunc fun fn hfn => ?_
  show ∃ _, _
  generalize hD : w.heap.size = D at *
  let R (st : LoopState) (pe : Option Code) : Loop := ⟨st, pe, fn, a.tmps, ps, assign, body, D⟩
  let V : World := (w.alloc (.deferred (some []))).alloc (.loop (R .ready none))
  have sV : V.heap.size = D + 2 := by simp [V, hD]
  have rV : V.heap[D + 1]? = some (.loop (R .ready none)) := by
    have := World.alloc_heap_new (w.alloc (.deferred (some []))) (.loop (R .ready none))
    rwa [World.size_alloc, hD] at this
  have dV : V.heap[D]? = some (.deferred (some [])) := by
    have := World.alloc_heap_new w (.deferred (some []))
    rw [hD] at this
    exact (Below.heap_alloc _ _ _ (by simp; omega)).trans this
  have iV : I 0 V := hI.alloc _ (hI.alloc _ h0)
  have bV : Below w.heap.size w V := ((Below.refl _ w).alloc (Nat.le_refl _) _).alloc (by simp) _
  have keep : ∀ {X Y : World} {row : Option Nat} {k : Nat} {o : Obj}, X.grownBy Y row → (∀ r, row = some r → V.heap.size ≤ r ∧ ∃ o : Obj, X.heap[r]? = some o ∧ o.isCells = false) → k < D + 2 → X.heap[k]? = some o → Y.heap[k]? = some o := by
    intro X Y row k o hXY hr hk hX
    refine (hXY.block k (Array.getElem?_eq_some_iff.1 hX).1 fun e => ?_).trans hX
    have := (hr k e.symm).1
    omega
  have wide : ∀ {X : World} {row : Option Nat}, (∀ r, row = some r → V.heap.size ≤ r ∧ ∃ o : Obj, X.heap[r]? = some o ∧ o.isCells = false) → ∀ r, row = some r → D ≤ r ∧ ∃ o : Obj, X.heap[r]? = some o ∧ o.isCells = false :=
    fun hr r e => ⟨by have := (hr r e).1; omega, (hr r e).2⟩
  refine ⟨D + 1, [{ target := .collected D, args := #[] }], V, { target := .fn (.func gf) lb, args := #[.func (.yield (D + 1)) #[] #[]] }, V, gf, #[.func (.yield (D + 1)) #[] #[]] ++ lb, V, ?_, ?_, fun _ _ => trivial, ?_, fun _ => h1, ?_⟩
  · have := run_enterLoop_outer (P := P) (w := w) fn a.tmps ps assign body
    rw [hD] at this
    exact this
  · simp only [resolve, hg]
    simp [go_sem]
  · simp [invoke, go_sem, eg]
  refine (hseq (D + 1) (fun k W => I k W ∧ W.heap[D + 1]? = some (.loop (R .ready none)) ∧ W.heap[D]? = some (.deferred (some []))) V (hD ▸ bV)
    (fun s A B row hs hAB hr => ⟨hI s A B row hs.1 hAB (wide hr), keep hAB hr (by omega) hs.2.1, keep hAB hr (by omega) hs.2.2⟩) ?_ ⟨iV, rV, dV⟩).mono ?_
  · -- a round
    rintro k X hk ⟨iX, rX, dX⟩
    have ltX : D + 1 < X.heap.size := (Array.getElem?_eq_some_iff.1 rX).1
    obtain ⟨X1, hX1⟩ : ∃ X1, X1 = X.alloc (.cells #[.int .i64 (pt T k).x, .int .i64 (pt T k).y, .int .i64 (pt T k).z] tp) := ⟨_, rfl⟩
    have gX : X.grownBy X1 none := by rw [hX1]; exact World.grownBy_alloc X _ none
    have up : ∀ {j : Nat} {o : Obj}, X.heap[j]? = some o → X1.heap[j]? = some o := fun hX => (gX.block _ (Array.getElem?_eq_some_iff.1 hX).1 (fun e => by cases e)).trans hX
    have rX1 := up rX
    have dX1 := up dX
    have iX1 : I k X1 := hI k X X1 none iX gX (fun r e => by cases e)
    have ltX1 : D + 1 < X1.heap.size := (Array.getElem?_eq_some_iff.1 rX1).1
    have oX1 : X1.heap[X.heap.size]? = some (.cells #[.int .i64 (pt T k).x, .int .i64 (pt T k).y, .int .i64 (pt T k).z] tp) := by rw [hX1]; exact World.alloc_heap_new X _
    refine ⟨fn, _, assign, body, run_yield (P := P) (args := #[(pt T k).v]) rX (by simp [R, hps]), roundIn_of_wpIn hfn (hassign _ k X _ _ hk rfl ?_)⟩
    rw [← hX1]
    refine ⟨_, run_beginRound rX1 rfl, ?_⟩
    let Y : World := X1.putObj (D + 1) (.loop { R .ready none with state := .busy })
    have rY : Y.heap[D + 1]? = some (.loop { R .ready none with state := .busy }) := World.putObj_heap_same ltX1
    have dY : Y.heap[D]? = some (.deferred (some [])) := (World.putObj_heap_other (by omega)).trans dX1
    have gY : X1.grownBy Y (some (D + 1)) := grownBy_putObj' X1 (D + 1) _
    have iZ0 : ∀ Z : World, Y.grownBy Z (some X.heap.size) → I k Z := fun Z hZ => by
      refine hI k X Z (some (D + 1)) iX ⟨hZ.os.trans (gY.os.trans gX.os), hZ.tape.trans (gY.tape.trans gX.tape), hZ.output.trans (gY.output.trans gX.output), Nat.le_trans gX.size (Nat.le_trans gY.size hZ.size), fun j hj hn => ?_⟩ (fun r e => by cases e; exact ⟨by omega, _, rX, rfl⟩)
      have hs1 := gX.size
      have hs2 := gY.size
      exact (hZ.block j (by omega) (fun e => by cases e; omega)).trans ((gY.block j (by omega) hn).trans (gX.block j hj (fun e => by cases e)))
    refine wpIn_mono (hbody _ k Y X.heap.size hk iZ0 (by omega) ((World.putObj_heap_other (by omega)).trans oX1)) ?_
    have far : ∀ (o : Obj) (Z : World), KeepsFrom D Y Z → KeepsFrom (D + 2) X (Z.putObj (D + 1) o) := fun o Z hZ =>
      ⟨by have h9 := hZ.size; have h8 := gX.size; simp [Y] at h9 ⊢; omega, fun j o' hj hX ho => (World.putObj_heap_other (by omega)).trans (hZ.same j o' (by omega) ((World.putObj_heap_other (by omega)).trans (up hX)) ho)⟩
    have ends : ∀ (jump : Option Code) (Z : World), KeepsFrom D Y Z → (Instr.endRound (D + 1) jump).run P Z = .ok (.bool jump.isNone) (Z.putObj (D + 1) (.loop (R (if jump.isNone then .ready else .done) jump))) ∧ Z.heap[D + 1]? = some (.loop { R .ready none with state := .busy }) ∧
        (Z.putObj (D + 1) (.loop (R (if jump.isNone then .ready else .done) jump))).heap[D + 1]? = some (.loop (R (if jump.isNone then .ready else .done) jump)) ∧ (Z.putObj (D + 1) (.loop (R (if jump.isNone then .ready else .done) jump))).heap[D]? = some (.deferred (some [])) := by
      intro jump Z hZ
      have rZ := hZ.same _ _ (by omega) rY rfl
      exact ⟨run_endRound (P := P) jump rZ, rZ, World.putObj_heap_same (Array.getElem?_eq_some_iff.1 rZ).1, (World.putObj_heap_other (by omega)).trans (hZ.same _ _ (Nat.le_refl _) dY rfl)⟩
    intro e a3 Z hp
    cases e with
    | normal =>
      obtain ⟨hZ, kZ, iZ⟩ := hp
      obtain ⟨e1, e2, e3, e4⟩ := ends none Z hZ
      exact ⟨_, _, e1, rfl, ⟨hI.putObj _ iZ (by omega) e2 rfl, e3, e4⟩, (⟨Nat.le_trans gX.size (Nat.le_trans gY.size kZ.size), fun q v hq hv => kZ.cell q v ⟨hq, fun e => by have := World.block_lt_of_cell? _ _ hv; omega⟩ (((KeepC.grown (S := S) gX).trans (KeepC.put _ rX1 rfl)).cell q v hq hv)⟩ : KeepC S X Z).trans (KeepC.put _ e2 rfl), hD ▸ far _ Z hZ⟩
    | ret => exact hp.elim
    | exit id => exact hp.elim
    | goto t => exact hp.elim
    | panic ch => exact hp.elim
    | outgrown => exact hp.elim
  · rintro e X ⟨⟨v, rfl⟩, iX, rX, dX⟩
    exact ⟨none, _, run_endLoop (P := P) rX (by simp [R]), hdone D _ (Nat.le_refl _) (hI.putObj _ iX (by omega) rX rfl) ((World.putObj_heap_other (by omega)).trans dX)⟩
end Go.Proofs.YtbhdfjoagajipaaGreat
namespace Go.Proofs.YtbhdfjoagajipaaGreat
set_option linter.unusedVariables false

/-- Six times the volume between four points. -/
def vol (p q r s : Pt) : Int := ((q.sub p).cross (r.sub p)).dot (s.sub p)
def flatP (L : List Pt) : Bool := L.all fun c => L.all fun m => decide (vol (pt L 0) (pt L 1) c m = 0)
/-! A hull's sides. -/
def above (L : List Pt) (n a : Pt) : Bool := L.any fun m => decide (0 < n.dot (m.sub a))
def below (L : List Pt) (n a : Pt) : Bool := L.any fun m => decide (n.dot (m.sub a) < 0)
end Go.Proofs.YtbhdfjoagajipaaGreat
namespace Go.Proofs.YtbhdfjoagajipaaGreat
set_option linter.unusedVariables false

theorem mul_in {a b A B : Int} (ha : -A ≤ a ∧ a ≤ A) (hb : -B ≤ b ∧ b ≤ B) : -(A * B) ≤ a * b ∧ a * b ≤ A * B := by
  have h1 := Int.mul_nonneg (show 0 ≤ A - a by omega) (show 0 ≤ B - b by omega)
  have h2 := Int.mul_nonneg (show 0 ≤ A + a by omega) (show 0 ≤ B + b by omega)
  have h3 := Int.mul_nonneg (show 0 ≤ A - a by omega) (show 0 ≤ B + b by omega)
  have h4 := Int.mul_nonneg (show 0 ≤ A + a by omega) (show 0 ≤ B - b by omega)
  simp only [Int.mul_add, Int.add_mul, Int.mul_sub, Int.sub_mul] at h1 h2 h3 h4
  omega
end Go.Proofs.YtbhdfjoagajipaaGreat
namespace Go.Proofs.YtbhdfjoagajipaaGreat
open Go.RowKit Go.Shelf
set_option linter.unusedVariables false

theorem prod_in {x y A B : Int} (hx : -A ≤ x ∧ x ≤ A) (hy : -B ≤ y ∧ y ≤ B) (h : A * B ≤ 1152921504606846976) : -1152921504606846976 ≤ x * y ∧ x * y ≤ 1152921504606846976 := by
  have := mul_in hx hy
  omega
set_option maxHeartbeats 1000000 in
theorem divided_any (p : Pt) (n : Int) (w : World) (hp : p.inB 1152921504606846976 = true) (hn : 0 < n) (hn' : n ≤ 1152921504606846976):
    Calls Tryz.prog 114 #[p.v, .int .i64 n] w fun e W => e = .returned (p.by n).v ∧ Below w.heap.size w W := by
  obtain ⟨x, y, z⟩ := p
  rw [Pt.inB_iff] at hp
  unfold Pt.v Pt.by
  dsimp only at *
  go_enter Tryz.func114, Tryz.ntmps114
  go_wp2
  go_region
  go_wp2
  exact bodyPost_ret (v := .agg #[.int .i64 (x.tdiv n), .int .i64 (y.tdiv n), .int .i64 (z.tdiv n)]) (by simp [results, Tryz.results114, go_sem]) rfl ⟨rfl, (((Below.refl _ w).alloc (Nat.le_refl _) _).alloc (by simp) _).drew⟩
set_option maxHeartbeats 1000000 in
theorem within_any (p : Pt) (m : Int) (w : World) (hm : 0 ≤ m) (hm' : m ≤ 1152921504606846976) :
    Calls Tryz.prog 112 #[p.v, .int .i64 m] w fun e W => e = .returned (.bool (p.inB m)) ∧ Below w.heap.size w W := by
  obtain ⟨x, y, z⟩ := p
  have HE : Hid (∀ b : Bool, (b = true ↔ (-m ≤ x ∧ x ≤ m) ∧ (-m ≤ y ∧ y ≤ m) ∧ (-m ≤ z ∧ z ≤ m)) → Pt.inB ⟨x, y, z⟩ m = b) := fun b h => by
    rw [Bool.eq_iff_iff, h, Pt.inB_iff]
  unfold Pt.v
  go_enter Tryz.func112, Tryz.ntmps112
  go_wp2
  all_goals
    go_ret
    exact ⟨congrArg (fun b => Ending.returned (.bool b)) (HE.out _ ⟨fun h => by first | (cases h; done) | omega | (have h' := of_decide_eq_true h; omega), fun h => by first | rfl | (exfalso; omega) | exact decide_eq_true (by omega)⟩).symm, n_after w _⟩
theorem gcd_step {x y : Int} (h : y ≠ 0) : Nat.gcd y.natAbs (x.tmod y).natAbs = Nat.gcd x.natAbs y.natAbs := by
  rw [Int.natAbs_tmod, Nat.gcd_comm x.natAbs, Nat.gcd_rec y.natAbs x.natAbs, Nat.gcd_comm]
theorem tmod_lt {x y : Int} (h : y ≠ 0) : (x.tmod y).natAbs < y.natAbs := by
  rw [Int.natAbs_tmod]; exact Nat.mod_lt _ (by omega)
set_option maxHeartbeats 1000000 in
theorem gcd_any (a b : Int) (w : World) (ha : -1152921504606846976 ≤ a ∧ a ≤ 1152921504606846976) (hb : -1152921504606846976 ≤ b ∧ b ≤ 1152921504606846976) :
    Calls Tryz.prog 145 #[.int .i64 a, .int .i64 b] w fun e W => e = .returned (.int .i64 (Nat.gcd a.natAbs b.natAbs : Nat)) ∧ Below w.heap.size w W := by
  go_enter Tryz.func145, Tryz.ntmps145
  go_wp2
  go_loopw [0, 1] (fun s t wr => ∃ x y : Int, s = .int .i64 x ∧ t = .int .i64 y ∧ (-1152921504606846976 ≤ x ∧ x ≤ 1152921504606846976) ∧ (-1152921504606846976 ≤ y ∧ y ≤ 1152921504606846976) ∧ Hid (Nat.gcd x.natAbs y.natAbs = Nat.gcd a.natAbs b.natAbs) ∧ Hid (Below w.heap.size w wr)) (fun _ t _ => (intOf t).natAbs)
  case atStart => exact ⟨a, b, rfl, rfl, ha, hb, rfl, Below.refl _ _⟩
  case round =>
    obtain ⟨x, y, rfl, rfl, hx, hy, HG, HB⟩ := hrel
    by_cases h0 : y = 0
    · subst h0
      have HE : Hid (((Nat.gcd a.natAbs b.natAbs : Nat) : Int) = if x < -x then -x else x) := by
        show _ = _
        rw [← HG.out]
        simp only [Int.natAbs_zero, Nat.gcd_zero_right]
        split <;> omega
      clear HG
      rcases Int.lt_trichotomy x 0 with h | h | h
      · go_wp2
        go_ret
        refine ⟨?_, HB.out⟩
        rw [HE.out]
        exact congrArg (fun n => Ending.returned (.int .i64 n)) (by rw [if_pos (by omega)])
      · subst h
        go_wp2
        go_ret
        exact ⟨by rw [HE.out]; rfl, HB.out⟩
      · go_wp2
        go_ret
        refine ⟨?_, HB.out⟩
        rw [HE.out]
        exact congrArg (fun n => Ending.returned (.int .i64 n)) (by rw [if_neg (by omega)])
    · have HS : Hid _ := gcd_step (x := x) h0
      have hlt := tmod_lt (x := x) h0
      go_wp2
      go_region
      go_wp2
      go_roundw
      case rel => exact ⟨y, x.tmod y, rfl, rfl, hy, by omega, HS.out.trans HG.out, HB.out.drew⟩
      case measure => exact hlt
end Go.Proofs.YtbhdfjoagajipaaGreat
namespace Go.Proofs.YtbhdfjoagajipaaGreat
open Go.RowKit Go.Shelf
set_option linter.unusedVariables false

theorem gcd_le {a b B : Nat} (ha : a ≤ B) (hb : b ≤ B) : Nat.gcd a b ≤ B := by
  by_cases h : a = 0
  · subst h; rw [Nat.gcd_zero_left]; exact hb
  · exact Nat.le_trans (Nat.le_of_dvd (by omega) (Nat.gcd_dvd_left a b)) ha
set_option maxHeartbeats 1000000 in
set_option maxRecDepth 100000 in
theorem lowest_any (p : Pt) (w0 : World) (hp : p.inB 4398046511104 = true) :
    Calls Tryz.prog 113 #[p.v] w0 fun e W => e = .returned p.low.v ∧ Below w0.heap.size w0 W := by
  have hq := hp
  rw [Pt.inB_iff] at hq
  have b1 : Nat.gcd p.x.natAbs p.y.natAbs ≤ 4398046511104 := gcd_le (by omega) (by omega)
  have b2 : p.g ≤ 4398046511104 := gcd_le b1 (by omega)
  have G1 : Hid _ := fun w' => gcd_any p.x p.y w' (by omega) (by omega)
  have G2 : Hid (∀ w', Calls Tryz.prog 145 #[.int .i64 (Nat.gcd p.x.natAbs p.y.natAbs : Nat), .int .i64 p.z] w' fun e W => e = .returned (.int .i64 (p.g : Nat)) ∧ Below w'.heap.size w' W) := fun w' => gcd_any (Nat.gcd p.x.natAbs p.y.natAbs : Nat) p.z w' (by omega) (by omega)
  have HD : Hid (p.g ≠ 0 → ∀ w', Calls Tryz.prog 114 #[p.v, .int .i64 (p.g : Nat)] w' fun e W => e = .returned (p.by p.g).v ∧ Below w'.heap.size w' W) := fun h w' => divided_any p p.g w' (inB_mono hp (by decide)) (by omega) (by omega)
  have HL : Hid (p.low = if p.g = 0 then p else p.by p.g) := rfl
  generalize p.low = r at *
  generalize Nat.gcd p.x.natAbs p.y.natAbs = m1 at *
  generalize p.g = m2 at *
  obtain ⟨x, y, z⟩ := p
  clear hp hq
  unfold Pt.v at *
  dsimp only at *
  go_enter Tryz.func113, Tryz.ntmps113
  go_wp2_with (fail)
  obtain ⟨V, hV⟩ : ∃ V : World, V = ((w0.alloc (.cells #[.int .i64 x, .int .i64 y, .int .i64 z] 23)).alloc (.cells #[.int .i64 0, .int .i64 0, .int .i64 0] 23)) := ⟨_, rfl⟩
  have hBV : Below w0.heap.size w0 V := by rw [hV]; exact (((Below.refl _ w0).alloc (by simp; try omega) _).alloc (by simp; try omega) _)
  have V0_0 : V.cell? ⟨w0.heap.size, 0, none⟩ = some (.int .i64 x) := by rw [hV]; simp [go_sem]
  have V0_1 : V.cell? ⟨w0.heap.size, 1, none⟩ = some (.int .i64 y) := by rw [hV]; simp [go_sem]
  have V0_2 : V.cell? ⟨w0.heap.size, 2, none⟩ = some (.int .i64 z) := by rw [hV]; simp [go_sem]
  have V1_0 : V.cell? ⟨w0.heap.size + 1, 0, none⟩ = some (.int .i64 0) := by rw [hV]; simp [go_sem]
  have V1_1 : V.cell? ⟨w0.heap.size + 1, 1, none⟩ = some (.int .i64 0) := by rw [hV]; simp [go_sem]
  have V1_2 : V.cell? ⟨w0.heap.size + 1, 2, none⟩ = some (.int .i64 0) := by rw [hV]; simp [go_sem]
  have Vf1_0 : V.frozen? ⟨w0.heap.size + 1, 0, none⟩ = false := by rw [hV]; simp [go_sem]
  have Vf1_1 : V.frozen? ⟨w0.heap.size + 1, 1, none⟩ = false := by rw [hV]; simp [go_sem]
  have Vf1_2 : V.frozen? ⟨w0.heap.size + 1, 2, none⟩ = false := by rw [hV]; simp [go_sem]
  rw [← hV]
  clear hV
  refine RV.region_is [.some (.pointer (some ⟨w0.heap.size, 0, none⟩)), .some (.int .i64 (x)), .some (.pointer (some ⟨w0.heap.size, 1, none⟩)), .some (.int .i64 (y)), .some (.int .i64 ((m1 : Nat))), .some (.pointer (some ⟨w0.heap.size, 2, none⟩)), .some (.int .i64 (z)), .some (.int .i64 ((m2 : Nat))), .some (.int .i64 ((m2 : Nat)))] [5, 6, 7, 8, 9, 10, 11, 12, 4] [(1, .pointer (some ⟨w0.heap.size, 0, none⟩))] (fun γ L w9 => Below V.heap.size V w9) (by kernel_rfl) (by kernel_rfl) (by kernel_rfl) (by kernel_rfl) (by kernel_rfl) (by kernel_rfl) (by kernel_rfl) ⟨rfl, trivial⟩ ?_ ?_ ?_
  · exact (Below.refl _ V).drew
  · intro D WA Z hD hWA hZ T
    simp only [RV.Outs, RV.Slots, Nat.reduceAdd] at T
    iterate 4 first
      | (refine RV.AllDo.cons _ (RV.pu T (fun γ v L w hl h => h) (fun γ L a w hH hl h9 k9 => ⟨_, ?_, rfl⟩)) ?_; · simp [execOp, go_sem, h9])
      | (refine RV.AllDo.cons _ (RV.pu T (fun γ v L w hl h => h) (fun γ L a w hH hl h9 k9 => ⟨_, ?_, rfl⟩)) ?_; · have hB9 := hH.glob; have q0 := c_after hB9 V0_0; have q1 := c_after hB9 V0_1; simp [Region.binds] at k9; simp [execOp, go_sem, h9, k9, q0, q1])
    refine RV.AllDo.cons _ (RV.does_call (fun γ L a w hH hl hA => by have h9 := T γ L a w hH; have k9 := hA; simp [Region.binds] at k9; have hB9 := hH.glob; exact ⟨145, #[.int .i64 (x), .int .i64 (y)], by simp [go_sem, h9, k9], Calls.mono (G1.out w) (by rintro e w2 ⟨rfl, hb⟩; exact ⟨_, rfl, rfl, fun j v _ h => h.keep _, hB9.trans (hb.mono hB9.size)⟩)⟩)) ?_
    iterate 2 first
      | (refine RV.AllDo.cons _ (RV.pu T (fun γ v L w hl h => h) (fun γ L a w hH hl h9 k9 => ⟨_, ?_, rfl⟩)) ?_; · simp [execOp, go_sem, h9])
      | (refine RV.AllDo.cons _ (RV.pu T (fun γ v L w hl h => h) (fun γ L a w hH hl h9 k9 => ⟨_, ?_, rfl⟩)) ?_; · have hB9 := hH.glob; have q0 := c_after hB9 V0_2; simp [Region.binds] at k9; simp [execOp, go_sem, h9, k9, q0])
    refine RV.AllDo.cons _ (RV.does_call (fun γ L a w hH hl hA => by have h9 := T γ L a w hH; have k9 := hA; simp [Region.binds] at k9; have hB9 := hH.glob; exact ⟨145, #[.int .i64 ((m1 : Nat)), .int .i64 (z)], by simp [go_sem, h9, k9], Calls.mono (G2.out w) (by rintro e w2 ⟨rfl, hb⟩; exact ⟨_, rfl, rfl, fun j v _ h => h.keep _, hB9.trans (hb.mono hB9.size)⟩)⟩)) ?_
    (refine RV.AllDo.cons _ (RV.pu T (fun γ v L w hl h => h) (fun γ L a w hH hl h9 k9 => ⟨_, ?_, rfl⟩)) ?_; · simp [Region.binds] at k9; simp [execOp, go_sem, h9, k9])
    exact RV.AllDo.nil
  · intro γ w5 L9 hL hI9 hG9
    have hb8 := hG9
    clear hL hI9 hG9
    simp only [RV.putL, Act.put, List.setIfInBounds_toArray, List.set_cons_zero, List.set_cons_succ]
    have hB5 := hBV.trans (hb8.mono hBV.size)
    have p0 := c_after hb8 V0_0
    have p1 := c_after hb8 V0_1
    have p2 := c_after hb8 V0_2
    have q0 := c_after hb8 V1_0
    have q1 := c_after hb8 V1_1
    have q2 := c_after hb8 V1_2
    have k0 := f_after hb8 V1_0 Vf1_0
    have k1 := f_after hb8 V1_1 Vf1_1
    have k2 := f_after hb8 V1_2 Vf1_2
    by_cases h0 : m2 = 0
    · have h0' : (m2 : Int) = 0 := by omega
      have e : r = ⟨x, y, z⟩ := by rw [HL.out, if_pos h0]
      subst e
      clear HL HD G1 G2 h0
      go_wp2_with (fail)
      refine bodyPost_ret (v := .agg #[.int .i64 x, .int .i64 y, .int .i64 z]) (by simp [results, Tryz.results113, go_sem, q0, q1, q2]) rfl ⟨rfl, ?_⟩
      exact (((hB5.setCell (by simp) _).setCell (by simp) _).setCell (by simp) _)
    · have h0' : ¬ (m2 : Int) = 0 := by omega
      have e : r = Pt.by ⟨x, y, z⟩ m2 := by rw [HL.out, if_neg h0]
      have HD : Hid _ := HD.out h0
      rw [← e] at HD
      obtain ⟨rx, ry, rz⟩ := r
      clear e HL G1 G2
      dsimp only at *
      go_wp2_with (fail)
      refine Calls.mono (HD.out _) ?_
      clear HD
      rintro e W9 ⟨rfl, hb9⟩
      have q0 := c_after hb9 q0
      have q1 := c_after hb9 q1
      have q2 := c_after hb9 q2
      have k0 := f_after hb9 (c_after hb8 V1_0) k0
      have k1 := f_after hb9 (c_after hb8 V1_1) k1
      have k2 := f_after hb9 (c_after hb8 V1_2) k2
      go_wp2
      refine bodyPost_ret (v := .agg #[.int .i64 rx, .int .i64 ry, .int .i64 rz]) (by simp [results, Tryz.results113, go_sem, q0, q1, q2]) rfl ⟨rfl, ?_⟩
      exact ((((b_step hB5 hb9).setCell (by simp) _).setCell (by simp) _).setCell (by simp) _)
theorem halveF_step (k : Nat) (q : Pt) (h : q.inB 1048576 = false) (hb : q.inB (2 ^ k : Nat) = true) : ∃ j, k = j + 1 ∧ halveF k q = halveF j (q.by 2) ∧ (q.by 2).inB (2 ^ j : Nat) = true := by
  cases k with
  | zero => rw [inB_mono hb (by decide)] at h; cases h
  | succ j =>
    refine ⟨j, rfl, by rw [halveF, if_neg (by rw [h]; decide)], half_in ?_⟩
    rw [Nat.pow_succ, Nat.mul_comm, Int.natCast_mul] at hb
    exact hb
theorem cast_pow (k : Nat) (h : k ≤ 43) : (((2 ^ k : Nat) : Nat) : Int) ≤ 8796093022208 := by
  have := Nat.pow_le_pow_right (n := 2) (by decide) h
  have e : 2 ^ 43 = 8796093022208 := by decide
  omega
set_option maxHeartbeats 1000000 in
set_option maxRecDepth 100000 in
theorem short_any (p : Pt) (w0 : World) :
    Calls Tryz.prog 67 #[p.v] w0 fun e W => e = .returned p.short.v ∧ Below w0.heap.size w0 W := by
  have HW : Hid (∀ w', Calls Tryz.prog 112 #[p.v, .int .i64 4398046511104] w' fun e W => e = .returned (.bool (p.inB 4398046511104)) ∧ Below w'.heap.size w' W) := fun w' => within_any p _ w' (by decide) (by decide)
  have HX : Hid (∀ q : Pt, ∀ w', Calls Tryz.prog 112 #[q.v, .int .i64 1048576] w' fun e W => e = .returned (.bool (q.inB 1048576)) ∧ Below w'.heap.size w' W) := fun q w' => within_any q _ w' (by decide) (by decide)
  have HLO : Hid (∀ q : Pt, q.inB 4398046511104 = true → ∀ w', Calls Tryz.prog 113 #[q.v] w' fun e W => e = .returned q.low.v ∧ Below w'.heap.size w' W) := fun q hq w' => lowest_any q w' hq
  have HD : Hid (∀ q : Pt, q.inB 1152921504606846976 = true → ∀ w', Calls Tryz.prog 114 #[q.v, .int .i64 2] w' fun e W => e = .returned (q.by 2).v ∧ Below w'.heap.size w' W) := fun q hq w' => divided_any q 2 w' hq (by decide) (by decide)
  have bx0 : Hid (Box3 ((w0.alloc (.cells #[.int .i64 p.x, .int .i64 p.y, .int .i64 p.z] 23)).alloc (.cells #[.int .i64 0, .int .i64 0, .int .i64 0] 23)) w0.heap.size p) := (Box3.new w0 p.x p.y p.z _).step (n_after _ _)
  have bx1 : Hid (Box3 ((w0.alloc (.cells #[.int .i64 p.x, .int .i64 p.y, .int .i64 p.z] 23)).alloc (.cells #[.int .i64 0, .int .i64 0, .int .i64 0] 23)) (w0.heap.size + 1) Pt.O) := by have := Box3.new (w0.alloc (.cells #[.int .i64 p.x, .int .i64 p.y, .int .i64 p.z] 23)) 0 0 0 23; rwa [World.size_alloc] at this
  have hB0 : Hid (Below w0.heap.size w0 ((w0.alloc (.cells #[.int .i64 p.x, .int .i64 p.y, .int .i64 p.z] 23)).alloc (.cells #[.int .i64 0, .int .i64 0, .int .i64 0] 23))) := b_step (n_after w0 _) (n_after _ _)
  obtain ⟨r, hr⟩ : ∃ r, p.short = r := ⟨_, rfl⟩
  rw [hr]
  have HR : Hid _ := hr
  clear hr
  unfold Pt.v at *
  go_enter Tryz.func67, Tryz.ntmps67
  go_wp2_with (fail)
  refine Calls.mono (HW.out _) ?_
  clear HW
  rintro e V ⟨rfl, hb⟩
  have b0 : Hid _ := bx0.out.step hb
  have b1 : Hid _ := bx1.out.step hb
  have hB : Hid _ := b_step hB0.out hb
  clear bx0 bx1 hB0 hb
  cases hin : p.inB 4398046511104 with
  | false =>
    have e : r = Pt.O := by rw [← HR.out]; unfold Pt.short; rw [if_neg (by rw [hin]; decide)]
    clear HR
    subst e
    obtain ⟨c0, c1, c2, f0, f1, f2⟩ := b1.out
    simp only [Pt.O] at c0 c1 c2
    go_wp2_with (fail)
    refine bodyPost_ret (v := .agg #[.int .i64 0, .int .i64 0, .int .i64 0]) (by simp [results, Tryz.results67, go_sem, c0, c1, c2]) rfl ⟨rfl, ?_⟩
    exact set3_below hB.out (by omega) 0 0 0
  | true =>
    have hlow := Pt.low_in hin
    have HR : Hid (r = (halveF 43 p.low).low) := by show _ = _; rw [← HR.out]; unfold Pt.short; rw [if_pos hin]; rfl
    have HL1 : Hid _ := HLO.out p hin
    obtain ⟨c0, c1, c2, f0, f1, f2⟩ := b0.out
    go_wp2_with (fail)
    refine Calls.mono (HL1.out _) ?_
    clear HL1
    rintro e V2 ⟨rfl, hb⟩
    have b0 : Hid (Box3 (set3 V2 w0.heap.size p.low.x p.low.y p.low.z) w0.heap.size p.low) := (b0.out.step hb).set _ _ _
    have b1 : Hid (Box3 (set3 V2 w0.heap.size p.low.x p.low.y p.low.z) (w0.heap.size + 1) Pt.O) := (b1.out.step hb).other (by omega) _ _ _
    have hB : Hid (Below w0.heap.size w0 (set3 V2 w0.heap.size p.low.x p.low.y p.low.z)) := set3_below (b_step hB.out hb) (Nat.le_refl _) _ _ _
    have d0 := c_after hb c0
    have d1 := c_after hb c1
    have d2 := c_after hb c2
    have f0 := f_after hb c0 f0
    have f1 := f_after hb c1 f1
    have f2 := f_after hb c2 f2
    unfold set3 at b0 b1 hB
    clear hb c0 c1 c2
    go_wp2_with (fail)
    clear d0 d1 d2 f0 f1 f2
    have hL2 : p.low.inB (2 ^ 43 : Nat) = true := inB_mono hlow (by decide)
    go_loopg [] 43 (fun g wr => ∃ q : Pt, Hid (Box3 wr w0.heap.size q) ∧ Hid (Box3 wr (w0.heap.size + 1) Pt.O) ∧ Hid (Below w0.heap.size w0 wr) ∧ g ≤ 43 ∧ Hid (halveF g q = halveF 43 p.low) ∧ Hid (q.inB (2 ^ g : Nat) = true))
    case atStart => exact ⟨p.low, b0, b1, hB, Nat.le_refl _, rfl, hL2⟩
    case round =>
      clear b0 b1 hB hL2
      obtain ⟨q, b0, b1, hB, hg, HF, HI⟩ := hrel
      have hG : Hid _ := hg
      clear hg
      obtain ⟨c0, c1, c2, f0, f1, f2⟩ := b0.out
      go_wp2_with (fail)
      refine Calls.mono (HX.out q _) ?_
      rintro e V3 ⟨rfl, hb⟩
      clear c0 c1 c2 f0 f1 f2
      have b0 : Hid _ := b0.out.step hb
      have b1 : Hid _ := b1.out.step hb
      have hB : Hid _ := b_step hB.out hb
      clear hb
      cases hq : q.inB 1048576 with
      | false =>
        obtain ⟨j, hj, ej, hin2⟩ := halveF_step _ q hq HI.out
        have HJ : Hid _ := And.intro hj (And.intro ej hin2)
        have hq2 : q.inB 1152921504606846976 = true := inB_mono HI.out (by have := cast_pow _ hG.out; omega)
        have HD2 : Hid _ := HD.out q hq2
        clear hj ej hin2 hq2
        obtain ⟨c0, c1, c2, f0, f1, f2⟩ := b0.out
        go_wp2_with (fail)
        refine Calls.mono (HD2.out _) ?_
        clear HD2
        rintro e V4 ⟨rfl, hb⟩
        have b0 : Hid (Box3 (set3 V4 w0.heap.size (q.by 2).x (q.by 2).y (q.by 2).z) w0.heap.size (q.by 2)) := (b0.out.step hb).set _ _ _
        have b1 : Hid (Box3 (set3 V4 w0.heap.size (q.by 2).x (q.by 2).y (q.by 2).z) (w0.heap.size + 1) Pt.O) := (b1.out.step hb).other (by omega) _ _ _
        have hB : Hid (Below w0.heap.size w0 (set3 V4 w0.heap.size (q.by 2).x (q.by 2).y (q.by 2).z)) := set3_below (b_step hB.out hb) (Nat.le_refl _) _ _ _
        have d0 := c_after hb c0
        have d1 := c_after hb c1
        have d2 := c_after hb c2
        have f0 := f_after hb c0 f0
        have f1 := f_after hb c1 f1
        have f2 := f_after hb c2 f2
        unfold set3 at b0 b1 hB
        clear hb c0 c1 c2
        go_wp2_with (fail)
        go_roundg j
        case measure => have := HJ.out.1; omega
        case rel => exact ⟨q.by 2, b0, b1, hB, by have := HJ.out.1; have := hG.out; omega, HJ.out.2.1.symm.trans HF.out, HJ.out.2.2⟩
      | true =>
        have e : r = q.low := by rw [HR.out, ← HF.out, halveF_id _ _ hq]
        have HL1 : Hid _ := HLO.out q (inB_mono hq (by decide))
        rw [← e] at HL1
        clear e HR HF HI HX HLO HD
        obtain ⟨c0, c1, c2, f0, f1, f2⟩ := b0.out
        go_wp2_with (fail)
        refine Calls.mono (HL1.out _) ?_
        clear HL1 c0 c1 c2 f0 f1 f2
        rintro e V4 ⟨rfl, hb⟩
        obtain ⟨c0, c1, c2, f0, f1, f2⟩ := b1.out.step hb
        have hB : Hid _ := b_step hB.out hb
        go_wp2_with (fail)
        refine bodyPost_ret (v := .agg #[.int .i64 r.x, .int .i64 r.y, .int .i64 r.z]) (by simp [results, Tryz.results67, go_sem, c0, c1, c2]) rfl ⟨rfl, ?_⟩
        exact set3_below hB.out (by omega) _ _ _
end Go.Proofs.YtbhdfjoagajipaaGreat
namespace Go.Proofs.YtbhdfjoagajipaaGreat.Fx

theorem div_of {n y q : Int} (hy : 0 < y) (h1 : q * y ≤ n) (h2 : n < (q + 1) * y) : n / y = q ∧ n % y = n - q * y := by
  have e : n / y = q := by
    apply Int.le_antisymm
    · have := (Int.ediv_lt_iff_lt_mul hy).2 h2; omega
    · exact (Int.le_ediv_iff_mul_le hy).2 h1
  refine ⟨e, ?_⟩
  have := Int.emod_add_mul_ediv n y
  rw [e, Int.mul_comm] at this
  omega

theorem div_is (n y : Int) (hy : 0 < y) : n / y * y ≤ n ∧ n < (n / y + 1) * y := by
  have a := Int.emod_add_mul_ediv n y
  have b := Int.emod_nonneg n (by omega : y ≠ 0)
  have c := Int.emod_lt_of_pos n hy
  rw [Int.add_mul, Int.mul_comm (n / y) y]
  omega

/-- A digit's guess q with its rest r: never too small, at most two too great. -/
def Inv (U1 y1 Q q r : Int) : Prop := r + q * y1 = U1 ∧ 0 ≤ r ∧ Q ≤ q ∧ q ≤ 4294967297

theorem inv_start {U1 u1 y1 y0 Q : Int} (hU : 0 ≤ U1) (hUY : U1 < y1 * 4294967296 + y0) (hu0 : 0 ≤ u1) (hu : u1 < 4294967296) (hy0 : 0 ≤ y0) (hy0' : y0 < 4294967296) (hy1 : 2147483648 ≤ y1)
    (hQ0 : 0 ≤ Q) (hQ : Q * (y1 * 4294967296 + y0) ≤ U1 * 4294967296 + u1) : Inv U1 y1 Q (U1 / y1) (U1 % y1) ∧ U1 % y1 < y1 := by
  have a := Int.emod_add_mul_ediv U1 y1
  have b := Int.emod_nonneg U1 (by omega : y1 ≠ 0)
  have c := Int.emod_lt_of_pos U1 (by omega : 0 < y1)
  rw [Int.mul_comm] at a
  refine ⟨⟨a, b, ?_, ?_⟩, c⟩
  · apply (Int.le_ediv_iff_mul_le (by omega)).2
    have e : Q * (y1 * 4294967296 + y0) = Q * y1 * 4294967296 + Q * y0 := by rw [Int.mul_add, Int.mul_assoc]
    have := Int.mul_nonneg hQ0 hy0
    omega
  · have : U1 / y1 < 4294967298 := (Int.ediv_lt_iff_lt_mul (by omega)).2 (by omega)
    omega

theorem inv_step {U1 u1 y1 y0 Q q r : Int} (hUY : U1 < y1 * 4294967296 + y0) (hu0 : 0 ≤ u1) (hu : u1 < 4294967296) (hy0 : 0 ≤ y0) (hy1 : 2147483648 ≤ y1)
    (hQ : Q * (y1 * 4294967296 + y0) ≤ U1 * 4294967296 + u1) (hi : Inv U1 y1 Q q r) (hc : 4294967296 ≤ q ∨ 4294967296 * r + u1 < q * y0) : Inv U1 y1 Q (q - 1) (r + y1) := by
  obtain ⟨h1, h2, h3, h4⟩ := hi
  have e : q * (y1 * 4294967296 + y0) = q * y1 * 4294967296 + q * y0 := by rw [Int.mul_add, Int.mul_assoc]
  have hlt : Q < q := by
    rcases hc with hc | hc
    · have : Q * (y1 * 4294967296 + y0) < 4294967296 * (y1 * 4294967296 + y0) := by omega
      have := Int.lt_of_mul_lt_mul_right this (by omega)
      omega
    · have : Q * (y1 * 4294967296 + y0) < q * (y1 * 4294967296 + y0) := by omega
      exact Int.lt_of_mul_lt_mul_right this (by omega)
  refine ⟨?_, by omega, by omega, by omega⟩
  rw [Int.sub_mul]
  omega

theorem inv_end {U1 u1 y1 y0 Q q r : Int} (hy0 : 0 ≤ y0) (hy1 : 2147483648 ≤ y1)
    (hQ : U1 * 4294967296 + u1 < (Q + 1) * (y1 * 4294967296 + y0)) (hi : Inv U1 y1 Q q r) (hc : q * y0 ≤ 4294967296 * r + u1) : q = Q := by
  obtain ⟨h1, h2, h3, h4⟩ := hi
  have e : q * (y1 * 4294967296 + y0) = q * y1 * 4294967296 + q * y0 := by rw [Int.mul_add, Int.mul_assoc]
  have : q * (y1 * 4294967296 + y0) < (Q + 1) * (y1 * 4294967296 + y0) := by omega
  have := Int.lt_of_mul_lt_mul_right this (by omega)
  omega

theorem inv_break {U1 u1 y1 y0 Q q r : Int} (hy0 : 0 ≤ y0) (hy0' : y0 < 4294967296) (hy1 : 2147483648 ≤ y1) (hu0 : 0 ≤ u1)
    (hQ : U1 * 4294967296 + u1 < (Q + 1) * (y1 * 4294967296 + y0)) (hi : Inv U1 y1 Q q r) (hq : q ≤ 4294967296) (hr : 4294967296 ≤ r) : q = Q := by
  refine inv_end hy0 hy1 hQ hi ?_
  have := Int.mul_le_mul_of_nonneg_right hq hy0
  omega

/-- Two digits, one behind the other: the quotient and the rest of what is three digits long. -/
theorem two_digits {U1 u1 u0 Y Q1 Q0 : Int} (hY : 0 < Y) (_hu : 0 ≤ u0) (_hu' : u0 < 4294967296)
    (_h1 : Q1 * Y ≤ U1 * 4294967296 + u1) (_h2 : U1 * 4294967296 + u1 < (Q1 + 1) * Y)
    (h3 : Q0 * Y ≤ (U1 * 4294967296 + u1 - Q1 * Y) * 4294967296 + u0) (h4 : (U1 * 4294967296 + u1 - Q1 * Y) * 4294967296 + u0 < (Q0 + 1) * Y) :
    (U1 * 18446744073709551616 + u1 * 4294967296 + u0) / Y = Q1 * 4294967296 + Q0 ∧
    (U1 * 18446744073709551616 + u1 * 4294967296 + u0) % Y = (U1 * 4294967296 + u1 - Q1 * Y) * 4294967296 + u0 - Q0 * Y := by
  have e : (Q1 * 4294967296 + Q0) * Y = Q1 * Y * 4294967296 + Q0 * Y := by rw [Int.add_mul, Int.mul_right_comm]
  have e' : (Q1 * 4294967296 + Q0 + 1) * Y = Q1 * Y * 4294967296 + (Q0 + 1) * Y := by rw [Int.add_assoc, Int.add_mul, Int.mul_right_comm]
  have := div_of (n := U1 * 18446744073709551616 + u1 * 4294967296 + u0) (q := Q1 * 4294967296 + Q0) hY (by omega) (by omega)
  omega

theorem digit (U1 u1 Y : Int) (h0 : 0 ≤ U1) (h1 : U1 < Y) (h2 : 0 ≤ u1) (h3 : u1 < 4294967296) :
    ∃ Q, 0 ≤ Q ∧ Q < 4294967296 ∧ Q * Y ≤ U1 * 4294967296 + u1 ∧ U1 * 4294967296 + u1 < (Q + 1) * Y := by
  obtain ⟨a, b⟩ := div_is (U1 * 4294967296 + u1) Y (by omega)
  refine ⟨_, ?_, ?_, a, b⟩
  · exact Int.ediv_nonneg (by omega) (by omega)
  · exact (Int.ediv_lt_iff_lt_mul (by omega)).2 (by omega)

theorem scaled {n y : Int} (s : Nat) (hy : 0 < y) : (n * 2 ^ s) / (y * 2 ^ s) = n / y ∧ (n * 2 ^ s) % (y * 2 ^ s) / 2 ^ s = n % y := by
  have hp : (0 : Int) < 2 ^ s := Int.pow_pos (by omega)
  have := div_is n y hy
  have a : n / y * (y * 2 ^ s) ≤ n * 2 ^ s := by rw [← Int.mul_assoc]; exact Int.mul_le_mul_of_nonneg_right this.1 (by omega)
  have b : n * 2 ^ s < (n / y + 1) * (y * 2 ^ s) := by rw [← Int.mul_assoc]; exact Int.mul_lt_mul_of_pos_right this.2 hp
  have h := div_of (Int.mul_pos hy hp) a b
  refine ⟨h.1, ?_⟩
  have m := Int.emod_add_mul_ediv n y
  have e : n * 2 ^ s - n / y * (y * 2 ^ s) = (n % y) * 2 ^ s := by
    rw [← Int.mul_assoc, ← Int.sub_mul]
    congr 1
    rw [Int.mul_comm]; omega
  rw [h.2, e]
  exact Int.mul_ediv_cancel _ (by omega)

/-- The quotient, down, whatever the divisor's sign. -/
def fl (X c : Int) : Int := if c < 0 then (-X) / (-c) else X / c

theorem neg_div {T c : Int} (hc : 0 < c) : (-T) / c = if T % c = 0 then -(T / c) else -(T / c + 1) := by
  have a := Int.emod_add_mul_ediv T c
  have b := Int.emod_nonneg T (by omega : c ≠ 0)
  have d := Int.emod_lt_of_pos T hc
  rw [Int.mul_comm] at a
  split
  · refine (div_of hc ?_ ?_).1
    · rw [Int.neg_mul]; omega
    · rw [Int.add_mul, Int.neg_mul]; omega
  · refine (div_of hc ?_ ?_).1
    · rw [Int.neg_mul, Int.add_mul]; omega
    · rw [Int.neg_add, Int.neg_add_cancel_right, Int.neg_mul]; omega

/-- The whole square root, down. -/
def isq : Nat → Nat
  | 0 => 0
  | n + 1 => if (isq n + 1) * (isq n + 1) ≤ n + 1 then isq n + 1 else isq n

theorem isq_is (n : Nat) : isq n * isq n ≤ n ∧ n < (isq n + 1) * (isq n + 1) := by
  induction n with
  | zero => simp [isq]
  | succ n ih =>
    simp only [isq]
    split
    · refine ⟨by assumption, ?_⟩
      have : (isq n + 1 + 1) * (isq n + 1 + 1) = (isq n + 1) * (isq n + 1) + 2 * isq n + 3 := by grind
      omega
    · omega

theorem isq_of {X r : Int} (h0 : 0 ≤ r) (h1 : r * r ≤ X) (h2 : X < (r + 1) * (r + 1)) : r = (isq X.toNat : Int) := by
  have hX : 0 ≤ X := Int.le_trans (Int.mul_nonneg h0 h0) h1
  obtain ⟨x, rfl⟩ := Int.eq_ofNat_of_zero_le hX
  obtain ⟨r, rfl⟩ := Int.eq_ofNat_of_zero_le h0
  obtain ⟨a, b⟩ := isq_is x
  simp only [Int.toNat_natCast]
  have h1 : r * r ≤ x := by exact_mod_cast h1
  have h2 : x < (r + 1) * (r + 1) := by exact_mod_cast h2
  have c : r < isq x + 1 := by
    apply Nat.lt_of_not_le; intro h
    have := Nat.mul_le_mul h h; omega
  have d : isq x < r + 1 := by
    apply Nat.lt_of_not_le; intro h
    have := Nat.mul_le_mul h h; omega
  omega

/-! The numbers of fx: what each call tells (nothing: the flag is set). -/
def great (n : Int) : Bool := decide (n < -4611686018427387903) || decide (4611686018427387903 < n)
theorem great_iff (n : Int) : great n = true ↔ n < -4611686018427387903 ∨ 4611686018427387903 < n := by simp [great]
theorem not_great (n : Int) : great n = false ↔ -4611686018427387903 ≤ n ∧ n ≤ 4611686018427387903 := by simp [great]
def told (n : Int) : Option Int := if great n then none else some n
def add (a b : Int) : Option Int := if great a || great b then none else told (a + b)
def sub (a b : Int) : Option Int := if great a || great b then none else told (a - b)
def ratio (a b c : Int) : Option Int := if c = 0 then none else if great a || (great b || great c) then none else told (fl (a * b) c)
def root (a : Int) : Option Int := if a < 0 then none else if great a then none else told (isq (a * 4294967296).toNat)
def prods : List Int → List Int → Int
  | a :: l, b :: m => a * b + prods l m
  | _, _ => 0
def dot (l m : List Int) : Option Int := if l.length ≠ m.length then none else if 8 < l.length then none else if l.any great || m.any great then none else told (prods l m / 4294967296)
end Go.Proofs.YtbhdfjoagajipaaGreat.Fx
namespace Go.Proofs.YtbhdfjoagajipaaGreat
open Fx (isq isq_is isq_of)
set_option linter.unusedVariables false

def Pt.dbl (p : Pt) : Pt := ⟨2 * p.x, 2 * p.y, 2 * p.z⟩
def lngF : Nat → Pt → Pt
  | 0, p => p
  | n + 1, p => if p.inB 524288 then lngF n p.dbl else p
def Pt.lng (p : Pt) : Pt := if p.short = Pt.O then Pt.O else lngF 20 p.short
def Pt.far (p : Pt) (n : Nat) : Prop := 2 ^ n ≤ p.x.natAbs ∨ 2 ^ n ≤ p.y.natAbs ∨ 2 ^ n ≤ p.z.natAbs
theorem far_lt {q : Pt} {g : Nat} (hq : q.inB 524288 = true) (hb : q.far (20 - g)) : 1 ≤ g := by
  rw [Pt.inB_iff] at hq
  rcases Nat.eq_zero_or_pos g with rfl | h
  · unfold Pt.far at hb
    simp only [Nat.sub_zero, Nat.reducePow] at hb
    omega
  · exact h
theorem pow_two (n : Nat) : 2 ^ (n + 1) = 2 * 2 ^ n := by rw [Nat.pow_succ, Nat.mul_comm]
theorem far_dbl {q : Pt} {n : Nat} (hb : q.far n) : q.dbl.far (n + 1) := by
  unfold Pt.far Pt.dbl at *
  dsimp only
  rw [pow_two]
  have := hb
  generalize 2 ^ n = m at *
  omega
theorem far_zero {q : Pt} (h : q ≠ Pt.O) : q.far 0 := by
  unfold Pt.far
  simp only [Nat.pow_zero]
  by_cases hx : q.x = 0
  · by_cases hy : q.y = 0
    · by_cases hz : q.z = 0
      · exact absurd (by cases q; simp only [Pt.O] at *; simp [hx, hy, hz]) h
      · omega
    · omega
  · omega
theorem lngF_step {q : Pt} {g : Nat} (hq : q.inB 524288 = true) : lngF (g + 1) q = lngF g q.dbl := by simp [lngF, hq]
theorem lngF_stop {q : Pt} {g : Nat} (hq : q.inB 524288 = false) : lngF g q = q := by cases g <;> simp [lngF, hq]
theorem dbl_in {q : Pt} (h : q.inB 524288 = true) : q.dbl.inB 1048576 = true := by
  rw [Pt.inB_iff] at h ⊢
  unfold Pt.dbl
  dsimp only
  omega
/-- What is made long lies within 2^20, and one part is beyond 2^19. -/
theorem lngF_is : ∀ (g : Nat) (q : Pt), g ≤ 20 → q.inB 1048576 = true → q.far (20 - g) → (lngF g q).inB 1048576 = true ∧ (lngF g q).inB 524288 = false
  | 0, q, _, h, hb => by
    refine ⟨h, ?_⟩
    cases hq : q.inB 524288 with
    | false => exact hq
    | true => exact absurd (far_lt hq hb) (by omega)
  | g + 1, q, hg, h, hb => by
    cases hq : q.inB 524288 with
    | false => rw [lngF_stop hq]; exact ⟨h, hq⟩
    | true =>
      rw [lngF_step hq]
      exact lngF_is g q.dbl (by omega) (dbl_in hq) (by have := far_dbl hb; rwa [show 20 - (g + 1) + 1 = 20 - g by omega] at this)
theorem lng_is (p : Pt) : p.lng = Pt.O ∨ (p.lng.inB 1048576 = true ∧ p.lng.inB 524288 = false) := by
  unfold Pt.lng
  split
  · exact Or.inl rfl
  · next h => exact Or.inr (lngF_is 20 _ (Nat.le_refl _) (short_in p) (far_zero h))
theorem lng_in (p : Pt) : p.lng.inB 1048576 = true := by
  rcases lng_is p with h | h
  · rw [h]; decide
  · exact h.1

theorem sq0 (x : Int) : 0 ≤ x * x := by
  rcases Int.le_total 0 x with h | h
  · exact Int.mul_nonneg h h
  · have := Int.mul_nonneg (a := -x) (b := -x) (by omega) (by omega)
    rwa [Int.neg_mul_neg] at this
/-- A direction's sizes. -/
def dn (n : Pt) : Int := (isq (n.dot n).toNat : Int)
def up (n : Pt) : Int := if dn n * dn n = n.dot n then dn n else dn n + 1
theorem dot_self (n : Pt) : 0 ≤ n.dot n := by
  unfold Pt.dot
  have h1 := sq0 n.x
  have h2 := sq0 n.y
  have h3 := sq0 n.z
  omega
theorem dn_is (n : Pt) : 0 ≤ dn n ∧ dn n * dn n ≤ n.dot n ∧ n.dot n < (dn n + 1) * (dn n + 1) := by
  have h := isq_is (n.dot n).toNat
  have h0 := dot_self n
  unfold dn
  refine ⟨by omega, ?_, ?_⟩
  · have : ((isq (n.dot n).toNat * isq (n.dot n).toNat : Nat) : Int) ≤ ((n.dot n).toNat : Int) := Int.ofNat_le.2 h.1
    rw [Int.natCast_mul] at this
    omega
  · have : ((n.dot n).toNat : Int) < (((isq (n.dot n).toNat + 1) * (isq (n.dot n).toNat + 1) : Nat) : Int) := Int.ofNat_lt.2 h.2
    rw [Int.natCast_mul, Int.natCast_add, show ((1 : Nat) : Int) = 1 from rfl] at this
    have e : ((n.dot n).toNat : Int) = n.dot n := Int.toNat_of_nonneg h0
    omega
theorem dn_of {n : Pt} {r : Int} (h0 : 0 ≤ r) (h1 : r * r ≤ n.dot n) (h2 : n.dot n < (r + 1) * (r + 1)) : r = dn n := isq_of h0 h1 h2

/-- The least and the greatest along a direction, of the first k + 1 points. -/
def loK (n : Pt) (P : List Pt) : Nat → Int
  | 0 => n.dot (pt P 0)
  | k + 1 => min (loK n P k) (n.dot (pt P (k + 1)))
def hiK (n : Pt) (P : List Pt) : Nat → Int
  | 0 => n.dot (pt P 0)
  | k + 1 => max (hiK n P k) (n.dot (pt P (k + 1)))
def loP (n : Pt) (P : List Pt) : Int := loK n P (P.length - 1)
def hiP (n : Pt) (P : List Pt) : Int := hiK n P (P.length - 1)
theorem loK_eq (n : Pt) (P : List Pt) : ∀ k, ∃ i, i ≤ k ∧ loK n P k = n.dot (pt P i)
  | 0 => ⟨0, Nat.le_refl _, rfl⟩
  | k + 1 => by
    obtain ⟨i, hi, e⟩ := loK_eq n P k
    simp only [loK]
    by_cases h : loK n P k ≤ n.dot (pt P (k + 1))
    · exact ⟨i, by omega, by omega⟩
    · exact ⟨k + 1, Nat.le_refl _, by omega⟩
theorem hiK_eq (n : Pt) (P : List Pt) : ∀ k, ∃ i, i ≤ k ∧ hiK n P k = n.dot (pt P i)
  | 0 => ⟨0, Nat.le_refl _, rfl⟩
  | k + 1 => by
    obtain ⟨i, hi, e⟩ := hiK_eq n P k
    simp only [hiK]
    by_cases h : n.dot (pt P (k + 1)) ≤ hiK n P k
    · exact ⟨i, by omega, by omega⟩
    · exact ⟨k + 1, Nat.le_refl _, by omega⟩
theorem neg_dot (n p : Pt) : n.neg.dot p = -(n.dot p) := by unfold Pt.neg Pt.dot; dsimp only; simp only [Int.neg_mul]; omega
theorem hiK_neg (n : Pt) (P : List Pt) : ∀ k, hiK n.neg P k = -(loK n P k)
  | 0 => neg_dot _ _
  | k + 1 => by simp only [hiK, loK, hiK_neg n P k, neg_dot]; omega
/-- How far a dot product goes. -/
theorem dot_inC {n p : Pt} {A B C : Int} (hn : n.inB A = true) (hp : p.inB B = true) (h : 3 * (A * B) ≤ C) : -C ≤ n.dot p ∧ n.dot p ≤ C := by
  rw [Pt.inB_iff] at hn hp
  have h1 := mul_in hn.1 hp.1
  have h2 := mul_in hn.2.1 hp.2.1
  have h3 := mul_in hn.2.2 hp.2.2
  unfold Pt.dot
  omega
theorem loK_in {n : Pt} {P : List Pt} {A B C : Int} (hn : n.inB A = true) (hP : ∀ p ∈ P, p.inB B = true) (h : 3 * (A * B) ≤ C) (k : Nat) (hk : k < P.length) : -C ≤ loK n P k ∧ loK n P k ≤ C := by
  obtain ⟨i, hi, e⟩ := loK_eq n P k
  rw [e]
  exact dot_inC hn (hP _ (pt_mem (by omega))) h
theorem hiK_in {n : Pt} {P : List Pt} {A B C : Int} (hn : n.inB A = true) (hP : ∀ p ∈ P, p.inB B = true) (h : 3 * (A * B) ≤ C) (k : Nat) (hk : k < P.length) : -C ≤ hiK n P k ∧ hiK n P k ≤ C := by
  obtain ⟨i, hi, e⟩ := hiK_eq n P k
  rw [e]
  exact dot_inC hn (hP _ (pt_mem (by omega))) h

/-- The gap of a long direction. -/
def room (n : Pt) (P Q : List Pt) : Int := loP n Q - hiP n P
def gap0 (n : Pt) (P Q : List Pt) : Int := if 0 ≤ room n P Q then (room n P Q).tdiv (up n) else -((dn n - 1 - room n P Q).tdiv (dn n))
def gapZ (P Q : List Pt) (r s : Int) (n : Pt) : Int := gap0 n P Q - r - s

/-- What may be told apart. -/
structure Cr where
  P : List Pt
  A : List Pt
  E : List Pt
  r : Int
def mayC (c : Cr) : Bool := decide (1 ≤ c.P.length ∧ c.P.length ≤ 32) && c.P.all (·.inB 16777216) && (decide (c.A.length ≤ 128) && c.A.all (·.inB 1048576)) && (decide (c.E.length ≤ 128) && c.E.all (·.inB 1048576)) && decide (0 ≤ c.r ∧ c.r ≤ 65536)

/-- The candidates. -/
def crossL (E F : List Pt) : List Pt := E.flatMap fun e => F.map fun f => e.cross f
def wayD (p q : Pt) : Pt := (q.sub p).short
def wayE (d e : Pt) : Pt := (e.cross d).short.cross e
def wayG (EE : List Pt) (p q : Pt) : List Pt := wayD p q :: EE.map fun e => wayE (wayD p q) e
def wayR (Q EE : List Pt) (p : Pt) : List Pt := Q.flatMap fun q => wayG EE p q
def wayL (P Q EE : List Pt) : List Pt := if 2 < P.length ∧ 2 < Q.length then [] else P.flatMap fun p => wayR Q EE p
def candL (a b : Cr) : List Pt := (a.A ++ b.A) ++ (crossL a.E b.E ++ wayL a.P b.P (a.E ++ b.E))
def both : List Pt → List Pt
  | [] => []
  | p :: r => if p.lng = Pt.O then both r else p.lng :: p.lng.neg :: both r
theorem both_app : ∀ A B : List Pt, both (A ++ B) = both A ++ both B
  | [], _ => rfl
  | p :: r, B => by simp only [List.cons_append, both, both_app r B]; split <;> rfl
abbrev Bs := Option (Pt × Int)
def bestS (g : Pt → Int) (s : Bs) (n : Pt) : Bs := match s with
  | none => some (n, g n)
  | some (m, h) => if h < g n then some (n, g n) else some (m, h)
def bestL (g : Pt → Int) (s : Bs) (L : List Pt) : Bs := L.foldl (bestS g) s
def told (a b : Cr) : Pt × Int := match bestL (gapZ a.P b.P a.r b.r) none (both (candL a b)) with
  | none => (⟨0, 0, 1048576⟩, -a.r - b.r)
  | some x => x
theorem pt_mid {A B C : List Pt} {j : Nat} (h : j < B.length) : pt (A ++ (B ++ C)) (A.length + j) = pt B j := by
  unfold pt
  rw [List.getElem?_append_right (by omega), List.getElem?_append_left (by omega)]
  congr 2
  omega
theorem pt_app {A B : List Pt} {j : Nat} : pt (A ++ B) (A.length + j) = pt B j := by
  unfold pt
  rw [List.getElem?_append_right (by omega)]
  congr 2
  omega
theorem pt_left {A B : List Pt} {j : Nat} (h : j < A.length) : pt (A ++ B) j = pt A j := by
  unfold pt
  rw [List.getElem?_append_left h]
theorem pt_map {L : List Pt} {f : Pt → Pt} {j : Nat} (h : j < L.length) : pt (L.map f) j = f (pt L j) := by
  unfold pt
  simp [List.getElem?_map, List.getElem?_eq_getElem h]
/-- A list of lists, one after the other: its parts by their places. -/
theorem flat_part (f : Pt → List Pt) (L : List Pt) {i : Nat} (h : i < L.length) : L.flatMap f = (L.take i).flatMap f ++ (f (pt L i) ++ (L.drop (i + 1)).flatMap f) := by
  have e : L = L.take i ++ pt L i :: L.drop (i + 1) := by rw [← drop_pt h, List.take_append_drop]
  have e2 : L.flatMap f = (L.take i ++ pt L i :: L.drop (i + 1)).flatMap f := congrArg _ e
  rw [e2, List.flatMap_append, List.flatMap_cons]
theorem flat_next (f : Pt → List Pt) (L : List Pt) {i : Nat} (h : i < L.length) : ((L.take (i + 1)).flatMap f).length = ((L.take i).flatMap f).length + (f (pt L i)).length := by
  rw [take_pt h, List.flatMap_append, List.length_append]
  simp
theorem flat_at (f : Pt → List Pt) (L : List Pt) {i j : Nat} (h : i < L.length) (hj : j < (f (pt L i)).length) : pt (L.flatMap f) (((L.take i).flatMap f).length + j) = pt (f (pt L i)) j := by
  rw [flat_part f L h]
  exact pt_mid hj
theorem flat_lt (f : Pt → List Pt) (L : List Pt) {i j : Nat} (h : i < L.length) (hj : j < (f (pt L i)).length) : ((L.take i).flatMap f).length + j < (L.flatMap f).length := by
  rw [flat_part f L h, List.length_append, List.length_append]
  omega
end Go.Proofs.YtbhdfjoagajipaaGreat
namespace Go.Proofs.YtbhdfjoagajipaaGreat
open Go.RowKit Go.Shelf
set_option linter.unusedVariables false

theorem nbetween_any (n a b : Int) (w : World) :
    Calls Tryz.prog 133 #[.int .i64 n, .int .i64 a, .int .i64 b] w fun e w' => e = .returned (.bool (decide (a ≤ n ∧ n ≤ b))) ∧ w' = w := by
  by_cases h1 : a ≤ n
  · go_enter Tryz.func133, Tryz.ntmps133
    go_wp2
    go_ret
    exact ⟨by simp [h1], rfl⟩
  · go_enter Tryz.func133, Tryz.ntmps133
    go_wp2
    go_ret
    exact ⟨by simp; omega, rfl⟩

set_option maxHeartbeats 1000000 in
theorem nless_any (p q : Pt) (w : World) (hp : p.inB 1152921504606846976 = true) (hq : q.inB 1152921504606846976 = true) :
    Calls Tryz.prog 161 #[p.v, q.v] w fun e W => e = .returned (p.sub q).v ∧ Below w.heap.size w W := by
  obtain ⟨x, y, z⟩ := p
  obtain ⟨x', y', z'⟩ := q
  rw [Pt.inB_iff] at hp hq
  unfold Pt.v Pt.sub
  dsimp only at *
  go_enter Tryz.func161, Tryz.ntmps161
  go_wp2
  exact bodyPost_ret (v := .agg #[.int .i64 (x - x'), .int .i64 (y - y'), .int .i64 (z - z')]) (by simp [results, Tryz.results161, go_sem]) rfl ⟨rfl, (((Below.refl _ w).alloc (Nat.le_refl _) _).alloc (by simp) _).alloc (by simp; omega) _⟩
set_option maxHeartbeats 1000000 in
theorem nback_any (p : Pt) (w : World) (hp : p.inB 1152921504606846976 = true) :
    Calls Tryz.prog 141 #[p.v] w fun e W => e = .returned p.neg.v ∧ Below w.heap.size w W := by
  obtain ⟨x, y, z⟩ := p
  rw [Pt.inB_iff] at hp
  unfold Pt.v Pt.neg
  dsimp only at *
  go_enter Tryz.func141, Tryz.ntmps141
  go_wp2
  exact bodyPost_ret (v := .agg #[.int .i64 (-x), .int .i64 (-y), .int .i64 (-z)]) (by simp [results, Tryz.results141, go_sem]) rfl ⟨rfl, (((((Below.refl _ w).alloc (Nat.le_refl _) _).alloc (by simp) _).alloc (by simp; omega) _).alloc (by simp; omega) _).alloc (by simp; omega) _⟩
set_option maxHeartbeats 1000000 in
theorem ndot_any (p q : Pt) (w : World) (hp : p.inB 536870912 = true) (hq : q.inB 536870912 = true) :
    Calls Tryz.prog 163 #[p.v, q.v] w fun e W => e = .returned (.int .i64 (p.dot q)) ∧ Below w.heap.size w W := by
  obtain ⟨x, y, z⟩ := p
  obtain ⟨x', y', z'⟩ := q
  rw [Pt.inB_iff] at hp hq
  unfold Pt.v Pt.dot
  dsimp only at *
  have h1 := prod_in hp.1 hq.1 (by decide)
  have h2 := prod_in hp.2.1 hq.2.1 (by decide)
  have h3 := prod_in hp.2.2 hq.2.2 (by decide)
  clear hp hq
  go_enter Tryz.func163, Tryz.ntmps163
  go_wp2
  go_ret
  exact ⟨rfl, ((Below.refl _ w).alloc (Nat.le_refl _) _).alloc (by simp) _⟩
set_option maxHeartbeats 1000000 in
theorem ncross_any (p q : Pt) (w : World) (hp : p.inB 536870912 = true) (hq : q.inB 536870912 = true) :
    Calls Tryz.prog 159 #[p.v, q.v] w fun e W => e = .returned (p.cross q).v ∧ Below w.heap.size w W := by
  obtain ⟨x, y, z⟩ := p
  obtain ⟨x', y', z'⟩ := q
  rw [Pt.inB_iff] at hp hq
  unfold Pt.v Pt.cross
  dsimp only at *
  have h1 := prod_in hp.2.1 hq.2.2 (by decide)
  have h2 := prod_in hp.2.2 hq.2.1 (by decide)
  have h3 := prod_in hp.2.2 hq.1 (by decide)
  have h4 := prod_in hp.1 hq.2.2 (by decide)
  have h5 := prod_in hp.1 hq.2.1 (by decide)
  have h6 := prod_in hp.2.1 hq.1 (by decide)
  clear hp hq
  go_enter Tryz.func159, Tryz.ntmps159
  go_wp2
  refine bodyPost_ret (v := .agg #[.int .i64 (y * z' - z * y'), .int .i64 (z * x' - x * z'), .int .i64 (x * y' - y * x')]) ?_ rfl ⟨rfl, (((Below.refl _ w).alloc (Nat.le_refl _) _).alloc (by simp) _).alloc (by simp; omega) _⟩
  simp [results, Tryz.results159, go_sem]
set_option maxHeartbeats 1000000 in
theorem nwithin_any (p : Pt) (m : Int) (w : World) (hm : 0 ≤ m) (hm' : m ≤ 1152921504606846976) :
    Calls Tryz.prog 156 #[p.v, .int .i64 m] w fun e W => e = .returned (.bool (p.inB m)) ∧ Below w.heap.size w W := by
  obtain ⟨x, y, z⟩ := p
  have HE : Hid (∀ b : Bool, (b = true ↔ (-m ≤ x ∧ x ≤ m) ∧ (-m ≤ y ∧ y ≤ m) ∧ (-m ≤ z ∧ z ≤ m)) → Pt.inB ⟨x, y, z⟩ m = b) := fun b h => by
    rw [Bool.eq_iff_iff, h, Pt.inB_iff]
  unfold Pt.v
  go_enter Tryz.func156, Tryz.ntmps156
  go_wp2
  all_goals
    go_ret
    exact ⟨congrArg (fun b => Ending.returned (.bool b)) (HE.out _ ⟨fun h => by first | (cases h; done) | omega | (have h' := of_decide_eq_true h; omega), fun h => by first | rfl | (exfalso; omega) | exact decide_eq_true (by omega)⟩).symm, n_after w _⟩
set_option maxHeartbeats 1000000 in
theorem nplus_any (p : Pt) (w : World) (hp : p.inB 1152921504606846976 = true) :
    Calls Tryz.prog 162 #[p.v, p.v] w fun e W => e = .returned p.dbl.v ∧ Below w.heap.size w W := by
  obtain ⟨x, y, z⟩ := p
  rw [Pt.inB_iff] at hp
  unfold Pt.v Pt.dbl
  dsimp only at *
  have e1 : x + x = 2 * x := by omega
  have e2 : y + y = 2 * y := by omega
  have e3 : z + z = 2 * z := by omega
  have HE : Hid _ := And.intro e1 (And.intro e2 e3)
  clear e1 e2 e3
  go_enter Tryz.func162, Tryz.ntmps162
  go_wp2
  exact bodyPost_ret (v := .agg #[.int .i64 (x + x), .int .i64 (y + y), .int .i64 (z + z)]) (by simp [results, Tryz.results162, go_sem]) rfl ⟨by rw [HE.out.1, HE.out.2.1, HE.out.2.2], (((Below.refl _ w).alloc (Nat.le_refl _) _).alloc (by simp) _).alloc (by simp; omega) _⟩

set_option maxHeartbeats 2000000 in
set_option maxRecDepth 100000 in
theorem nall_any (Ls : List Pt) (m : Int) (v : Value) (w : World) (hv : Lies w v Ls) (hm : 0 ≤ m) (hm' : m ≤ 1152921504606846976) :
    Calls Tryz.prog 134 #[v, .int .i64 m] w fun e W => e = .returned (.bool (Ls.all (·.inB m))) ∧ Below w.heap.size w W := by
  obtain ⟨o, cap, rfl, hlc, hcm, hcell⟩ := hv.form
  have HC : Hid _ := hcell
  have HW : Hid _ := fun (p : Pt) (w' : World) => nwithin_any p m w' hm hm'
  clear hv hcell
  go_enter Tryz.func134, Tryz.ntmps134
  go_wp2_with (fail)
  go_loopg [9] Ls.length (fun gm s wr => ∃ i : Nat, s = .int .i64 (i : Int) ∧ i ≤ Ls.length ∧ gm = Ls.length - i ∧ Hid (∀ p ∈ Ls.take i, p.inB m = true) ∧ Hid (Below w.heap.size w wr))
  case atStart => exact ⟨0, rfl, Nat.zero_le _, rfl, by simp [Hid], Below.refl _ _⟩
  case round =>
    obtain ⟨i, rfl, hi, hgm, HT, HB⟩ := hrel
    have HG1 : Hid _ := hgm
    clear hgm
    by_cases hit : i < Ls.length
    · obtain ⟨g, f, rfl, x0, x1, x2⟩ := HC.out i hit
      have y0 := c_after HB.out x0
      have y1 := c_after HB.out x1
      have y2 := c_after HB.out x2
      have HWp : Hid _ := fun w' => HW.out (pt Ls i) w'
      have HTK : Hid (Ls.take (i + 1) = Ls.take i ++ [pt Ls i]) := take_pt hit
      have HM : Hid (pt Ls i ∈ Ls) := pt_mem hit
      generalize pt Ls i = q at *
      obtain ⟨qx, qy, qz⟩ := q
      unfold Pt.v at HWp
      dsimp only at *
      clear x0 x1 x2 HC HW
      go_wp2_with (fail)
      refine Calls.mono (HWp.out _) ?_
      rintro e V ⟨rfl, hb⟩
      have HB2 : Hid _ := b_step HB.out (b_step (n_after _ _) hb)
      clear hb y0 y1 y2
      cases hin : Pt.inB ⟨qx, qy, qz⟩ m with
      | true =>
        have HIN : Hid _ := hin
        clear hin
        go_wp2_with (fail)
        go_roundg (Ls.length - (i + 1))
        case rel =>
          refine ⟨i + 1, by simp, by omega, rfl, fun p hp => ?_, HB2⟩
          rw [HTK.out, List.mem_append] at hp
          rcases hp with hp | hp
          · exact HT.out p hp
          · rw [List.mem_singleton.1 hp]; exact HIN.out
        case measure => have := HG1.out; omega
      | false =>
        have HAL : Hid (Ls.all (·.inB m) = false) := by
          show _ = _
          rw [List.all_eq_false]
          exact ⟨_, HM.out, by rw [hin]; decide⟩
        clear hin
        go_wp2_with (fail)
        go_ret
        exact ⟨by rw [HAL.out]; rfl, HB2.out⟩
    · obtain rfl : i = Ls.length := by omega
      have HAL : Hid (Ls.all (·.inB m) = true) := by
        show _ = _
        rw [List.all_eq_true]
        intro p hp
        exact HT.out p (by rw [List.take_length]; exact hp)
      go_wp2_with (fail)
      go_ret
      exact ⟨by rw [HAL.out]; rfl, HB.out⟩
end Go.Proofs.YtbhdfjoagajipaaGreat
